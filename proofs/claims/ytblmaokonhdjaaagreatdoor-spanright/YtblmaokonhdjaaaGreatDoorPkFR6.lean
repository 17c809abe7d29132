import Derived.Test.YtblmaokonhdjaaaGreatDoorPkFR5
import Derived.Test.YtblmaokonhdjaaaGreatDoorPkSP15
import Derived.Test.YtblmaokonhdjaaaGreatDoorPkFN1
import Derived.Test.YtblmaokonhdjaaaGreatDoorPkO2
namespace Go.Proofs.YtblmaokonhdjaaaGreatDoor
namespace Cut
open Tree
theorem push_len : ∀ (l : List (Nat × Nat)) (b n : Nat), (push l b n).length ≤ l.length + 1
  | [], _, _ => Nat.le_refl _
  | (p, m) :: l, b, n => by
    rw [push]
    split
    · have := push_len l p (2 * n)
      simp only [List.length_cons]; omega
    · simp
theorem pushAll_len : ∀ (l st : List (Nat × Nat)), (pushAll st l).length ≤ st.length + l.length
  | [], st => Nat.le_refl _
  | (b, n) :: l, st => by
    rw [pushAll]
    have := pushAll_len l (push st b n)
    have := push_len st b n
    simp only [List.length_cons]; omega
theorem cut_len_add {a b c : Nat} (h0 : c ≤ 1099511627776) (h1 : a ≤ b) (h2 : b ≤ c) : (cut a c).length ≤ (cut a b).length + (cut b c).length := by
  rw [← join_cut h0 h1 h2, List.length_reverse]
  have := pushAll_len (cut b c) (cut a b).reverse
  rwa [List.length_reverse] at this
theorem cut_len_end {a b k : Nat} (h0 : b + 2 ^ k ≤ 1099511627776) (h1 : a ≤ b) (hb : b % 2 ^ k = 0) (h2 : ¬ (b / 2 ^ k % 2 = 1 ∧ a + 2 ^ k ≤ b)) : (cut a (b + 2 ^ k)).length = (cut a b).length + 1 := by
  have hl : (List.replicate (cut a b).length ([] : T)).length = (cut a b).length := List.length_replicate
  have e1 := takeH_length (x := []) h0 h1 ⟨k, rfl⟩ hb hl
  have e2 := takeH_end (x := []) (by omega) h1 h2 hl
  rw [← e1, e2, List.length_append, hl]
  rfl
/-- from an aligned place on -/
theorem cut_len_right : ∀ (K a b : Nat), b ≤ 1099511627776 → a % 2 ^ K = 0 → a ≤ b → b < a + 2 ^ K → (cut a b).length ≤ K
  | 0, a, b, _, _, h2, h3 => by
    have : (2 : Nat) ^ 0 = 1 := rfl
    obtain rfl : a = b := by omega
    rw [cut_nil]; exact Nat.le_refl _
  | K + 1, a, b, h0, h1, h2, h3 => by
    have hK := two_pos K
    have hd := pow_double K
    have h1' := mod_of_le (Nat.le_succ K) h1
    by_cases h : b < a + 2 ^ K
    · have := cut_len_right K a b h0 h1' h2 h
      omega
    · have hg : grow 40 1 a b = 2 ^ K := grow_one h0 (by omega) h1' (by omega) (fun hh => by omega)
      rw [cut_cons h0 (by omega), hg, List.length_cons]
      have := cut_len_right K (a + 2 ^ K) b h0 (by rw [Nat.add_mod_right]; exact h1') (by omega) (by omega)
      omega
/-- up to an aligned place -/
theorem cut_len_left : ∀ (K a b : Nat), b ≤ 1099511627776 → b % 2 ^ K = 0 → a ≤ b → b < a + 2 ^ K → (cut a b).length ≤ K
  | 0, a, b, _, _, h2, h3 => by
    have : (2 : Nat) ^ 0 = 1 := rfl
    obtain rfl : a = b := by omega
    rw [cut_nil]; exact Nat.le_refl _
  | K + 1, a, b, h0, h1, h2, h3 => by
    have hK := two_pos K
    have hd := pow_double K
    have h1' := mod_of_le (Nat.le_succ K) h1
    by_cases h : b < a + 2 ^ K
    · have := cut_len_left K a b h0 h1' h2 h
      omega
    · obtain ⟨c, rfl⟩ : ∃ c, b = c + 2 ^ K := ⟨b - 2 ^ K, by omega⟩
      have hc : c % 2 ^ K = 0 := by rw [Nat.add_mod_right] at h1'; exact h1'
      rw [cut_len_end h0 (by omega) hc (fun hh => by omega)]
      have := cut_len_left K a c (by omega) hc (by omega) (by omega)
      omega
theorem cut_len_one {a k : Nat} (h0 : a + 2 ^ k ≤ 1099511627776) (h1 : a % 2 ^ k = 0) : (cut a (a + 2 ^ k)).length = 1 := by
  have hK := two_pos k
  rw [cut_len_end h0 (Nat.le_refl _) h1 (fun hh => by omega), cut_nil]
  rfl
theorem cut_len_in : ∀ (K c a b : Nat), b ≤ 1099511627776 → c % 2 ^ K = 0 → c ≤ a → a ≤ b → b ≤ c + 2 ^ K → (cut a b).length ≤ 2 * K + 1
  | 0, c, a, b, h0, _, h2, h3, h4 => by
    have := cov_len (cut_cov h0 h3)
    have : (2 : Nat) ^ 0 = 1 := rfl
    omega
  | K + 1, c, a, b, h0, h1, h2, h3, h4 => by
    have hK := two_pos K
    have hd := pow_double K
    have h1' := mod_of_le (Nat.le_succ K) h1
    have hm : (c + 2 ^ K) % 2 ^ K = 0 := by rw [Nat.add_mod_right]; exact h1'
    by_cases hb : b ≤ c + 2 ^ K
    · have := cut_len_in K c a b h0 h1' h2 h3 hb
      omega
    · by_cases ha : c + 2 ^ K ≤ a
      · have := cut_len_in K (c + 2 ^ K) a b h0 hm ha h3 (by omega)
        omega
      · have hadd := cut_len_add (a := a) (b := c + 2 ^ K) (c := b) h0 (by omega) (by omega)
        have h5 : (cut a (c + 2 ^ K)).length ≤ K + 1 := by
          by_cases e : a = c
          · subst e; rw [cut_len_one (by omega) h1']; omega
          · have := cut_len_left K a (c + 2 ^ K) (by omega) hm (by omega) (by omega); omega
        have h6 : (cut (c + 2 ^ K) b).length ≤ K + 1 := by
          by_cases e : b = c + 2 ^ K + 2 ^ K
          · subst e; rw [cut_len_one h0 hm]; omega
          · have := cut_len_right K (c + 2 ^ K) b h0 hm (by omega) (by omega); omega
        omega
/-- a span has few subtrees -/
theorem cut_len {a b : Nat} (h0 : b ≤ 1099511627776) (h : a ≤ b) : (cut a b).length ≤ 81 :=
  cut_len_in 40 0 a b h0 (Nat.zero_mod _) (Nat.zero_le _) h (Nat.le_trans h0 (by decide))
end Cut
end Go.Proofs.YtblmaokonhdjaaaGreatDoor

namespace Go.Proofs.YtblmaokonhdjaaaGreatDoor
open Go.RowKit Go.Shelf
set_option maxRecDepth 100000 in
set_option maxHeartbeats 2000000 in
theorem firstLevel8_any (b e : Nat) (h : b < e) (he : e ≤ 1099511627776) (w : World) (Z : Tb w) :
    Calls Tryz.prog 181 #[sg b e] w fun r w' => r = .returned (.int .i64 (Cut.lev b e : Nat)) ∧ Below w.heap.size w w' := by
  obtain ⟨l, hl⟩ : ∃ l, (e - b).log2 = l := ⟨_, rfl⟩
  obtain ⟨c, hc⟩ : ∃ c, Lib.ctz 64 b = c := ⟨_, rfl⟩
  have h1 := lenU_nat (e - b) l (by omega) (by omega) hl
  have h2 := fun w1 (hb : Below w.heap.size w w1) => tz_any b (by omega) w1 (Z.below hb Z.lt).z
  rw [hc] at h2
  have hlev := hid (show Cut.lev b e = min l c by unfold Cut.lev; rw [hl, hc])
  have hl64 : l ≤ 64 := by
    rw [← hl]
    have := (Nat.log2_lt (n := e - b) (k := 64) (by omega)).2 (by omega)
    omega
  have hc64 : c ≤ 64 := by
    rw [← hc]
    unfold Lib.ctz
    split
    · omega
    · obtain ⟨_, _, _⟩ := Lib.ctzFrom_spec 64 b (by omega) (by omega)
      omega
  have S0 := SpI.new w b e
  have hbx := (Below.refl w.heap.size w).alloc (Nat.le_refl _) (.cells #[Value.int .i64 (b : Int), Value.int .i64 (e : Int)] 50)
  have u1 : IntKind.u64.wrap ((e - b : Nat) : Int) = ((e - b : Nat) : Int) := by rw [IntKind.wrap_u64]; omega
  have u2 : IntKind.u64.wrap (b : Int) = (b : Int) := by rw [IntKind.wrap_u64]; omega
  have i0 := fun w' => slen_nat b e (by omega) he w'
  generalize e - b = d at *
  clear hl hc
  have c0 := S0.c0
  have c1 := S0.c1
  have S0 := hid S0
  have hbx := hid hbx
  go_enter Tryz.func181, Tryz.ntmps181
  go_wp2_with (first
    | (go_at_call 149; refine (i0 _).mono ?_; rintro r w1 ⟨rfl, hw1⟩; have S1 := S0.out.below hw1; have d0 := S1.c0; have hb1 := hid (hbx.out.trans (hw1.mono hbx.out.size)); clear hw1)
    | (go_at_call 142; refine (h1 _).mono ?_; rintro r w1 ⟨rfl, rfl⟩)
    | (go_at_call 136; refine (h2 _ hb1.out).mono ?_; rintro r w2 ⟨rfl, rfl⟩))
  go_ret
  exact ⟨by rw [hlev.out]; refine congrArg Ending.returned (congrArg (Value.int IntKind.i64) ?_); omega, hb1.out⟩
/-- H1: the complete subtrees of a span: level, index -/
def covL (b e : Nat) : List (Nat × Nat) := (Cut.cut b e).map fun q => (q.2.log2, q.1 / q.2)
theorem covL_nil (b : Nat) : covL b b = [] := by unfold covL; rw [Cut.cut_nil]; rfl
theorem covL_cons {b e : Nat} (h0 : e ≤ 1099511627776) (h : b < e) : covL b e = (Cut.lev b e, b / 2 ^ Cut.lev b e) :: covL (b + 2 ^ Cut.lev b e) e := by
  unfold covL
  rw [Cut.cut_cons h0 h, List.map_cons, Cut.lev_grow h0 h]
  simp only [Nat.log2_two_pow]
theorem covL_len {b e : Nat} (h0 : e ≤ 1099511627776) (h : b ≤ e) : (covL b e).length ≤ 81 := by unfold covL; rw [List.length_map]; exact Cut.cut_len h0 h
set_option maxRecDepth 100000 in
theorem complete_any (b e : Int) (w : World) : Calls Tryz.prog 146 #[sg b e] w fun r w' =>
    r = .returned (.func (.func 180) #[] #[.pointer (some ⟨w.heap.size, 0, none⟩)]) ∧ w' = w.alloc (.cells #[.int .i64 b, .int .i64 e] 50) := by
  go_enter Tryz.func146, Tryz.ntmps146
  go_wp2
  go_ret
  exact ⟨rfl, rfl⟩
end Go.Proofs.YtblmaokonhdjaaaGreatDoor

namespace Go.Proofs.YtblmaokonhdjaaaGreatDoor
open Go.RowKit Go.Shelf
attribute [local go_sem] Oper.semAt_some
/-- a node as it is handed to a loop -/
abbrev enN (s : Nat × Nat) : Array Value := #[.agg #[.int .i64 (s.1 : Int), .int .i64 (s.2 : Int)]]
set_option maxRecDepth 100000 in
set_option maxHeartbeats 4000000 in
theorem complete_iter (b e p : Nat) (hbe : b ≤ e) (he : e ≤ 1099511627776) (w : World) (hp : SpI w p b e) (Z : Tb w) (hpt : 5 ≤ p) :
    IterC Tryz.prog 180 #[.pointer (some ⟨p, 0, none⟩)] enN (covL b e) (fun k => k < 5 ∨ k = p) (fun k => k = p) w := by
  intro N l J Jx F W fJ fX hW hFC hY h0
  have hs := hW.size
  have hZw := Z.lt
  have ZW := hid (Z.below hW hZw)
  have hpW := hid (hp.below hW)
  have hplt := lt_of_heap hpW.out
  refine callsIn_of_wp Tryz.func180 rfl trivial ?_ rfl
  simp only [Tryz.ntmps180, List.size_toArray, List.length_cons, List.length_nil, Nat.reduceAdd, Nat.reduceSub, Array.replicate_succ, Array.replicate_zero, List.push_toArray, List.append_toArray, List.nil_append, List.cons_append]
  gi_wp2
  gi_loopw [4] (fun _ wr => ∃ (pre : List (Nat × Nat)) (x : Nat) (F' : Nat → Prop), Hid (covL b e = pre ++ covL x e) ∧ x ≤ e ∧ Hid (SpI wr p x e) ∧ Hid (J F' pre wr) ∧ Hid (Keep (fun k => F k ∨ k = p) W wr) ∧ Hid (∀ k, F' k → F k ∨ W.heap.size ≤ k)) (fun _ wr => e - memN wr p 0)
  case atStart =>
    exact ⟨[], b, F, rfl, hbe, hpW, h0, Keep.refl _ _, fun k hk => .inl hk⟩
  case round =>
    obtain ⟨pre, x, F', hx, hxe, hS, hJ, hK, hN⟩ := hrel
    have hnp : ¬ F' p := fun h => by
      rcases hN.out p h with h | h
      · exact hFC p h (.inr rfl)
      · omega
    have hBt : Hid (Below 5 W wr) := hK.out.belowOf (by omega) fun k hk => by
      rcases hk with h | h
      · have := hFC k h; omega
      · omega
    have Zr := hid (ZW.out.below hBt.out (Nat.le_refl _))
    have c0 := hS.out.c0
    have c1 := hS.out.c1
    by_cases hlt : x < e
    · have hlt' : (x : Int) < (e : Int) := by omega
      have i1 := firstLevel8_any x e hlt he wr Zr.out
      obtain ⟨lv, hlv⟩ : ∃ lv, Hid (Cut.lev x e = lv) := ⟨_, rfl⟩
      have hg := Cut.grow_facts he hlt
      rw [Cut.lev_grow he hlt, hlv.out] at hg
      have hl40 : lv ≤ 40 := by rw [← hlv.out]; exact Cut.lev_le he hlt
      have hcc : Hid (covL x e = (lv, x / 2 ^ lv) :: covL (x + 2 ^ lv) e) := by unfold Hid; rw [covL_cons he hlt, hlv.out]
      obtain ⟨P, hP⟩ : ∃ P : Nat, Hid (2 ^ lv = P) := ⟨_, rfl⟩
      obtain ⟨ix, hix⟩ : ∃ ix : Nat, Hid (x / 2 ^ lv = ix) := ⟨_, rfl⟩
      have s1 : (2 : Int) ^ lv = (P : Int) := by rw [← hP.out]; simp
      have s2 : (x : Int) / (P : Int) = (ix : Int) := by rw [← hix.out, hP.out]; simp
      rw [hP.out] at hg hcc
      have hix' : Hid (x / P = ix) := by unfold Hid; rw [← hP.out]; exact hix.out
      rw [hix'.out] at hcc
      have hxP : x + P ≤ e := hg.2.2.1
      have hP1 : 1 ≤ P := hg.2.2.2.1
      rw [hlv.out] at i1
      have s3 : (lv : Int) ≤ 64 := by omega
      have s4 : (0 : Int) ≤ (lv : Int) := by omega
      have s5 : IntKind.i64.wrap (P : Int) = (P : Int) := by rw [IntKind.wrap_i64]; omega
      have s6 : IntKind.i64.wrap ((x : Int) + (P : Int)) = ((x + P : Nat) : Int) := by rw [IntKind.wrap_i64]; omega
      clear hg hix hP hlv Zr ZW
      gi_wp2
      refine ⟨trivial, fun h => (by cases h), (callsIn_wide.2 i1).mono ?_⟩
      clear i1 c0 c1
      rintro r W2 ⟨rfl, hb2⟩
      have hS2 := hid (hS.out.below hb2)
      have c0 := hS2.out.c0
      have c1 := hS2.out.c1
      have J2 := fJ.keep _ _ _ _ (fun _ => False) hJ.out (Keep.ofBelow hb2) (fun _ _ e => e)
      obtain ⟨fn, tmps, assign, body, hy, hR⟩ := hY F' pre (lv, ix) (covL (x + P) e) W2 J2 (by rw [hx.out, hcc.out])
      have hK2 := hid (hK.out.trans (Keep.ofBelow (S := fun k => F k ∨ k = p) hb2) fun _ _ h => h)
      have hz2 := hid hb2.size
      clear hb2 J2
      gi_wp2
      refine ⟨fun h => (by cases h), hR.mono ?_⟩
      clear hR hy c0 c1
      rintro e' W3 ⟨F3, hm, hh⟩
      have hn3 : Hid (∀ k, F3 k → F k ∨ W.heap.size ≤ k) := fun k hk => by
        rcases hm.new k hk with h | h
        · exact hN.out k h
        · have := hz2.out; have := hK.out.size; exact .inr (by omega)
      have hnp3 : ¬ F3 p := fun h => by
        rcases hn3.out p h with h | h
        · exact hFC p h (.inr rfl)
        · omega
      have hk3 : Hid (Keep (fun k => F k ∨ k = p) W W3) := hK2.out.trans hm.keep fun k hk hf => by
        rcases hN.out k hf with h | h
        · exact .inl h
        · omega
      have hS3 := hS2.out.keep hm.keep hnp
      have c0 := hS3.c0
      have f0 := hS3.f0
      rcases hh with ⟨rfl, hJ3⟩ | ⟨rfl, hX3⟩
      · gi_wp2
        refine wpIn_wide.2 ?_
        have c0d : W3.drew.cell? ⟨p, 0, none⟩ = some (.int .i64 (x : Int)) := c0
        have f0d : W3.drew.frozen? ⟨p, 0, none⟩ = false := f0
        have T3 : Hid (SpI (W3.setCell ⟨p, 0, none⟩ (.int .i64 ((x : Int) + (P : Int)))) p ((x + P : Nat) : Int) e) := by
          unfold Hid
          rw [Int.natCast_add]
          exact heap_setCell_same W3 p 0 _ _ _ hS3
        have hJ4 := hid (fJ.keep _ _ _ _ (fun k => k = p) hJ3 (Keep.ofSet (S := fun k => k = p) W3 p 0 (.int .i64 ((x : Int) + (P : Int))) rfl) (fun k hk h => hnp3 (h ▸ hk)))
        have hK4 := hid (hk3.out.trans (Keep.ofSet (S := fun k => k = p) W3 p 0 (.int .i64 ((x : Int) + (P : Int))) rfl) fun k _ h => .inr h)
        have hd : ∀ {S : Nat → Prop} {A B : World}, Keep S A B → Keep S A B.drew := fun k => ⟨k.os, k.tape, k.output, k.size, k.block⟩
        go_region
        gi_wp2
        go_roundw
        case rel =>
          refine ⟨pre ++ [(lv, ix)], x + P, F3, ?_, hxP, T3.out, ?_, hd hK4.out, hn3⟩
          · unfold Hid; rw [hx.out, hcc.out, List.append_assoc]; rfl
          · exact fJ.keep _ _ _ _ (fun _ => False) hJ4.out (hd (Keep.refl _ _)) (fun _ _ h => h)
        case measure =>
          have e1 : memN ((W3.setCell ⟨p, 0, none⟩ (.int .i64 ((x : Int) + (P : Int)))).drew) p 0 = x + P := by
            show memN (W3.setCell ⟨p, 0, none⟩ (.int .i64 ((x : Int) + (P : Int)))) p 0 = x + P
            unfold memN; rw [T3.out.c0]; exact Int.toNat_natCast _
          have e0 : memN wr p 0 = x := by unfold memN; rw [hS.out.c0]; exact Int.toNat_natCast _
          rw [e1, e0]
          omega
      · gi_wp2
        refine bodyPost_ret (results_none rfl _ _ _) rfl ?_
        refine ⟨⟨_, rfl⟩, F3, hk3.out, hn3.out, .inr ⟨pre ++ [(lv, ix)], ⟨covL (x + P) e, ?_⟩, hX3⟩⟩
        rw [hx.out, hcc.out, List.append_assoc]; rfl
    · have hlt' : ¬ (x : Int) < (e : Int) := by omega
      gi_wp2
      go_end0
      refine ⟨⟨_, rfl⟩, hK.out, F', hN.out, .inl ?_⟩
      rw [hx.out, show x = e by omega, covL_nil, List.append_nil]
      exact hJ.out
end Go.Proofs.YtblmaokonhdjaaaGreatDoor

namespace Go.Proofs.YtblmaokonhdjaaaGreatDoor
open Go.RowKit Go.Shelf
attribute [local go_sem] Oper.semAt_some
theorem infoNd8 : (Tryz.prog.info? 172).map (fun i => (i.zero, i.size, i.bytes)) = some (some (.agg #[.int .i64 0, .int .i64 0]), 2, 16) := by kernel_rfl
theorem append_nd8 (w : World) (v : Value) (l : List (Nat × Nat)) (x y : Nat) (h : OwnP w v l) (hl : l.length ≤ 1099511627776) :
    ∃ v' w', (Builtin.append_ #[168, 168] 168 #[v, .slice (some ⟨w.heap.size, 0, none⟩) 1 1]).run Tryz.prog (w.alloc (.cells #[.int .i64 (x : Int), .int .i64 (y : Int)] 172)) = .ok v' w' ∧ OwnP w' v' (l ++ [(x, y)]) ∧ Grow w w' v v' := by
  obtain ⟨v', w', h1, h2, h3⟩ := append_oneL 168 172 (.agg #[.int .i64 0, .int .i64 0]) 16 Tryz.underlying168 infoNd8 rfl w v l.length (prs l) [.int .i64 (x : Int), .int .i64 (y : Int)] rfl (fun u hu => by
    simp only [List.mem_cons, List.not_mem_nil, or_false] at hu
    rcases hu with rfl | rfl <;> rfl) h (by omega) (by rw [maxLen]; omega)
  refine ⟨v', w', h1, ?_, h3⟩
  unfold OwnP
  rw [prs_append, List.length_append]; exact h2
/-- a node's variable -/
def NdI (w : World) (g : Nat) (b e : Int) : Prop := w.heap[g]? = some (.cells #[.int .i64 b, .int .i64 e] 172 (0, 0))
theorem NdI.c0 {w : World} {g : Nat} {b e : Int} (h : NdI w g b e) : w.cell? ⟨g, 0, none⟩ = some (.int .i64 b) := by rw [cell_of_row w g 0 _ _ _ h]; rfl
theorem NdI.c1 {w : World} {g : Nat} {b e : Int} (h : NdI w g b e) : w.cell? ⟨g, 1, none⟩ = some (.int .i64 e) := by rw [cell_of_row w g 1 _ _ _ h]; rfl
theorem NdI.new (w : World) (b e : Int) : NdI (w.alloc (.cells #[.int .i64 b, .int .i64 e] 172)) w.heap.size b e := heap_alloc_new w _
theorem NdI.below {w w' : World} {g : Nat} {b e : Int} (h : NdI w g b e) (hb : Below w.heap.size w w') : NdI w' g b e := (hb.block g (lt_of_heap h)).trans h
theorem NdI.keep {w w' : World} {g : Nat} {b e : Int} {S : Nat → Prop} (h : NdI w g b e) (hb : Keep S w w') (hs : ¬ S g) : NdI w' g b e := (hb.block g (lt_of_heap h) hs).trans h
/-- H1 -/
def coverE (b e : Int) : Int := if 0 ≤ b ∧ b ≤ e ∧ e ≤ 1099511627776 then 0 else 80
def coverL (b e : Int) : List (Nat × Nat) := if coverE b e = 0 then covL b.toNat e.toNat else []
set_option maxRecDepth 100000 in
set_option maxHeartbeats 8000000 in
theorem cover_bad (b e : Int) (w : World) (h : coverE b e ≠ 0) : Calls Tryz.prog 97 #[sg b e] w (SpP w (coverE b e) (coverL b e)) := by
  refine (callsIn_wide (n := 9)).1 ?_
  have S0 := SpI.new w b e
  have c0 := S0.c0
  have c1 := S0.c1
  have hc : ¬ (0 ≤ b ∧ b ≤ e ∧ e ≤ 1099511627776) := fun hh => h (by unfold coverE; rw [if_pos hh])
  have eL : coverL b e = [] := by unfold coverL; rw [if_neg h]
  have eE : coverE b e = 80 := by unfold coverE; rw [if_neg hc]
  rw [eL, eE]
  clear eL eE h S0
  refine callsIn_of_wp_marks Tryz.func97 rfl trivial ?_ rfl
  simp only [Tryz.ntmps97, List.size_toArray, List.length_cons, List.length_nil, Nat.reduceAdd, Nat.reduceSub, Array.replicate_succ, Array.replicate_zero, List.push_toArray, List.append_toArray, List.nil_append, List.cons_append]
  by_cases h1 : b < 0
  · gi_wp2
    exact ⟨_, results_tmp2 rfl _ _ _, SpP.bad ((Below.refl _ w).alloc (Nat.le_refl _) _)⟩
  · by_cases h2 : e < b
    · gi_wp2
      exact ⟨_, results_tmp2 rfl _ _ _, SpP.bad ((Below.refl _ w).alloc (Nat.le_refl _) _)⟩
    · have h3 : 1099511627776 < e := by omega
      gi_wp2
      exact ⟨_, results_tmp2 rfl _ _ _, SpP.bad ((Below.refl _ w).alloc (Nat.le_refl _) _)⟩
set_option maxRecDepth 100000 in
set_option maxHeartbeats 8000000 in
theorem cover_ok (b e : Nat) (w : World) (h1 : b ≤ e) (h2 : e ≤ 1099511627776) (Z : Tb w) : Calls Tryz.prog 97 #[sg b e] w (SpP w 0 (covL b e)) := by
  refine (callsIn_wide (n := 9)).1 ?_
  have S0 := SpI.new w b e
  have c0 := S0.c0
  have c1 := S0.c1
  have S1 := S0.below ((Below.refl _ _).alloc (Nat.le_refl _) (.cells #[.slice none 0 0] 168))
  have c2 := S1.c0
  have c3 := S1.c1
  have q1 : ¬ (b : Int) < 0 := by omega
  have q2 : ¬ (e : Int) < (b : Int) := by omega
  have q3 : ¬ (1099511627776 : Int) < (e : Int) := by omega
  have hZ := Z.lt
  refine callsIn_of_wp_marks Tryz.func97 rfl trivial ?_ rfl
  simp only [Tryz.ntmps97, List.size_toArray, List.length_cons, List.length_nil, Nat.reduceAdd, Nat.reduceSub, Array.replicate_succ, Array.replicate_zero, List.push_toArray, List.append_toArray, List.nil_append, List.cons_append]
  gi_wp2
  refine ⟨trivial, (callsIn_wide.2 (complete_any _ _ _)).mono ?_⟩
  rintro r w1 ⟨rfl, h1⟩
  have h1 := h1.symm
  subst h1
  gi_wp2
  obtain ⟨W4, hW4⟩ : ∃ W4, Hid ((((w.alloc (.cells #[.int .i64 (b : Int), .int .i64 (e : Int)] 50)).alloc (.cells #[.slice none 0 0] 168)).alloc (.cells #[.int .i64 (b : Int), .int .i64 (e : Int)] 50)) = W4) := ⟨_, rfl⟩
  rw [hW4.out]
  have z4 : W4.heap.size = w.heap.size + 3 := by rw [← hW4.out]; simp
  have B4 : Below w.heap.size w W4 := by rw [← hW4.out]; exact (((Below.refl _ w).alloc (Nat.le_refl _) _).alloc (by rw [size_alloc]; omega) _).alloc (by rw [size_alloc, size_alloc]; omega) _
  have R1 : Boxed W4 (w.heap.size + 1) 168 (.slice none 0 0) := by
    rw [← hW4.out]
    have := Boxed.new (w.alloc (.cells #[.int .i64 (b : Int), .int .i64 (e : Int)] 50)) 168 (.slice none 0 0)
    rw [size_alloc] at this
    exact this.alloc _
  have R2 : SpI W4 (w.heap.size + 1 + 1) b e := by
    rw [← hW4.out]
    have := SpI.new ((w.alloc (.cells #[.int .i64 (b : Int), .int .i64 (e : Int)] 50)).alloc (.cells #[.slice none 0 0] 168)) b e
    rw [size_alloc, size_alloc] at this
    exact this
  clear hW4 S0 S1 c0 c1 c2 c3
  have Z4 := Z.below B4 hZ
  have hbl := covL_len h2 (show b ≤ e by assumption)
  refine range_foot (n := 9) (gf := 180) (lb := #[.pointer (some ⟨w.heap.size + 1 + 1, 0, none⟩)]) rfl (enters_of Tryz.func180 (by kernel_rfl) rfl)
    (complete_iter b e _ (by assumption) h2 W4 R2 Z4 (by omega)) (fun _ => rfl)
    (fun F pre W => ∃ v, F = Col.F (w.heap.size + 1) v ∧ Col W (w.heap.size + 1) 168 v pre)
    (fun _ _ _ _ => False)
    ⟨fun F pre W W' S ⟨v, hF, h⟩ hk hs => ⟨v, hF, h.keep hk (by rw [hF] at hs; exact hs)⟩, fun F pre W ⟨v, hF, h⟩ => by rw [hF]; exact h.lt⟩ (fun c => ⟨fun _ _ _ _ _ h _ _ => h, fun _ _ _ h => h.elim⟩)
    (Col.F (w.heap.size + 1) (.slice none 0 0)) ⟨_, rfl, ⟨R1, OwnM.nil 2 W4, fun h => by cases h⟩⟩ ?dis ?cl
    (fun F pre x a W => ∃ v go, Col W (w.heap.size + 1) 168 v pre ∧ F = (fun k => Col.F (w.heap.size + 1) v k ∨ k = go) ∧ ¬ Col.F (w.heap.size + 1) v go ∧ NdI W go x.1 x.2 ∧ a = { tmps := #[sg b e, .pointer (some ⟨w.heap.size, 0, none⟩), .slice none 0 0, .int .i64 0, .pointer (some ⟨w.heap.size + 1, 0, none⟩), .pointer (some ⟨go, 0, none⟩), .pointer (some ⟨w.heap.size, 0, none⟩), .int .i64 (b : Int), .bool false, .bool false, .pointer (some ⟨w.heap.size, 0, none⟩), .int .i64 (b : Int), .pointer (some ⟨w.heap.size, 1, none⟩), .int .i64 (e : Int), .bool false, .bool false, .bool false, .pointer (some ⟨w.heap.size, 1, none⟩), .int .i64 (e : Int), .bool false, .bool false, sg b e, .func (.func 180) #[] #[.pointer (some ⟨w.heap.size + 1 + 1, 0, none⟩)], .agg #[.int .i64 (x.1 : Int), .int .i64 (x.2 : Int)], undef, undef, undef, undef, undef], defers := [] })
    ?fA ?assign ?body ?done ?stop
  case dis =>
    rintro k (rfl | e) (h | h)
    · omega
    · omega
    · cases e
    · cases e
  case cl =>
    rintro k (h | rfl)
    · omega
    · omega
  case fA =>
    rintro x a
    refine ⟨?_, ?_⟩
    · rintro F pre W W' S ⟨v, go, h1, rfl, h2, h3, h4⟩ hk hs
      exact ⟨v, go, h1.keep hk fun k e => hs k (.inl e), rfl, h2, h3.keep hk (hs _ (.inr rfl)), h4⟩
    · rintro F pre W ⟨v, go, h1, rfl, h2, h3, h4⟩ k (e | rfl)
      · exact h1.lt k e
      · exact lt_of_heap h3
  case assign =>
    rintro l F pre x rest W ⟨v, rfl, h1⟩ hx
    gi_wp2
    have hb := (Below.refl _ W).alloc (Nat.le_refl _) (.cells #[.int .i64 (x.1 : Int), .int .i64 (x.2 : Int)] 172)
    exact ⟨_, Mvs.alloc _ W _, v, W.heap.size, h1.below hb, rfl, fun h => by have := h1.lt _ h; omega, NdI.new W x.1 x.2, rfl⟩
  case body =>
    rintro l F pre x rest a W ⟨v, go, h1, rfl, h2, h3, rfl⟩ hx
    obtain ⟨x, y⟩ := x
    have hpl : pre.length ≤ 1099511627776 := by
      have := congrArg List.length hx
      rw [List.length_append] at this
      omega
    have c0 := h3.c0
    have c1 := h3.c1
    have d0 := h1.box.cell
    have hMv : Mvs (fun k => Col.F (w.heap.size + 1) v k ∨ k = go) W W (Col.F (w.heap.size + 1) v) := ⟨Keep.refl _ _, fun k hk => .inl (.inl hk)⟩
    obtain ⟨v', w3, hap, O3, G3⟩ := append_nd8 W v pre x y h1.own hpl
    obtain ⟨bx3, P3, M3⟩ := h1.push O3 G3
    have c3 := bx3.cell
    have f3 := bx3.frozen
    obtain ⟨va, vn, vc, rfl⟩ := ownM_sl h1.own
    obtain ⟨va', vn', vc', rfl⟩ := ownM_sl O3
    clear hx
    gi_wp2_with (gi_at_builtin; refine wpListIn_append_run rfl _ _ 168 rfl (.slice va vn vc) _ _ w3 rfl rfl hap ?_)
    exact ⟨_, hMv.trans M3, .slice va' vn' vc', rfl, P3⟩
  case done =>
    rintro D F W ⟨v, rfl, h1⟩ ha
    have hvD : v.ownBlock ≠ some D := fun e => ha.out (.inr e)
    have hvB : ∀ k, v.ownBlock = some k → w.heap.size ≤ k := fun k e => by
      rcases ha.new k (.inr e) with (q | q) | q
      · omega
      · cases q
      · omega
    have c0 := h1.box.cell
    obtain ⟨va, vn, vc, rfl⟩ := ownM_sl h1.own
    gi_wp2
    refine ⟨by simp, .inl ⟨_, _, rfl, run_takeDeferred ha.mark, ?_⟩⟩
    refine ⟨_, results_tmp2 rfl _ _ _, ?_, _, rfl, h1.own.keep (Keep.ofPut (S := fun k => k = D) _ D (.deferred none) rfl) (fun k hk e => hvD (e ▸ hk)), hvB⟩
    have k1 : Keep (fun k => w.heap.size ≤ k) W4 W := ha.keep.mono fun k _ h => by
      rcases h with (h | h) | h
      · omega
      · cases h
      · omega
    have k2 := k1.trans (Keep.ofPut (S := fun k => w.heap.size ≤ k) W D (.deferred none) (by have := ha.hi; omega)) fun _ _ h => h
    exact B4.trans (k2.belowOf (by omega) fun _ h => h)
  case stop =>
    rintro D c F pre W hp h ha
    exact h.elim
theorem cover_any (b e : Int) (w : World) (Z : Tb w) : Calls Tryz.prog 97 #[sg b e] w (SpP w (coverE b e) (coverL b e)) := by
  by_cases h : coverE b e = 0
  · have hc : 0 ≤ b ∧ b ≤ e ∧ e ≤ 1099511627776 := by
      unfold coverE at h
      split at h
      · assumption
      · cases h
    unfold coverL
    rw [if_pos h, h]
    obtain ⟨b, rfl⟩ := Int.eq_ofNat_of_zero_le hc.1
    obtain ⟨e, rfl⟩ := Int.eq_ofNat_of_zero_le (show 0 ≤ e by omega)
    rw [Int.toNat_natCast, Int.toNat_natCast]
    exact cover_ok b e w (by omega) (by omega) Z
  · exact cover_bad b e w h
end Go.Proofs.YtblmaokonhdjaaaGreatDoor

namespace Go.Proofs.YtblmaokonhdjaaaGreatDoor
open Go.RowKit Go.Shelf
/-- are all of 32 bytes? -/
def hsB8 (l : List (List UInt8)) : Bool := l.all (·.length == 32)
set_option maxRecDepth 100000 in
set_option maxHeartbeats 2000000 in
theorem areHashes8_is (l : List (List UInt8)) (q : Bool) (hq : hsB8 l = q) (a : Option Addr) (cap : Nat) (w : World) (hc : l.length ≤ 9223372036854775807) (hA : At w a l) :
    Calls Tryz.prog 100 #[.slice a l.length cap] w fun r w' => r = .returned (.bool q) ∧ w' = w := by
  have HQ := hid hq
  generalize hn : l.length = k at *
  have HA := hid hA
  clear hA hq
  go_enter Tryz.func100, Tryz.ntmps100
  go_wp2
  go_loopw [7] (fun i w' => ∃ j : Nat, j ≤ k ∧ i = .int .i64 (j : Int) ∧ Hid ((l.take j).all (·.length == 32) = true) ∧ w' = w) (fun i _ => k - (intOf i).toNat)
  case atStart => exact ⟨0, by omega, rfl, rfl, rfl⟩
  case round =>
    obtain ⟨j, hj, rfl, hall, rfl⟩ := hrel
    by_cases hjk : j < k
    · have b0 : (j : Int) < (k : Int) := by omega
      obtain ⟨y, rfl⟩ := HA.out.pos (by omega)
      obtain ⟨s, hs, hcell⟩ := HA.out.cell j (by omega)
      by_cases h32 : s.size = 32
      · have i2 : (s.size : Int) = 32 := by omega
        have e2 := hid (all_take l j (by omega) hall.out (by rw [← hs.out, data_length]; exact h32))
        clear HA hall hs
        go_wp2
        exact ⟨⟨j + 1, by omega, by go_num, e2, trivial⟩, by simp [intOf]; omega⟩
      · have i2 : ((s.size : Int) != 32) = true := by simp; omega
        have i3 : ((s.size : Int) == 32) = false := by simp; omega
        have e2 := all_not l j (by omega) (by rw [← hs.out, data_length]; exact h32)
        have e3 := hid (show q = false by rw [← HQ.out]; exact e2)
        clear HA hall hs e2
        go_wp2
        go_ret
        exact ⟨by rw [e3.out]; rfl, rfl⟩
    · obtain rfl : j = k := by omega
      have b0 : ¬ (j : Int) < (j : Int) := by omega
      rw [← hn, List.take_length] at hall
      have e3 := hid (show q = true by rw [← HQ.out]; exact hall.out)
      clear HA hall
      go_wp2
      go_ret
      exact ⟨by rw [e3.out]; rfl, rfl⟩
/-- is a span that has a leaf within another one? -/
def hasI (b e x y : Int) : Bool := decide (b ≤ x ∧ x < y ∧ y ≤ e)
set_option maxRecDepth 100000 in
set_option maxHeartbeats 2000000 in
theorem has_is (b e x y : Int) (q : Bool) (hq : hasI b e x y = q) (w : World) : Calls Tryz.prog 152 #[sg b e, sg x y] w fun r w' => r = .returned (.bool q) ∧ Below w.heap.size w w' := by
  have S0 := SpI.new w b e
  have hb1 := (Below.refl _ (w.alloc (.cells #[.int .i64 b, .int .i64 e] 50))).alloc (Nat.le_refl _) (.cells #[.int .i64 x, .int .i64 y] 50)
  have S1 := S0.below hb1
  have S2 := SpI.new (w.alloc (.cells #[.int .i64 b, .int .i64 e] 50)) x y
  rw [size_alloc] at S2
  have hb := ((Below.refl _ w).alloc (Nat.le_refl _) (.cells #[.int .i64 b, .int .i64 e] 50)).alloc (by rw [size_alloc]; omega) (.cells #[.int .i64 x, .int .i64 y] 50)
  have c0 := S1.c0
  have c1 := S1.c1
  have d0 := S2.c0
  have d1 := S2.c1
  clear S0 S1 S2 hb1
  by_cases h1 : b ≤ x
  · by_cases h2 : x < y
    · by_cases h3 : y ≤ e
      · have er := hid (show q = true by rw [← hq]; simp [hasI, h1, h2, h3])
        clear hq
        go_enter Tryz.func152, Tryz.ntmps152
        go_wp2
        go_ret
        exact ⟨by rw [er.out]; rfl, hb⟩
      · have er := hid (show q = false by rw [← hq]; simp [hasI, h3])
        clear hq
        go_enter Tryz.func152, Tryz.ntmps152
        go_wp2
        go_ret
        exact ⟨by rw [er.out]; rfl, hb⟩
    · have er := hid (show q = false by rw [← hq]; simp [hasI, h2])
      clear hq
      go_enter Tryz.func152, Tryz.ntmps152
      go_wp2
      go_ret
      exact ⟨by rw [er.out]; rfl, hb⟩
  · have er := hid (show q = false by rw [← hq]; simp [hasI, h1])
    clear hq
    go_enter Tryz.func152, Tryz.ntmps152
    go_wp2
    go_ret
    exact ⟨by rw [er.out]; rfl, hb⟩
/-- known subtrees, with their hashes -/
abbrev Sub := (Int × Int) × ByteArray
def sbc (l : List Sub) : List Value := l.flatMap fun q => [.int .i64 q.1.1, .int .i64 q.1.2, .string q.2]
theorem sbc_len (l : List Sub) : (sbc l).length = l.length * 3 := by
  induction l with
  | nil => rfl
  | cons q l ih => rw [sbc, List.flatMap_cons, List.length_append, ← sbc, ih]; simp; omega
theorem sbc_append (l m : List Sub) : sbc (l ++ m) = sbc l ++ sbc m := List.flatMap_append
theorem sbc_get : ∀ {l : List Sub} {j : Nat} {q : Sub}, l[j]? = some q → (sbc l)[j * 3]? = some (.int .i64 q.1.1) ∧ (sbc l)[j * 3 + 1]? = some (.int .i64 q.1.2) ∧ (sbc l)[j * 3 + 2]? = some (.string q.2)
  | [], j, q, h => by simp at h
  | a :: l, 0, q, h => by
    obtain rfl : a = q := by simpa using h
    exact ⟨rfl, rfl, rfl⟩
  | a :: l, j + 1, q, h => by
    have := sbc_get (l := l) (j := j) (by simpa using h)
    rw [show (j + 1) * 3 = j * 3 + 3 from by omega]
    exact this
abbrev OwnS3 (w : World) (v : Value) (l : List Sub) : Prop := OwnM 3 w v l.length (sbc l)
theorem OwnS3.at {w : World} {v : Value} {l : List Sub} (h : OwnS3 w v l) {j : Nat} {q : Sub} (hq : l[j]? = some q) : ∃ g cap, v = .slice (some ⟨g, 0, none⟩) l.length cap ∧ w.cell? ⟨g, j * 3, none⟩ = some (.int .i64 q.1.1) ∧ w.cell? ⟨g, j * 3 + 1, none⟩ = some (.int .i64 q.1.2) ∧ w.cell? ⟨g, j * 3 + 2, none⟩ = some (.string q.2) := by
  rcases h with ⟨_, h1, _⟩ | ⟨g, cap, rfl, _, _, _, h4, _, _⟩
  · have := (List.getElem?_eq_some_iff.1 hq).1; omega
  · obtain ⟨a, b, c⟩ := sbc_get hq
    have a' := h4 _ _ a
    have b' := h4 _ _ b
    have c' := h4 _ _ c
    rw [Nat.zero_add] at a' b' c'
    exact ⟨g, cap, rfl, a', b', c'⟩
theorem infoSb : (Tryz.prog.info? 226).map (fun i => (i.zero, i.size, i.bytes)) = some (some (.agg #[.int .i64 0, .int .i64 0, .string ⟨#[]⟩]), 3, 32) := by kernel_rfl
theorem append_sub (w : World) (v : Value) (l : List Sub) (x y : Int) (s : ByteArray) (h : OwnS3 w v l) (hl : l.length ≤ 1099511627776) :
    ∃ v' w', (Builtin.append_ #[175, 175] 175 #[v, .slice (some ⟨w.heap.size, 0, none⟩) 1 1]).run Tryz.prog (w.alloc (.cells #[.int .i64 x, .int .i64 y, .string s] 226)) = .ok v' w' ∧ OwnS3 w' v' (l ++ [((x, y), s)]) ∧ Grow w w' v v' := by
  obtain ⟨v', w', h1, h2, h3⟩ := append_oneL 175 226 (.agg #[.int .i64 0, .int .i64 0, .string ⟨#[]⟩]) 32 Tryz.underlying175 infoSb rfl w v l.length (sbc l) [.int .i64 x, .int .i64 y, .string s] rfl (fun u hu => by
    simp only [List.mem_cons, List.not_mem_nil, or_false] at hu
    rcases hu with rfl | rfl | rfl <;> rfl) h (by omega) (by rw [maxLen]; omega)
  refine ⟨v', w', h1, ?_, h3⟩
  unfold OwnS3
  rw [sbc_append, List.length_append]; exact h2
end Go.Proofs.YtblmaokonhdjaaaGreatDoor
