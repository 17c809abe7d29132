import Derived.Test.YtmpaliocfikifaaGreatDoorCBL2
import Derived.Test.YtmpaliocfikifaaGreatDoorCO4
import Derived.Test.YtmpaliocfikifaaGreatDoorCFN3
import Derived.Test.YtmpaliocfikifaaGreatDoorCO29
import Derived.BigQuiet
import Derived.OwnWalk
import Derived.Test.YtmpaliocfikifaaGreatDoorCBM2
import Derived.Test.YtmpaliocfikifaaGreatDoorCFN1
import Derived.Deep.CutRange
import Derived.Deep.CutBlock
import Derived.Test.YtmpaliocfikifaaGreatDoorCSP18
namespace Go.Proofs.YtmpaliocfikifaaGreatDoor
open Go.RowKit
set_option maxRecDepth 100000 in
set_option maxHeartbeats 1000000 in
/-- the document's node of two hashes -/
theorem rnode7_any {l r m : List UInt8} (hl : l.length = 32) (hr : r.length = 32) (h : Hid (Tree.nd l r = m)) (w : World) :
    Calls Tryz.prog 85 #[sv l, sv r] w fun e w' => e = .returned (sv m) ∧ Below w.heap.size w w' := by
  have hm := h.out
  unfold Tree.nd at hm
  rw [if_pos ⟨hl, hr⟩] at hm
  obtain ⟨L, hL⟩ : ∃ L : ByteArray, ByteArray.mk l.toArray = L := ⟨_, rfl⟩
  obtain ⟨R, hR⟩ : ∃ R : ByteArray, ByteArray.mk r.toArray = R := ⟨_, rfl⟩
  have sL : L.size = 32 := by rw [← hL, sv_size, hl]
  have sR : R.size = 32 := by rw [← hR, sv_size, hr]
  have z1 : ({ data := #[1] } ++ L : ByteArray).size = 33 := by rw [app_size, sL]; rfl
  have z2 := joined_size L R sL sR
  have i1 := rsum_at ({ data := #[1] } ++ L ++ R) m (by rw [z2]; omega) (hid (by rw [joined_data, ← hL, ← hR, sv_data, sv_data, ← hm])) w
  rw [show sv l = Value.string L from congrArg Value.string hL, show sv r = Value.string R from congrArg Value.string hR]
  clear hL hR h hm
  go_enter Tryz.func85, Tryz.ntmps85
  go_wp2_with (go_at_call 84; refine i1.mono ?_; rintro e w1 ⟨rfl, hw1⟩)
  go_ret
  exact ⟨rfl, hw1⟩
set_option maxRecDepth 100000 in
set_option maxHeartbeats 400000 in
theorem hash7_nil (a : Option Addr) (cap : Nat) (w : World) :
    Calls Tryz.prog 64 #[.slice a 0 cap] w fun e w' => e = .returned (sv (Tree.root [])) ∧ Below w.heap.size w w' := by
  rw [Tree.root_nil]
  obtain ⟨D, hD⟩ : ∃ D, Sha.sha [] = D := ⟨_, rfl⟩
  rw [hD]
  have i1 := rsum_nil (hid hD)
  clear hD
  go_enter Tryz.func64, Tryz.ntmps64
  go_wp2_with (go_at_call 84; refine (i1 _).mono ?_; rintro e w1 ⟨rfl, hw1⟩)
  go_ret
  exact ⟨rfl, hw1⟩
set_option maxRecDepth 100000 in
set_option maxHeartbeats 400000 in
theorem hash7_one (p : List UInt8) (a : Option Addr) (cap : Nat) (w : World) (hA : At w a [p]) :
    Calls Tryz.prog 64 #[.slice a 1 cap] w fun e w' => e = .returned (sv (Tree.root [p])) ∧ Below w.heap.size w w' := by
  rw [Tree.root_one]
  obtain ⟨x, rfl, hx, hc⟩ := hA 0 p rfl
  rw [addr_zero] at hc
  go_enter Tryz.func64, Tryz.ntmps64
  go_wp2
  go_ret
  exact ⟨rfl, Below.refl _ _⟩
set_option maxRecDepth 100000 in
set_option maxHeartbeats 4000000 in
/-- the document's hash of some leaves -/
theorem hash7_any : ∀ (f : Nat) (l : List (List UInt8)) (a : Option Addr) (cap : Nat) (w : World), l.length ≤ f → l.length ≤ cap → cap ≤ 9223372036854775807 → l.length ≤ 4611686018427387903 → Tree.Hs l → At w a l →
    Calls Tryz.prog 64 #[.slice a l.length cap] w fun e w' => e = .returned (sv (Tree.root l)) ∧ Below w.heap.size w w' := by
  intro f
  induction f with
  | zero =>
    intro l a cap w hf hl hc h62 hHs hA
    obtain rfl : l = [] := List.length_eq_zero_iff.1 (by omega)
    exact hash7_nil a cap w
  | succ f ih =>
    intro l a cap w hf hl hc h62 hHs hA
    match l, hf, hl, h62, hHs, hA with
    | [], _, _, _, _, _ => exact hash7_nil a cap w
    | [p], _, _, _, _, hA => exact hash7_one p a cap w hA
    | p :: q :: t, hf, hl, h62, hHs, hA =>
      obtain ⟨n, hn⟩ : ∃ n, (p :: q :: t).length = n := ⟨_, rfl⟩
      have h2 : 2 ≤ n := by rw [← hn]; simp
      obtain ⟨x, rfl⟩ := hA.pos (by rw [hn]; omega)
      have e := hid (Tree.root_cut (l := p :: q :: t) (by rw [hn]; exact h2))
      generalize p :: q :: t = l at *
      rw [hn] at e hf hl h62 ⊢
      have k1 := Tree.sp_lt h2
      have k2 := Tree.sp_pos h2
      have hsp : Hid (∀ a, 2 ^ a < n → n ≤ 2 * 2 ^ a → 2 ^ a = Tree.sp n) := fun a x1 x2 => (Tree.sp_one h2 a x1 x2).symm
      generalize Tree.sp n = k at *
      have l1 : (l.take k).length = k := by rw [List.length_take, hn]; omega
      have l2 : (l.drop k).length = n - k := by rw [List.length_drop, hn]
      have c1 := fun w' (h : At w' (some x) (l.take k)) => ih (l.take k) (some x) cap w' (by omega) (by omega) hc (by omega) (hHs.take k) h
      have c2 := fun w' (h : At w' (some (x.add k)) (l.drop k)) => ih (l.drop k) (some (x.add k)) (cap - k) w' (by omega) (by omega) (by omega) (by omega) (hHs.drop k) h
      rw [l1] at c1
      rw [l2] at c2
      have n1 : ((n : Int) == 0) = false := by simp; omega
      have n2 : ((n : Int) == 1) = false := by simp; omega
      have hne : ¬ cap = k := by omega
      have A1 := hid (hA.take k)
      have A2 := hid (hA.drop k)
      have s1 := Tree.root_hash (hHs.take k)
      have s2 := Tree.root_hash (hHs.drop k)
      generalize hp1 : Tree.root (l.take k) = r1 at *
      generalize hp2 : Tree.root (l.drop k) = r2 at *
      obtain ⟨m, hm⟩ : ∃ m, Hid (Tree.nd r1 r2 = m) := ⟨_, rfl⟩
      have e' := hid (show Tree.root l = m by rw [e.out, hm.out])
      have iN := fun w' => rnode7_any s1 s2 hm w'
      clear hA ih hn e hp1 hp2 s1 s2 l1 l2 hHs hf
      go_enter Tryz.func64, Tryz.ntmps64
      go_wp2
      go_loopw [3] (fun v w' => ∃ a j : Nat, v = .int .i64 (j : Int) ∧ j < n ∧ 1 ≤ j ∧ Hid (2 ^ a = j) ∧ w' = w) (fun v _ => n - (intOf v).toNat)
      case atStart => exact ⟨0, 1, rfl, by omega, by omega, hid rfl, rfl⟩
      case round =>
        obtain ⟨a, j, rfl, hj, hj1, ha, rfl⟩ := hrel
        have s1 : IntKind.i64.wrap (2 * (j : Int)) = 2 * (j : Int) := wrap_small _ (by omega) (by omega)
        by_cases hlt : 2 * j < n
        · have c0 : 2 * (j : Int) < (n : Int) := by omega
          clear c1 c2
          go_wp2
          exact ⟨⟨a + 1, 2 * j, by go_num, hlt, by omega, by unfold Hid; rw [Nat.pow_succ, ha.out]; omega, by first | exact rfl | trivial⟩, by simp [intOf]; omega⟩
        · have c0 : ¬ 2 * (j : Int) < (n : Int) := by omega
          have hjk : j = k := by have := hsp.out a (by rw [ha.out]; exact hj) (by rw [ha.out]; omega); rw [ha.out] at this; exact this
          subst hjk
          have m0 : (0 : Int) ≤ (j : Int) := by omega
          have m1 : (j : Int) ≤ (cap : Int) := by omega
          have m2 : (j : Int) ≤ (n : Int) := by omega
          have m3 : (n : Int) ≤ (cap : Int) := by omega
          have hd : Hid (Below wr.heap.size wr wr.drew) := hid (Below.refl _ wr).drew
          clear hsp ha hA
          go_wp2
          go_region_held3 (fun _ => True) (trivial) (first
            | (go_at_call 64; (with_reducible refine (c1 _ (A1.out.below hd.out (Nat.le_refl _))).mono ?_); rintro e w9 ⟨rfl, hw9⟩; have h9 := hid (hd.out.trans (hw9.mono hd.out.size)))
            | (go_at_call 64; (with_reducible refine (c2 _ (A2.out.below h9.out (Nat.le_refl _))).mono ?_); rintro e w10 ⟨rfl, hw10⟩; have h10 := hid (h9.out.trans (hw10.mono h9.out.size)))
            | (go_at_call 85; (with_reducible refine (iN _).mono ?_); rintro e w11 ⟨rfl, hw11⟩; have h11 := hid (h10.out.trans (hw11.mono h10.out.size))))
          all_goals go_wp2
          all_goals go_ret
          all_goals exact ⟨by rw [e'.out]; rfl, h11.out⟩
end Go.Proofs.YtmpaliocfikifaaGreatDoor

namespace Go.Proofs.YtmpaliocfikifaaGreatDoor
open Go.RowKit
theorem sg_more {L : List (List UInt8)} {b k m : Nat} (hb : b + k < L.length) (hk : k < m) : (Til.sg L b (b + k) ++ List.replicate (m - k) []).set k L[b + k] = Til.sg L b (b + (k + 1)) ++ List.replicate (m - (k + 1)) [] := by
  have hl := Til.sg_len (L := L) (b := b) (e := b + k) (by omega)
  have e1 : Til.sg L b (b + (k + 1)) = Til.sg L b (b + k) ++ [L[b + k]] := by
    unfold Til.sg
    rw [show b + (k + 1) = (b + k) + 1 by omega, List.take_add_one, List.getElem?_eq_getElem hb, Option.toList_some, List.drop_append_of_le_length (by rw [List.length_take]; omega)]
  rw [List.set_append, if_neg (by omega), hl, show b + k - b = k by omega, Nat.sub_self, e1, List.append_assoc]
  congr 1
  rw [show m - k = (m - (k + 1)) + 1 by omega, List.replicate_succ, List.set_cons_zero]
  rfl
end Go.Proofs.YtmpaliocfikifaaGreatDoor

namespace Go.Proofs.YtmpaliocfikifaaGreatDoor
open Go.RowKit
theorem sizeSpn : (Tryz.prog.info? 72).map (·.size) = some 2 := by kernel_rfl
end Go.Proofs.YtmpaliocfikifaaGreatDoor

namespace Go.Proofs.YtmpaliocfikifaaGreatDoor
open Go.RowKit
theorem Tb.next {w w' : World} (h : Tb w) (hb : Below w.heap.size w w') : Tb w' := h.below hb h.lt
theorem Tabs.next' {w w' : World} (h : Tabs w) (hb : Below w.heap.size w w') : Tabs w' := h.below hb h.lt
end Go.Proofs.YtmpaliocfikifaaGreatDoor

namespace Go.Proofs.YtmpaliocfikifaaGreatDoor
open Go.RowKit
theorem append_S (w : World) (B : Nat) (v : Value) (H : List (List UInt8)) (x : List UInt8) (hown : Own w B v (svs H)) (hlen : H.length ≤ 2000000) (hB : B ≤ w.heap.size) :
    ∃ v' w', (Builtin.append_ #[24, 24] 24 #[v, .slice (some ⟨w.heap.size, 0, none⟩) 1 1]).run Tryz.prog (w.alloc (.cells #[.string ⟨x.toArray⟩] 9)) = .ok v' w' ∧ Own w' B v' (svs (H ++ [x])) ∧ Grow w w' v v' := by
  have h := append_one 24 9 (.string ⟨#[]⟩) 16 (by omega) undSlS infoS rfl w B v (svs H) (sv x) rfl hown (by rw [svs_length]; exact hlen) hB
  rw [show svs H ++ [sv x] = svs (H ++ [x]) by simp [svs]] at h
  exact h
/-- the roots of the past -/
def rts (L : List (List UInt8)) (k : Nat) : List (List UInt8) := (List.range k).map fun j => Tree.root (L.take j)
theorem rts_succ (L : List (List UInt8)) (k : Nat) : rts L (k + 1) = rts L k ++ [Tree.root (L.take k)] := by unfold rts; rw [List.range_succ, List.map_append]; rfl
theorem rts_len (L : List (List UInt8)) (k : Nat) : (rts L k).length = k := by unfold rts; rw [List.length_map, List.length_range]
theorem rts_get {L : List (List UInt8)} {k j : Nat} (h : j < k) : (rts L k)[j]? = some (Tree.root (L.take j)) := by
  unfold rts
  rw [List.getElem?_map, List.getElem?_range h]
  rfl
/-- a span in a variable of its own -/
def Sn (w w' : World) (g b e : Nat) : Prop := w'.heap[g]? = some (.cells #[.int .i64 (b : Int), .int .i64 (e : Int)] 72 (0, 0)) ∧ Below w.heap.size w w'
/-- two cells -/
def S22 (p q : Addr) (x y : Value) (w : World) : Prop := w.cell? p = some x ∧ w.cell? q = some y
theorem S22.below {p q : Addr} {x y : Value} {w w' : World} {B : Nat} (h : S22 p q x y w) (hb : Below B w w') (h1 : p.block < B) (h2 : q.block < B) : S22 p q x y w' := ⟨(hb.cell h1).trans h.1, (hb.cell h2).trans h.2⟩
end Go.Proofs.YtmpaliocfikifaaGreatDoor

namespace Go.Proofs.YtmpaliocfikifaaGreatDoor
open Go.RowKit

/-- append([]string(nil), l...): a list of one's own with l's texts -/
theorem append_at (w : World) (a : Option Addr) (cap : Nat) (L : List (List UInt8)) (hA : At w a L) (hlen : L.length ≤ 8796093022208) :
    ∃ v' w', (Builtin.append_ #[24, 24] 24 #[.slice none 0 0, .slice a L.length cap]).run Tryz.prog w = .ok v' w' ∧ Own w' w.heap.size v' (svs L) ∧ Below w.heap.size w w' := by
  obtain ⟨i0, hi, hz0, hz1, hz2⟩ := info_parts infoS
  by_cases h0 : L.length = 0
  · obtain rfl : L = [] := List.length_eq_zero_iff.1 h0
    refine ⟨_, w, append_zero w _ ?_, Own.nil _ _, Below.refl _ _⟩
    cases a with
    | none => exact Src.ofNil w Tryz.underlying24 cap
    | some x => exact Src.ofSlice w Tryz.underlying24 x 0 cap [] (by simp) (fun j u hj => by simp at hj) (fun u hu => by simp at hu)
  · obtain ⟨x, rfl⟩ := hA.pos (by omega)
    have hsrc : Src Tryz.prog 1 24 (.slice (some x) L.length cap) L.length (svs L) w :=
      Src.ofSlice w Tryz.underlying24 x L.length cap (svs L) (by rw [svs_length, Nat.mul_one]) (fun j u hj => by
        rw [svs, List.getElem?_map] at hj
        cases hp : L[j]? with
        | none => rw [hp] at hj; cases hj
        | some p =>
          rw [hp] at hj
          obtain rfl := Option.some.inj hj
          obtain ⟨y, e, _, hc⟩ := hA j p hp
          cases e
          exact hc) (fun u hu => svs_one hu)
    obtain ⟨v', w', h1, h2, h3, h4⟩ := run_append_O (P := Tryz.prog) w w.heap.size 24 24 24 9 i0 (.string ⟨#[]⟩) Tryz.underlying24 hi hz0 hz1 rfl (.slice none 0 0) (svs []) (Own.nil _ _) _ L.length (svs L) hsrc
      (by rw [svs_length, hz2]; simp; omega) (by rw [svs_length, maxLen]; simp; omega) (Nat.le_refl _) (fun _ => by omega)
    exact ⟨v', w', h1, by simpa [svs] using h2, Below.ofGrown h3 (Own.nil w w.heap.size).ge (Nat.le_refl _)⟩
end Go.Proofs.YtmpaliocfikifaaGreatDoor

namespace Go.Proofs.YtmpaliocfikifaaGreatDoor
open Go.RowKit
/-- the blocks of the document's tree -/
def Rb (q : Nat) (v : Value) (k : Nat) : Prop := k = q ∨ v.ownBlock = some k
/-- the document's tree: a height and a list of leaves -/
structure RtL (w : World) (q h : Nat) (L : List (List UInt8)) (F : Nat → Prop) : Prop where
  ex : ∃ v, w.heap[q]? = some (.cells #[.int .i64 (h : Int), v] 67 (0, 0)) ∧ Own w 0 v (svs L) ∧ v.ownBlock ≠ some q ∧ F = Rb q v
  hs : Tree.Hs L
  h1 : 1 ≤ h
  h8 : h ≤ 8
  low : ∀ k, F k → 4 ≤ k
  n20 : L.length ≤ 1048576
theorem RtL.lt {w : World} {q h : Nat} {L : List (List UInt8)} {F : Nat → Prop} (t : RtL w q h L F) : ∀ k, F k → k < w.heap.size := by
  obtain ⟨⟨v, r1, o1, _, rfl⟩, _, _, _, _, _⟩ := t
  rintro k (rfl | hk)
  · exact lt_of_heap r1
  · exact o1.ltS k hk
theorem RtL.keep {w w' : World} {q h : Nat} {L : List (List UInt8)} {F S : Nat → Prop} (t : RtL w q h L F) (hk : Keep S w w') (hd : ∀ k, F k → ¬ S k) : RtL w' q h L F := by
  have hlt := t.lt
  obtain ⟨⟨v, r1, o1, n1, rfl⟩, h2, h3, h4, h5, h6⟩ := t
  exact ⟨⟨v, (hk.block q (lt_of_heap r1) (hd q (.inl rfl))).trans r1, o1.keep hk fun k e => hd k (.inr e), n1, rfl⟩, h2, h3, h4, h5, h6⟩
theorem RtL.below {w w' : World} {q h : Nat} {L : List (List UInt8)} {F : Nat → Prop} (t : RtL w q h L F) (hb : Below w.heap.size w w') : RtL w' q h L F :=
  t.keep (Keep.ofBelow (S := fun _ => False) hb) fun _ _ e => e
theorem RtL.mov {w w' : World} {q h : Nat} {L : List (List UInt8)} {F G G' : Nat → Prop} (t : RtL w q h L F) (hm : Mov G w w' G') (hd : ∀ k, F k → ¬ G k) : RtL w' q h L F ∧ ∀ k, F k → ¬ G' k :=
  ⟨t.keep hm.keep hd, fun k hk e => by
    rcases hm.new k e with e | e
    · exact hd k hk e
    · have := t.lt k hk; omega⟩
/-- what lies in its row -/
theorem RtL.open {w : World} {q h : Nat} {L : List (List UInt8)} {F : Nat → Prop} (t : RtL w q h L F) : ∃ a c, w.heap[q]? = some (.cells #[.int .i64 (h : Int), .slice a L.length c] 67 (0, 0)) ∧ Own w 0 (.slice a L.length c) (svs L) ∧ (Value.slice a L.length c).ownBlock ≠ some q ∧ F = Rb q (.slice a L.length c) ∧ At w a L ∧ L.length ≤ c ∧ c ≤ 9223372036854775807 := by
  obtain ⟨⟨v, r1, o1, n1, rfl⟩, _, _, _, _, _⟩ := t
  obtain ⟨a, c, rfl, hA, h1, h2⟩ := o1.at
  exact ⟨a, c, r1, o1, n1, rfl, hA, h1, h2⟩
set_option maxRecDepth 100000 in
theorem rSizeL {w : World} {q h : Nat} {L : List (List UInt8)} {F : Nat → Prop} (t : RtL w q h L F) : Calls Tryz.prog 37 #[.pointer (some ⟨q, 0, none⟩)] w fun r w' => r = .returned (.int .i64 (L.length : Int)) ∧ w' = w := by
  obtain ⟨a, c, r1, _, _, _, _, _, _⟩ := t.open
  have c1 : w.cell? ⟨q, 1, none⟩ = some (.slice a L.length c) := by rw [cell_of_row _ _ _ _ _ _ r1]; rfl
  clear r1 t
  generalize L.length = n at *
  go_enter Tryz.func37, Tryz.ntmps37
  go_wp2
  go_ret
  exact ⟨rfl, rfl⟩
set_option maxRecDepth 100000 in
theorem rNew_any (h : Nat) (h1 : 1 ≤ h) (h8 : h ≤ 8) (w : World) (hT : 4 ≤ w.heap.size) : Calls Tryz.prog 9 #[.int .i64 (h : Int)] w fun r w' => ∃ q F, r = .returned (.tuple #[.pointer (some ⟨q, 0, none⟩), .int .i64 0]) ∧ RtL w' q h [] F ∧ (∀ k, F k → w.heap.size ≤ k) ∧ Below w.heap.size w w' := by
  have c0 : ¬ (h : Int) < 1 := by omega
  have c1 : ¬ (h : Int) > 8 := by omega
  have c2 : ¬ 8 < (h : Int) := by omega
  go_enter Tryz.func9, Tryz.ntmps9
  go_wp2
  go_ret2
  have b1 := (Below.refl w.heap.size w).alloc (Nat.le_refl _) (.cells #[Value.int .i64 (h : Int), .slice none 0 0] 67)
  have r1 := heap_alloc_new w (.cells #[Value.int .i64 (h : Int), .slice none 0 0] 67)
  have hF : ∀ k, Rb w.heap.size (.slice none 0 0) k → w.heap.size ≤ k := fun k hk => by
    rcases hk with hk | hk
    · omega
    · cases hk
  exact ⟨w.heap.size, rfl, _, ⟨⟨_, r1, Own.nil _ _, (fun e => by cases e), rfl⟩, fun x hx => (by cases hx), h1, h8, fun k hk => Nat.le_trans hT (hF k hk), by simp⟩, hF, b1⟩
set_option maxRecDepth 100000 in
theorem rNew_bad (h : Int) (h1 : h < 1 ∨ 8 < h) (w : World) : Calls Tryz.prog 9 #[.int .i64 h] w fun r w' => r = .returned (.tuple #[.pointer none, .int .i64 70]) ∧ w' = w := by
  by_cases hc : h < 1
  · go_enter Tryz.func9, Tryz.ntmps9
    go_wp2
    go_ret2
    exact ⟨rfl, rfl⟩
  · have c1 : h > 8 := by omega
    go_enter Tryz.func9, Tryz.ntmps9
    go_wp2
    go_ret2
    exact ⟨rfl, rfl⟩
set_option maxRecDepth 100000 in
theorem rAdd_bad (q : Nat) (x : List UInt8) (hx : x.length ≠ 32) (w : World) : Calls Tryz.prog 11 #[.pointer (some ⟨q, 0, none⟩), sv x] w fun r w' => r = .returned (.int .i64 71) ∧ w' = w := by
  have hs := sv_size x
  have c0 : (((ByteArray.mk x.toArray).size : Int) != 32) = true := by rw [hs]; simp; omega
  show Calls _ _ #[_, .string ⟨x.toArray⟩] _ _
  go_enter Tryz.func11, Tryz.ntmps11
  go_wp2
  go_ret
  exact ⟨rfl, rfl⟩
set_option maxRecDepth 100000 in
set_option maxHeartbeats 1000000 in
theorem rAdd_full {w : World} {q h : Nat} {L : List (List UInt8)} {F : Nat → Prop} (t : RtL w q h L F) (x : List UInt8) (hx : x.length = 32) (hn : ¬ L.length < 1048576) : Calls Tryz.prog 11 #[.pointer (some ⟨q, 0, none⟩), sv x] w fun r w' => r = .returned (.int .i64 74) ∧ w' = w := by
  have hs := sv_size x
  have c0 : (((ByteArray.mk x.toArray).size : Int) != 32) = false := by rw [hs, hx]; rfl
  obtain ⟨a, c, r1, _, _, _, _, _, _⟩ := t.open
  have c1 : w.cell? ⟨q, 1, none⟩ = some (.slice a L.length c) := by rw [cell_of_row _ _ _ _ _ _ r1]; rfl
  clear r1 t hs
  generalize L.length = n at *
  have c2 : (n : Int) ≥ 1048576 := by omega
  show Calls _ _ #[_, .string ⟨x.toArray⟩] _ _
  go_enter Tryz.func11, Tryz.ntmps11
  go_wp2
  go_ret
  exact ⟨rfl, rfl⟩
set_option maxRecDepth 100000 in
set_option maxHeartbeats 1000000 in
theorem rAdd_any {w : World} {q h : Nat} {L : List (List UInt8)} {F : Nat → Prop} (t : RtL w q h L F) (x : List UInt8) (hx : x.length = 32) (hn : L.length < 1048576) (hT : 4 ≤ w.heap.size) : Calls Tryz.prog 11 #[.pointer (some ⟨q, 0, none⟩), sv x] w fun r w' => r = .returned (.int .i64 0) ∧ ∃ F', RtL w' q h (L ++ [x]) F' ∧ Mov F w w' F' := by
  have hs := sv_size x
  have c0 : (((ByteArray.mk x.toArray).size : Int) != 32) = false := by rw [hs, hx]; rfl
  have hsx : Tree.Hs (L ++ [x]) := fun y hy => by
    rcases List.mem_append.1 hy with hy | hy
    · exact t.hs y hy
    · rw [List.mem_singleton.1 hy]; exact hx
  obtain ⟨a, c, r1, o1, n1, rfl, _, _, _⟩ := t.open
  obtain ⟨_, _, g1, g8, glow, _⟩ := t
  have c1 : w.cell? ⟨q, 1, none⟩ = some (.slice a L.length c) := by rw [cell_of_row _ _ _ _ _ _ r1]; rfl
  obtain ⟨v', w', hap, o2, gr⟩ := append_S w 0 _ L x o1 (by omega) (Nat.zero_le _)
  have hq := lt_of_heap r1
  have r2 := (gr.old q hq n1).trans r1
  have f2 : w'.frozen? ⟨q, 1, none⟩ = false := frozen_of_row _ _ _ _ _ r2
  have c2' : w'.cell? ⟨q, 1, none⟩ = some (.slice a L.length c) := by rw [cell_of_row _ _ _ _ _ _ r2]; rfl
  have fin : Hid (∃ F', RtL (w'.setCell ⟨q, 1, none⟩ v') q h (L ++ [x]) F' ∧ Mov (Rb q (.slice a L.length c)) w (w'.setCell ⟨q, 1, none⟩ v') F') := by
    have hnew : ∀ k, v'.ownBlock = some k → (Value.slice a L.length c).ownBlock = some k ∨ w.heap.size ≤ k := fun k hk => by
      rcases gr.alt with e | ⟨e, _⟩
      · left; rw [← e]; exact hk
      · right; exact e k hk
    have hne : v'.ownBlock ≠ some q := fun e => by
      rcases hnew q e with e' | e'
      · exact n1 e'
      · omega
    have hm : Mov (Rb q (.slice a L.length c)) w (w'.setCell ⟨q, 1, none⟩ v') (Rb q v') := by
      refine ⟨(gr.keep.mono fun _ _ e => .inr e).trans (Keep.ofSet (S := fun k => k = q) w' q 1 v' rfl) fun _ _ e => .inl e, fun k hk => ?_⟩
      rcases hk with e | e
      · exact .inl (.inl e)
      · rcases hnew k e with e | e
        · exact .inl (.inr e)
        · exact .inr e
    refine ⟨Rb q v', ⟨⟨v', heap_setCell_same w' q 1 _ _ _ r2, o2.keep (Keep.ofSet (S := fun k => k = q) w' q 1 v' rfl) (fun k hk e => hne (e ▸ hk)), hne, rfl⟩, hsx, g1, g8, fun k hk => ?_, ?_⟩, hm⟩
    · rcases hm.new k hk with e | e
      · exact glow k e
      · omega
    · rw [List.length_append]; simp; omega
  obtain ⟨a', c', hv⟩ := o2.shape
  clear r1 r2 o1 o2 gr glow hsx hs n1
  subst hv
  generalize (svs (L ++ [x])).length = n' at *
  generalize L.length = n at *
  have c3 : ¬ (n : Int) ≥ 1048576 := by omega
  rw [show sv x = Value.string ⟨x.toArray⟩ from rfl]
  go_enter Tryz.func11, Tryz.ntmps11
  go_wp2_with (at_builtin; go_must (refine Lib.wpList_append_run _ rfl _ _ 24 24 rfl _ _ rfl rfl _ _ hap ?_); clear hap)
  go_ret
  exact ⟨rfl, fin.out⟩
end Go.Proofs.YtmpaliocfikifaaGreatDoor

namespace Go.Proofs.YtmpaliocfikifaaGreatDoor
open Go.RowKit
set_option maxRecDepth 100000 in
set_option maxHeartbeats 2000000 in
theorem rinside_any {w : World} {q h : Nat} {L : List (List UInt8)} {F : Nat → Prop} (t : RtL w q h L F) (b e : Int) :
    Calls Tryz.prog 63 #[.pointer (some ⟨q, 0, none⟩), .agg #[.int .i64 b, .int .i64 e]] w fun r w' => r = .returned (.bool (spB L.length b e)) ∧ Below w.heap.size w w' := by
  obtain ⟨w1, hw1⟩ : ∃ w1, w.alloc (.cells #[Value.int .i64 b, .int .i64 e] 72) = w1 := ⟨_, rfl⟩
  have b1 := (Below.refl w.heap.size w).alloc (Nat.le_refl _) (.cells #[Value.int .i64 b, .int .i64 e] 72)
  have r1 := heap_alloc_new w (.cells #[Value.int .i64 b, .int .i64 e] 72)
  rw [hw1] at b1 r1
  have s0 : w1.cell? ⟨w.heap.size, 0, none⟩ = some (.int .i64 b) := by rw [cell_of_row _ _ _ _ _ _ r1]; rfl
  have s1 : w1.cell? ⟨w.heap.size, 1, none⟩ = some (.int .i64 e) := by rw [cell_of_row _ _ _ _ _ _ r1]; rfl
  obtain ⟨a, c, r2, o1, n1, _, hA, _, _⟩ := (t.below b1).open
  have s2 : w1.cell? ⟨q, 1, none⟩ = some (.slice a L.length c) := by rw [cell_of_row _ _ _ _ _ _ r2]; rfl
  have B1 := hid b1
  obtain ⟨n, hn⟩ : ∃ n, L.length = n := ⟨_, rfl⟩
  rw [hn] at s2 ⊢
  obtain ⟨d, hc⟩ : ∃ c, spB n b e = c := ⟨_, rfl⟩
  rw [hc]
  unfold spB at hc
  have HC := hid hc
  clear t b1 r1 hc r2 o1 n1 hA
  have fin : Below w.heap.size w w1.drew := B1.out.drew
  by_cases h0 : 0 ≤ b
  · have y0 : decide (0 ≤ b) = true := decide_eq_true h0
    have y0' : decide (b ≥ 0) = true := decide_eq_true h0
    by_cases h1 : b ≤ e
    · have y1 : decide (b ≤ e) = true := decide_eq_true h1
      have c3 : decide (e ≤ (n : Int)) = d := by rw [← HC.out]; exact decide_eq_decide.2 ⟨fun x => ⟨h0, h1, x⟩, fun x => x.2.2⟩
      clear h0 h1
      go_enter Tryz.func63, Tryz.ntmps63
      go_wp2
      go_quiet (fail)
      go_wp2
      go_ret
      exact ⟨by rw [← c3]; rfl, ⟨B1.out.os, B1.out.tape, B1.out.output, B1.out.size, B1.out.block⟩⟩
    · have c3 : d = false := by rw [← HC.out]; exact decide_eq_false fun x => h1 x.2.1
      subst c3
      have y1 : decide (b ≤ e) = false := decide_eq_false h1
      clear h0 h1 HC
      go_enter Tryz.func63, Tryz.ntmps63
      go_wp2
      go_quiet (fail)
      go_wp2
      go_ret
      exact ⟨rfl, ⟨B1.out.os, B1.out.tape, B1.out.output, B1.out.size, B1.out.block⟩⟩
  · have c3 : d = false := by rw [← HC.out]; exact decide_eq_false fun x => h0 x.1
    subst c3
    have y0 : decide (0 ≤ b) = false := decide_eq_false h0
    clear h0 HC
    go_enter Tryz.func63, Tryz.ntmps63
    go_wp2
    go_quiet (fail)
    go_wp2
    go_ret
    exact ⟨rfl, ⟨B1.out.os, B1.out.tape, B1.out.output, B1.out.size, B1.out.block⟩⟩
end Go.Proofs.YtmpaliocfikifaaGreatDoor

namespace Go.Proofs.YtmpaliocfikifaaGreatDoor
open Go.RowKit
/-- T3: the hash of a complete subtree -/
def hashO (L : List (List UInt8)) (l i : Int) : List UInt8 × Int := if 0 ≤ l ∧ 0 ≤ i ∧ (i.toNat + 1) * 2 ^ l.toNat ≤ L.length then (Til.hs L l.toNat i.toNat, 0) else ([], 72)
theorem pow31 {l : Nat} (h : 30 < l) : 2147483648 ≤ 2 ^ l := by
  have : 2 ^ 31 ≤ 2 ^ l := Nat.pow_le_pow_right (by omega) h
  omega
theorem big_not {L : List (List UInt8)} (h20 : L.length ≤ 1048576) {l i : Int} (hb : l < 0 ∨ 30 < l ∨ i < 0 ∨ 1048576 < i) : ¬ (0 ≤ l ∧ 0 ≤ i ∧ (i.toNat + 1) * 2 ^ l.toNat ≤ L.length) := by
  rintro ⟨h1, h2, h3⟩
  have hp := Nat.two_pow_pos l.toNat
  have k1 : i.toNat + 1 ≤ (i.toNat + 1) * 2 ^ l.toNat := Nat.le_mul_of_pos_right _ hp
  have k2 : 2 ^ l.toNat ≤ (i.toNat + 1) * 2 ^ l.toNat := Nat.le_mul_of_pos_left _ (by omega)
  rcases hb with hb | hb | hb | hb
  · omega
  · have := pow31 (l := l.toNat) (by omega); omega
  · omega
  · omega
theorem At.sg {w : World} {x : Addr} {L : List (List UInt8)} (h : At w (some x) L) (b e : Nat) : At w (some (x.add b)) (Til.sg L b e) := (h.take e).drop b
end Go.Proofs.YtmpaliocfikifaaGreatDoor

namespace Go.Proofs.YtmpaliocfikifaaGreatDoor
open Go.RowKit
theorem At.map_sg {w : World} {a : Option Addr} {L : List (List UInt8)} (h : At w a L) {b e : Nat} (he : e ≤ L.length) : At w (a.map (·.add b)) (Til.sg L b e) := by
  by_cases hbe : b < e
  · obtain ⟨y, rfl⟩ := h.pos (by omega)
    exact h.sg b e
  · have : Til.sg L b e = [] := List.eq_nil_of_length_eq_zero (by rw [Til.sg_len he]; omega)
    rw [this]
    exact At.nil _ _
theorem s3_below {q g : Nat} {x y z : Value} {w w' : World} (h : w.cell? ⟨q, 1, none⟩ = some x ∧ w.cell? ⟨g, 0, none⟩ = some y ∧ w.cell? ⟨g, 1, none⟩ = some z) (hq : q < w.heap.size) (hg : g < w.heap.size) (hb : Below w.heap.size w w') : w'.cell? ⟨q, 1, none⟩ = some x ∧ w'.cell? ⟨g, 0, none⟩ = some y ∧ w'.cell? ⟨g, 1, none⟩ = some z :=
  ⟨(hb.cell (p := ⟨q, 1, none⟩) hq).trans h.1, (hb.cell (p := ⟨g, 0, none⟩) hg).trans h.2.1, (hb.cell (p := ⟨g, 1, none⟩) hg).trans h.2.2⟩
set_option maxRecDepth 100000 in
set_option maxHeartbeats 4000000 in
theorem rPart7_any {w : World} {q h : Nat} {L : List (List UInt8)} {F : Nat → Prop} (t : RtL w q h L F) (b e : Int) {x : List UInt8} {z : Int} (hx : Hid (tPartO L b e = (x, z))) :
    Calls Tryz.prog 38 #[.pointer (some ⟨q, 0, none⟩), .agg #[.int .i64 b, .int .i64 e]] w fun r w' => r = .returned (.tuple #[sv x, .int .i64 z]) ∧ Below w.heap.size w w' := by
  obtain ⟨w1, hw1⟩ : ∃ w1, w.alloc (.cells #[Value.int .i64 b, .int .i64 e] 72) = w1 := ⟨_, rfl⟩
  have b1 := (Below.refl w.heap.size w).alloc (Nat.le_refl _) (.cells #[Value.int .i64 b, .int .i64 e] 72)
  have r1 := heap_alloc_new w (.cells #[Value.int .i64 b, .int .i64 e] 72)
  rw [hw1] at b1 r1
  have c0 : w1.cell? ⟨w.heap.size, 0, none⟩ = some (.int .i64 b) := by rw [cell_of_row _ _ _ _ _ _ r1]; rfl
  have c1 : w1.cell? ⟨w.heap.size, 1, none⟩ = some (.int .i64 e) := by rw [cell_of_row _ _ _ _ _ _ r1]; rfl
  have T1 := hid (t.below b1)
  have i1 := rinside_any T1.out b e
  have B1 := hid b1
  have hlt : w.heap.size < w1.heap.size := lt_of_heap r1
  have hxo := hx.out
  unfold tPartO at hxo
  obtain ⟨d, hc⟩ : ∃ c, spB L.length b e = c := ⟨_, rfl⟩
  rw [hc] at i1 hxo
  have n20 := t.n20
  have hHs := t.hs
  clear t b1 r1 hx
  cases d
  · rw [if_neg (by simp)] at hxo
    injection hxo with h1 h2
    subst h1 h2
    go_enter Tryz.func38, Tryz.ntmps38
    go_wp2_with (go_at_call 63; refine i1.mono ?_; rintro r w2 ⟨rfl, hw2⟩)
    go_ret2
    exact ⟨rfl, B1.out.trans (hw2.mono B1.out.size)⟩
  · rw [if_pos rfl] at hxo
    injection hxo with h1 h2
    subst h2
    unfold spB at hc
    have hc := of_decide_eq_true hc
    obtain ⟨b', rfl⟩ : ∃ b' : Nat, b = (b' : Int) := ⟨b.toNat, by omega⟩
    obtain ⟨e', rfl⟩ : ∃ e' : Nat, e = (e' : Int) := ⟨e.toNat, by omega⟩
    rw [Int.toNat_natCast, Int.toNat_natCast] at h1
    have hbe : b' ≤ e' := by omega
    have hen : e' ≤ L.length := by omega
    have m0 : (0 : Int) ≤ (b' : Int) := by omega
    have m1 : (b' : Int) ≤ (e' : Int) := by omega
    have hlen := Til.sg_len (L := L) (b := b') hen
    clear hc
    go_enter Tryz.func38, Tryz.ntmps38
    go_wp2_with (go_at_call 63; fail)
    refine i1.mono ?_
    rintro r w2 ⟨rfl, hw2⟩
    have d0 := (hw2.cell (p := ⟨w.heap.size, 0, none⟩) hlt).trans c0
    have d1 := (hw2.cell (p := ⟨w.heap.size, 1, none⟩) hlt).trans c1
    obtain ⟨a, c, r2, _, _, _, hA, hLc, hc9⟩ := (T1.out.below hw2).open
    have d2 : w2.cell? ⟨q, 1, none⟩ = some (.slice a L.length c) := by rw [cell_of_row _ _ _ _ _ _ r2]; rfl
    have B2 := hid (B1.out.trans (hw2.mono B1.out.size))
    have m2 : (e' : Int) ≤ (c : Int) := by omega
    have S0 : w2.cell? ⟨q, 1, none⟩ = some (.slice a L.length c) ∧ w2.cell? ⟨w.heap.size, 0, none⟩ = some (.int .i64 (b' : Int)) ∧ w2.cell? ⟨w.heap.size, 1, none⟩ = some (.int .i64 (e' : Int)) := ⟨d2, d0, d1⟩
    have hqlt := lt_of_heap r2
    have hglt : w.heap.size < w2.heap.size := Nat.lt_of_lt_of_le hlt hw2.size
    have hd : Below w2.heap.size w2 w2.drew := (Below.refl _ _).drew
    by_cases hcb : c = b'
    · have i3 := hash7_any _ (Til.sg L b' e') a 0 w2.drew (Nat.le_refl _) (by omega) (by omega) (by omega) (Til.sg_hs hHs _ _) (by
        have : Til.sg L b' e' = [] := List.eq_nil_of_length_eq_zero (by omega)
        rw [this]; exact At.nil _ _)
      rw [hlen, h1] at i3
      clear r2 hA h1 hlen T1 i1 hHs d0 d1 d2 c0 c1 B1 hw2
      generalize L.length = n at *
      obtain rfl : b' = c := hcb.symm
      go_wp2
      go_region_held3 (fun w' => w'.cell? ⟨q, 1, none⟩ = some (.slice a n b') ∧ w'.cell? ⟨w.heap.size, 0, none⟩ = some (.int .i64 (b' : Int)) ∧ w'.cell? ⟨w.heap.size, 1, none⟩ = some (.int .i64 (e' : Int))) (first | exact S0 | exact S3) ((go_at_call 64; refine i3.mono ?_; rintro r w3 ⟨rfl, hw3⟩; have S3 := s3_below (w := w2.drew) S0 hqlt hglt hw3))
      all_goals go_wp2
      all_goals go_ret2
      all_goals exact ⟨rfl, B2.out.trans ((hd.trans (hw3.mono hd.size)).mono B2.out.size)⟩
    · have i3 := hash7_any _ (Til.sg L b' e') (a.map (·.add b')) (c - b') w2.drew (Nat.le_refl _) (by omega) (by omega) (by omega) (Til.sg_hs hHs _ _) ((hA.map_sg hen).below hd (Nat.le_refl _))
      rw [hlen, h1] at i3
      clear r2 hA h1 hlen T1 i1 hHs d0 d1 d2 c0 c1 B1 hw2
      generalize L.length = n at *
      go_wp2
      go_region_held3 (fun w' => w'.cell? ⟨q, 1, none⟩ = some (.slice a n c) ∧ w'.cell? ⟨w.heap.size, 0, none⟩ = some (.int .i64 (b' : Int)) ∧ w'.cell? ⟨w.heap.size, 1, none⟩ = some (.int .i64 (e' : Int))) (first | exact S0 | exact S3) ((go_at_call 64; refine i3.mono ?_; rintro r w3 ⟨rfl, hw3⟩; have S3 := s3_below (w := w2.drew) S0 hqlt hglt hw3))
      all_goals go_wp2
      all_goals go_ret2
      all_goals exact ⟨rfl, B2.out.trans ((hd.trans (hw3.mono hd.size)).mono B2.out.size)⟩
end Go.Proofs.YtmpaliocfikifaaGreatDoor

namespace Go.Proofs.YtmpaliocfikifaaGreatDoor
open Go.RowKit Go.Shelf
namespace Bat
set_option maxRecDepth 100000 in
set_option maxHeartbeats 4000000 in
theorem join_at {w : World} {b : Nat} {f : Kn} (M : Mk w b f) (T : Tabs w) {x0 x1 y0 y1 l0 l1 r0 r1 : Nat} (hl : Lo (l0, l1)) (hr : Lo (r0, r1)) {q : Bool} (hq : decide ((y0 : Int) < (x0 : Int)) = q) (hc : Hid (if q = true then l0 = y0 ∧ l1 = y1 ∧ r0 = x0 ∧ r1 = x1 else l0 = x0 ∧ l1 = x1 ∧ r0 = y0 ∧ r1 = y1)) {a c h : List UInt8} (fl : f (l0, l1) = some a) (fr : f (r0, r1) = some c) (hn : Hid (nodeOf a c = (h, 0))) :
    Calls Tryz.prog 88 #[.map (some b), sg x0 x1, sg y0 y1] w fun e w' => e = .returned (sg l0 r1) ∧ Mk w' b (upd f (l0, r1) h) ∧ But b w w' := by
  have hbs := M.lt
  have S0 := SpI.new w (x0 : Int) (x1 : Int)
  have B0 := (Below.refl w.heap.size w).alloc (Nat.le_refl _) (.cells #[Value.int .i64 (x0 : Int), .int .i64 (x1 : Int)] 72)
  go_enter Tryz.func88, Tryz.ntmps88
  go_upto_region 1 with fail
  obtain ⟨w3, hw3⟩ : ∃ w3, Hid ((((w.alloc (.cells #[.int .i64 (x0 : Int), .int .i64 (x1 : Int)] 72)).alloc (.cells #[.int .i64 (y0 : Int), .int .i64 (y1 : Int)] 72)).alloc (.cells #[.int .i64 0, .int .i64 0] 72)) = w3) := ⟨_, rfl⟩
  rw [hw3.out]
  have B3 : Hid (Below w.heap.size w w3) := by unfold Hid; rw [← hw3.out]; exact (B0.alloc (by rw [size_alloc]; omega) _).alloc (by rw [size_alloc, size_alloc]; omega) _
  have z3 : w3.heap.size = w.heap.size + 3 := by rw [← hw3.out]; simp
  have R0 : Hid (SpI w3 w.heap.size x0 x1) := by unfold Hid; rw [← hw3.out]; exact (S0.below ((Below.refl _ _).alloc (Nat.le_refl _) _)).below ((Below.refl _ _).alloc (Nat.le_refl _) _)
  have R1 : Hid (SpI w3 (w.heap.size + 1) y0 y1) := by
    unfold Hid; rw [← hw3.out]
    have := SpI.new (w.alloc (.cells #[.int .i64 (x0 : Int), .int .i64 (x1 : Int)] 72)) y0 y1
    rw [size_alloc] at this
    exact this.below ((Below.refl _ _).alloc (Nat.le_refl _) _)
  have R2 : Hid (SpI w3 (w.heap.size + 1 + 1) 0 0) := by
    unfold Hid; rw [← hw3.out]
    have := SpI.new ((w.alloc (.cells #[.int .i64 (x0 : Int), .int .i64 (x1 : Int)] 72)).alloc (.cells #[.int .i64 (y0 : Int), .int .i64 (y1 : Int)] 72)) 0 0
    rw [size_alloc, size_alloc] at this
    exact this
  have M3 := hid (M.below B3.out hbs)
  have T3 := hid (T.below B3.out T.lt)
  have hT := T.lt
  clear hw3 S0 B0 M T
  go_cut [7, 8] from 12 to 13 (fun u v w' => ∃ gl gr : Nat, u = .pointer (some ⟨gl, 0, none⟩) ∧ v = .pointer (some ⟨gr, 0, none⟩) ∧ gl ≠ gr ∧ w3.heap.size ≤ gl ∧ w3.heap.size ≤ gr ∧ Hid (SpI w' gl x0 x1) ∧ Hid (SpI w' gr y0 y1) ∧ Hid (Below w3.heap.size w3 w'))
  case first =>
    have c0 := R0.out.c0
    have c1 := R0.out.c1
    have d0 := R1.out.c0
    have d1 := R1.out.c1
    go_region
    all_goals go_wp2
    all_goals go_meet
    · refine ⟨_, _, rfl, rfl, by omega, by omega, by omega, ?_, ?_, ?_⟩
      · have := (SpI.new w3 (x0 : Int) (x1 : Int)).below ((Below.refl _ _).alloc (Nat.le_refl _) (.cells #[Value.int .i64 (y0 : Int), .int .i64 (y1 : Int)] 72))
        rw [z3] at this
        exact this
      · have := SpI.new (w3.alloc (.cells #[Value.int .i64 (x0 : Int), .int .i64 (x1 : Int)] 72)) (y0 : Int) (y1 : Int)
        rw [size_alloc, z3] at this
        exact this
      · exact (((Below.refl _ _).alloc (Nat.le_refl _) _).alloc (by rw [size_alloc]; omega) _).drew
    · refine ⟨_, _, rfl, rfl, by omega, by omega, by omega, ?_, ?_, ?_⟩
      · have := SpI.new (w3.alloc (.cells #[Value.int .i64 (y0 : Int), .int .i64 (y1 : Int)] 72)) (x0 : Int) (x1 : Int)
        rw [size_alloc, z3] at this
        exact this
      · have := (SpI.new w3 (y0 : Int) (y1 : Int)).below ((Below.refl _ _).alloc (Nat.le_refl _) (.cells #[Value.int .i64 (x0 : Int), .int .i64 (x1 : Int)] 72))
        rw [z3] at this
        exact this
      · exact (((Below.refl _ _).alloc (Nat.le_refl _) _).alloc (by rw [size_alloc]; omega) _).drew
  case rest =>
  obtain ⟨gl, gr, rfl, rfl, hne, h1, h2, HL, HR, HB⟩ := hcut
  have r0' := R0.out.below HB.out
  have r1' := R1.out.below HB.out
  have a0 := r0'.c0
  have a1 := r0'.c1
  have e0 := r1'.c0
  have e1 := r1'.c1
  have S2 := hid (R2.out.below HB.out)
  clear r0' r1' R0 R1 R2
  go_upto_if 18 with fail
  go_cut [] from 14 to 20 (fun w' => Hid (SpI w' gl l0 l1) ∧ Hid (SpI w' gr r0 r1) ∧ Hid (SpI w' (w.heap.size + 1 + 1) 0 0) ∧ Hid (Below w3.heap.size w3 w'))
  case first =>
    cases q
    · have hq := of_decide_eq_false hq
      obtain ⟨rfl, rfl, rfl, rfl⟩ := hc.out
      go_wp2
      go_meet
      exact ⟨HL, HR, S2, HB⟩
    · have hq := of_decide_eq_true hq
      obtain ⟨rfl, rfl, rfl, rfl⟩ := hc.out
      have u0 := HL.out.c0
      have u1 := HL.out.c1
      have v0 := HR.out.c0
      have v1 := HR.out.c1
      have p0 := HL.out.f0
      have p1 := HL.out.f1
      have q0 := HR.out.f0
      have q1 := HR.out.f1
      go_wp2
      go_region
      all_goals go_wp2
      all_goals go_meet
      have k1 := HL.out.two (l0 : Int) (l1 : Int)
      have k2 := (HR.out.far gl 0 (.int .i64 (l0 : Int)) (by omega)).far gl 1 (.int .i64 (l1 : Int)) (by omega)
      have k3 := k2.two (r0 : Int) (r1 : Int)
      have k4 := (k1.far gr 0 (.int .i64 (r0 : Int)) hne).far gr 1 (.int .i64 (r1 : Int)) hne
      have k5 := (((S2.out.far gl 0 (.int .i64 (l0 : Int)) (by omega)).far gl 1 (.int .i64 (l1 : Int)) (by omega)).far gr 0 (.int .i64 (r0 : Int)) (by omega)).far gr 1 (.int .i64 (r1 : Int)) (by omega)
      refine ⟨k4, k3, k5, ?_⟩
      exact (Below.setCell (p := ⟨gr, 1, none⟩) (Below.setCell (p := ⟨gr, 0, none⟩) (Below.setCell (p := ⟨gl, 1, none⟩) (Below.setCell (p := ⟨gl, 0, none⟩) HB.out h1 _) h1 _) h2 _) h2 _).drew
  case rest =>
  clear HL HR HB S2 a0 a1 e0 e1
  obtain ⟨HL, HR, S2, HB⟩ := hcut
  have u0 := HL.out.c0
  have u1 := HL.out.c1
  have v0 := HR.out.c0
  have v1 := HR.out.c1
  have hsz := HB.out.size
  have bb := (Below.refl wc.heap.size wc).alloc (Nat.le_refl _) (.cells #[.int .i64 (l0 : Int), .int .i64 (r1 : Int)] 72)
  have L5 := hid (HL.out.below bb)
  have R5 := hid (HR.out.below bb)
  have S5 := hid (S2.out.below bb)
  have D5 := hid (SpI.new wc (l0 : Int) (r1 : Int))
  have B5 := hid (HB.out.trans (bb.mono hsz))
  have M5 := hid (M3.out.below B5.out M3.out.lt)
  have T5 := hid (T3.out.below B5.out T3.out.lt)
  clear bb HL HR S2 M3 T3
  go_wp2
  have z5 : (wc.alloc (.cells #[.int .i64 (l0 : Int), .int .i64 (r1 : Int)] 72)).heap.size = wc.heap.size + 1 := by simp
  generalize wc.alloc (.cells #[.int .i64 (l0 : Int), .int .i64 (r1 : Int)] 72) = w5 at *
  have fact : ∀ w', Mk w' b f → SpI w' gl l0 l1 → SpI w' gr r0 r1 → w'.cell? ⟨gl, 0, none⟩ = some (.int .i64 (l0 : Int)) ∧ w'.cell? ⟨gl, 1, none⟩ = some (.int .i64 (l1 : Int)) ∧ w'.cell? ⟨gr, 0, none⟩ = some (.int .i64 (r0 : Int)) ∧ w'.cell? ⟨gr, 1, none⟩ = some (.int .i64 (r1 : Int)) ∧
      (Instr.lookup 90 (.map (some b)) (.agg #[.int .i64 (l0 : Int), .int .i64 (l1 : Int)]) false).run Tryz.prog w' = .ok (.agg #[.string ⟨a.toArray⟩]) w' ∧ (Instr.lookup 90 (.map (some b)) (.agg #[.int .i64 (r0 : Int), .int .i64 (r1 : Int)]) false).run Tryz.prog w' = .ok (.agg #[.string ⟨c.toArray⟩]) w' := fun w' m l r =>
    ⟨l.c0, l.c1, r.c0, r.c1, m.get hl fl, m.get hr fr⟩
  have hf1 := field_hash ⟨a.toArray⟩
  have hf2 := field_hash ⟨c.toArray⟩
  have x5 := fact w5.drew (M5.out.heap rfl) L5.out R5.out
  have i1 := node_at hn w5.drew (T5.out.below ((Below.refl _ w5).drew) T5.out.lt)
  rw [show sv a = Value.string ⟨a.toArray⟩ from rfl, show sv c = Value.string ⟨c.toArray⟩ from rfl, show sv h = Value.string ⟨h.toArray⟩ from rfl] at i1
  go_region_held3 (fun w' => w'.cell? ⟨gl, 0, none⟩ = some (.int .i64 (l0 : Int)) ∧ w'.cell? ⟨gl, 1, none⟩ = some (.int .i64 (l1 : Int)) ∧ w'.cell? ⟨gr, 0, none⟩ = some (.int .i64 (r0 : Int)) ∧ w'.cell? ⟨gr, 1, none⟩ = some (.int .i64 (r1 : Int)) ∧
      (Instr.lookup 90 (.map (some b)) (.agg #[.int .i64 (l0 : Int), .int .i64 (l1 : Int)]) false).run Tryz.prog w' = .ok (.agg #[.string ⟨a.toArray⟩]) w' ∧ (Instr.lookup 90 (.map (some b)) (.agg #[.int .i64 (r0 : Int), .int .i64 (r1 : Int)]) false).run Tryz.prog w' = .ok (.agg #[.string ⟨c.toArray⟩]) w') (first | exact x6 | exact x5) (first | (go_at_call 96; refine i1.mono ?_; rintro e w6 ⟨rfl, h6⟩; have B6 := hid (drewBelow8 h6); have L6 := hid (L5.out.below B6.out); have R6 := hid (R5.out.below B6.out); have x6 := fact w6 (M5.out.below B6.out M5.out.lt) L6.out R6.out))
  all_goals
    have M6 := M5.out.below B6.out M5.out.lt
    obtain ⟨w7, hup, M7, bt7, sz7⟩ := M6.put (s := (l0, r1)) (show Lo (l0, r1) from ⟨hl.1, hr.2⟩) h
    rw [show sv h = Value.string ⟨h.toArray⟩ from rfl] at hup
    have s5 := B6.out.size
    have D7 := (But.keep12 bt7).block wc.heap.size (by omega) (by omega)
    have D7' : Hid (SpI w7 wc.heap.size l0 r1) := D7.trans (D5.out.below B6.out)
    have S7 : Hid (SpI w7 (w.heap.size + 1 + 1) 0 0) := ((But.keep12 bt7).block (w.heap.size + 1 + 1) (by omega) (by omega)).trans (S5.out.below B6.out)
    have D6 := D5.out.below B6.out
    have y0 := D6.c0
    have y1 := D6.c1
    clear D6
    have d0 := D7'.out.c0
    have d1 := D7'.out.c1
    have t0 := S7.out.f0
    have t1 := S7.out.f1
    have t2 := S7.out.c0
    have t3 := S7.out.c1
    have HM7 := hid M7
    have BT := hid ((But.ofBelow (b := b) (B3.out.trans ((B5.out.mono B3.out.size).trans (B6.out.mono (by have := B3.out.size; omega))))).trans bt7)
    clear x5 x6 i1 h6 fact M6 D7 M7 bt7 u0 u1 v0 v1 hf1 hf2
    go_wp2
    have Q := S7.out.two (l0 : Int) (r1 : Int)
    refine bodyPost_ret (v := sg l0 r1) (results_cell_row rfl _ _ (w.heap.size + 1 + 1) 72 _ (0, 0) _ rfl Q Tryz.underlying72 rfl sizeSp) rfl ⟨rfl, ?_, ?_⟩
    · refine HM7.out.heap ?_
      exact (Below.heap_setCell _ _ _ b (by show b ≠ w.heap.size + 1 + 1; omega)).trans (Below.heap_setCell _ _ _ b (by show b ≠ w.heap.size + 1 + 1; omega))
    · have b1 : Below w.heap.size w7 ((w7.setCell ⟨w.heap.size + 1 + 1, 0, none⟩ (.int .i64 (l0 : Int))).setCell ⟨w.heap.size + 1 + 1, 1, none⟩ (.int .i64 (r1 : Int))) := Below.setCell (p := ⟨w.heap.size + 1 + 1, 1, none⟩) (Below.setCell (p := ⟨w.heap.size + 1 + 1, 0, none⟩) (Below.refl _ _) (by show w.heap.size ≤ w.heap.size + 1 + 1; omega) _) (by show w.heap.size ≤ w.heap.size + 1 + 1; omega) _
      exact ⟨b1.os.trans BT.out.os, b1.tape.trans BT.out.tape, b1.output.trans BT.out.output, Nat.le_trans BT.out.size b1.size, fun k hk hne => (b1.block k hk).trans (BT.out.block k hk hne)⟩
end Bat
end Go.Proofs.YtmpaliocfikifaaGreatDoor

namespace Go.Proofs.YtmpaliocfikifaaGreatDoor
open Go.RowKit Go.Shelf
namespace Bat
theorem ownP_at {w : World} {a : Option Addr} {c n : Nat} {l : List (Nat × Nat)} (h : OwnP w (.slice a n c) l) {j : Nat} {s : Nat × Nat} (hj : l[j]? = some s) : ∃ g, a = some ⟨g, 0, none⟩ ∧ g < w.heap.size ∧ w.cell? ⟨g, j * 2, none⟩ = some (.int .i64 (s.1 : Int)) ∧ w.cell? ⟨g, j * 2 + 1, none⟩ = some (.int .i64 (s.2 : Int)) := by
  obtain ⟨g, cap, e, c0, hg⟩ := h.cell (prs_get hj).1
  obtain ⟨g', cap', e', c1, _⟩ := h.cell (prs_get hj).2
  injection e with e
  injection e' with e'
  rw [e] at e'
  injection e' with e'
  injection e' with e'
  subst e'
  exact ⟨g, e, hg, c0, c1⟩
/-- a list of texts while it is filled -/
def vpre {α : Type} (f : α → List UInt8) (S : List α) (k : Nat) : List (List UInt8) := (S.take k).map f ++ List.replicate (S.length - k) []
theorem vpre_zero {α : Type} (f : α → List UInt8) (S : List α) : vpre f S 0 = List.replicate S.length [] := by simp [vpre]
theorem vpre_all {α : Type} (f : α → List UInt8) (S : List α) : vpre f S S.length = S.map f := by simp [vpre]
theorem vpre_len {α : Type} (f : α → List UInt8) (S : List α) {k : Nat} (hk : k ≤ S.length) : (vpre f S k).length = S.length := by simp [vpre]; omega
theorem vpre_set {α : Type} (f : α → List UInt8) (S : List α) {k : Nat} (hk : k < S.length) : (vpre f S k).set k (f S[k]) = vpre f S (k + 1) := by
  unfold vpre
  obtain ⟨m, hm⟩ : ∃ m, S.length - k = m + 1 := ⟨S.length - k - 1, by omega⟩
  have h1 : ((S.take k).map f).length = k := by simp; omega
  rw [hm, show S.length - (k + 1) = m by omega, List.replicate_succ, List.set_append, if_neg (by omega), h1, Nat.sub_self, List.set_cons_zero, List.take_add_one, List.getElem?_eq_getElem hk, List.map_append, List.append_assoc]
  rfl
set_option maxRecDepth 100000 in
set_option maxHeartbeats 2000000 in
theorem khashes12_any {w : World} {b : Nat} {f : Kn} {val : Nat × Nat → List UInt8} (M : Mk w b f) (S : List (Nat × Nat)) (v : Value) (hv : OwnP w v S) (hS : ∀ s ∈ S, Lo s ∧ f s = some (val s)) (hl : S.length ≤ 2000000) :
    Calls Tryz.prog 54 #[.map (some b), v] w fun r w' => r = .returned (.slice (some ⟨w.heap.size, 0, none⟩) S.length S.length) ∧ Row w' w.heap.size (S.map val) ∧ Below w.heap.size w w' := by
  obtain ⟨a, c, rfl, hc1, hc2⟩ := OwnM.shape hv
  have mk := make_texts w S.length (by omega)
  have A0 := hid hv
  have HM := hid M
  have hbl := M.lt
  have HS := hid hS
  obtain ⟨n, hn⟩ : ∃ n, S.length = n := ⟨_, rfl⟩
  have HN := hid hn
  rw [hn] at mk hl hc1 ⊢
  have R0 : Hid (Row (w.alloc (.cells (svs (List.replicate n [])).toArray 9)) w.heap.size (vpre val S 0)) := by
    have := heap_alloc_new w (.cells (svs (List.replicate n [])).toArray 9)
    unfold Hid Row
    rw [vpre_zero, hn]
    exact this
  have B0 := hid ((Below.refl w.heap.size w).alloc (Nat.le_refl _) (.cells (svs (List.replicate n [])).toArray 9))
  clear M hS hv hn
  go_enter Tryz.func54, Tryz.ntmps54
  go_wp2
  go_loopw [6, 7, 13] (fun _ _ i w' => ∃ k : Nat, k ≤ n ∧ i = .int .i64 (k : Int) ∧ Hid (Row w' w.heap.size (vpre val S k)) ∧ Hid (Below w.heap.size w w')) (fun _ _ i _ => n - (intOf i).toNat)
  case atStart => exact ⟨0, by omega, rfl, R0, B0⟩
  case round =>
    clear R0 B0
    obtain ⟨k, hk, rfl, hR, hB⟩ := hrel
    by_cases hkn : k < n
    · have b0 : (k : Int) < (n : Int) := by omega
      have j0 : (0 : Int) ≤ (k : Int) := by omega
      have hkS : k < S.length := by rw [HN.out]; exact hkn
      obtain ⟨g, rfl, hg, c0, c1⟩ := ownP_at (A0.out.below hB.out) (List.getElem?_eq_getElem hkS)
      have hs := HS.out S[k] (List.getElem_mem hkS)
      have hset := hid (vpre_set val S hkS)
      have hlen := vpre_len val S (Nat.le_of_lt hkS)
      have hbs := (Below.refl wr.heap.size wr).alloc (Nat.le_refl _) (.cells #[.int .i64 (S[k].1 : Int), .int .i64 (S[k].2 : Int)] 72)
      have s0 := SpI.new wr (S[k].1 : Int) (S[k].2 : Int)
      have sc0 := s0.c0
      have sc1 := s0.c1
      have b1 := hB.out.trans (hbs.mono hB.out.size)
      have R1 := hR.out.below hbs hR.out.lt
      have hlk := (HM.out.below b1 hbl).get hs.1 hs.2
      have f2 := R1.free (j := k) (by rw [hlen, HN.out]; exact hkn)
      have d2 := R1.cell (List.getElem?_eq_getElem (show k < (vpre val S k).length by rw [hlen, HN.out]; exact hkn))
      generalize (S[k].1 : Int) = q0 at *
      generalize (S[k].2 : Int) = q1 at *
      generalize val S[k] = r at *
      rw [show sv r = Value.string ⟨r.toArray⟩ from rfl] at hlk
      have hf1 := field_hash ⟨r.toArray⟩
      have B1 := hid b1
      have HR1 := hid R1
      clear hs hbs s0 hR hB b1 R1
      go_wp2
      refine ⟨⟨k + 1, by omega, by go_num, ?_, ?_⟩, by simp [intOf]; omega⟩
      · have := HR1.out.set k r
        rw [hset.out] at this
        exact this
      · exact Below.setCell (p := ⟨w.heap.size, k, none⟩) B1.out (Nat.le_refl _) _
    · obtain rfl : k = n := by omega
      have b0 : ¬ (k : Int) < (k : Int) := by omega
      go_wp2
      go_ret
      have := hR.out
      rw [← HN.out, vpre_all] at this
      exact ⟨rfl, this, hB.out⟩
end Bat
end Go.Proofs.YtmpaliocfikifaaGreatDoor

namespace Go.Proofs.YtmpaliocfikifaaGreatDoor
open Go.RowKit Go.Shelf
namespace Bat
theorem jn_lo {a b : Nat × Nat} (ha : Lo a) (hb : Lo b) : Lo (jn a b) := by unfold jn Lo at *; split <;> simp <;> omega
theorem jl_is (a b : Nat × Nat) : jl a b = a ∨ jl a b = b := by unfold jl; split <;> simp
theorem jr_is (a b : Nat × Nat) : jr a b = a ∨ jr a b = b := by unfold jr; split <;> simp
theorem pth_lo : ∀ (f b n i : Nat), ∀ s ∈ Tree.pthF f b n i, b ≤ s.1 ∧ s.1 ≤ s.2 ∧ s.2 ≤ b + n
  | 0, b, n, i, s, h => by cases h
  | f + 1, b, n, i, s, h => by
    by_cases h2 : n < 2
    · rw [Tree.pthF_small h2] at h; cases h
    · have s1 := Tree.sp_lt (n := n) (by omega)
      have s2 := Tree.sp_pos (n := n) (by omega)
      by_cases hi : i < b + Tree.sp n
      · rw [Tree.pthF_left (by omega) hi] at h
        rcases List.mem_append.1 h with h | h
        · have := pth_lo f b (Tree.sp n) i s h
          omega
        · obtain rfl := List.mem_singleton.1 h
          exact ⟨by show b ≤ b + Tree.sp n; omega, by show b + Tree.sp n ≤ b + n; omega, by show b + n ≤ b + n; omega⟩
      · rw [Tree.pthF_right (by omega) hi] at h
        rcases List.mem_append.1 h with h | h
        · have := pth_lo f (b + Tree.sp n) (n - Tree.sp n) i s h
          omega
        · obtain rfl := List.mem_singleton.1 h
          exact ⟨by show b ≤ b; omega, by show b ≤ b + Tree.sp n; omega, by show b + Tree.sp n ≤ b + n; omega⟩
theorem path_lo {n i : Nat} (hn : n ≤ 1099511627776) : ∀ s ∈ Tree.pthF n 0 n i, Lo s := fun s hs => by
  have := pth_lo n 0 n i s hs
  unfold Lo; omega
set_option maxRecDepth 100000 in
set_option maxHeartbeats 4000000 in
theorem join12_any {w : World} {b : Nat} {f : Kn} (M : Mk w b f) (T : Tabs w) {o s : Nat × Nat} (ho : Lo o) (hs : Lo s) (fo : f o ≠ none) (fs : f s ≠ none) (h32 : W32 f) :
    Calls Tryz.prog 88 #[.map (some b), sg o.1 o.2, sg s.1 s.2] w fun e w' => e = .returned (sg (jn o s).1 (jn o s).2) ∧ Mk w' b (upd f (jn o s) (Tree.nd ((f (jl o s)).getD []) ((f (jr o s)).getD []))) ∧ W32 (upd f (jn o s) (Tree.nd ((f (jl o s)).getD []) ((f (jr o s)).getD []))) ∧ Keep (fun k => k = b) w w' := by
  obtain ⟨a, ha⟩ : ∃ a, f (jl o s) = some a := by
    rcases jl_is o s with e | e <;> rw [e]
    · exact Option.ne_none_iff_exists'.1 fo
    · exact Option.ne_none_iff_exists'.1 fs
  obtain ⟨c, hc⟩ : ∃ c, f (jr o s) = some c := by
    rcases jr_is o s with e | e <;> rw [e]
    · exact Option.ne_none_iff_exists'.1 fo
    · exact Option.ne_none_iff_exists'.1 fs
  have hn : Hid (nodeOf a c = (Tree.nd a c, 0)) := node_ok (h32 _ _ ha) (h32 _ _ hc)
  have lb : Lo (jl o s) := by rcases jl_is o s with e | e <;> rw [e] <;> assumption
  have rb : Lo (jr o s) := by rcases jr_is o s with e | e <;> rw [e] <;> assumption
  have := join_at M T (x0 := o.1) (x1 := o.2) (y0 := s.1) (y1 := s.2) (l0 := (jl o s).1) (l1 := (jl o s).2) (r0 := (jr o s).1) (r1 := (jr o s).2) lb rb rfl (by
    unfold Hid
    by_cases q : s.1 < o.1
    · rw [if_pos (decide_eq_true (by omega))]; unfold jl jr; rw [if_pos q, if_pos q]; exact ⟨rfl, rfl, rfl, rfl⟩
    · rw [if_neg (by simp; omega)]; unfold jl jr; rw [if_neg q, if_neg q]; exact ⟨rfl, rfl, rfl, rfl⟩) ha hc hn
  have ej : ((jl o s).1, (jr o s).2) = jn o s := by unfold jl jr jn; split <;> rfl
  refine this.mono ?_
  rintro e w' ⟨rfl, h1, h2⟩
  rw [ej] at h1
  rw [ha, hc]
  exact ⟨by rw [← ej], h1, h32.upd _ (Tree.nd_length (h32 _ _ ha) (h32 _ _ hc)), But.keep12 h2⟩
end Bat
end Go.Proofs.YtmpaliocfikifaaGreatDoor
