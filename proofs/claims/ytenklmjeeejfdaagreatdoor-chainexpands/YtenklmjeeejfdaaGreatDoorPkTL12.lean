import Derived.Test.YtenklmjeeejfdaaGreatDoorPkCG2
import Derived.Carry
import Derived.Maps.RangeRun
import Derived.Maps.Range
import Derived.Test.YtenklmjeeejfdaaGreatDoorPkO2
import Derived.Test.YtenklmjeeejfdaaGreatDoorPkSP24
import Derived.Deep.CutRange
import Derived.Test.YtenklmjeeejfdaaGreatDoorPkI10
import Derived.Test.YtenklmjeeejfdaaGreatDoorPkCP4
import Derived.Test.YtenklmjeeejfdaaGreatDoorPkI1
namespace Go.Proofs.YtenklmjeeejfdaaGreatDoor
open Go.RowKit
structure TrL (w : World) (q h : Nat) (L : List (List UInt8)) (F : Nat → Prop) : Prop where
  ex : ∃ b es, Tr w q b h L.length es (Til.rf L h (Til.cn L.length)) ∧ F = Fb q b es
  hs : Tree.Hs L
  h1 : 1 ≤ h
  h8 : h ≤ 8
  low : ∀ k, F k → 4 ≤ k
  n20 : L.length ≤ 1048576
theorem TrL.keep {w w' : World} {q h : Nat} {L : List (List UInt8)} {F S : Nat → Prop} (t : TrL w q h L F) (hk : Keep S w w') (hd : ∀ k, F k → ¬ S k) : TrL w' q h L F := by
  obtain ⟨⟨b, es, t1, rfl⟩, h2, h3, h4, h5, h6⟩ := t
  exact ⟨⟨b, es, t1.keep hk hd, rfl⟩, h2, h3, h4, h5, h6⟩
theorem TrL.below {w w' : World} {q h : Nat} {L : List (List UInt8)} {F : Nat → Prop} (t : TrL w q h L F) (hb : Below w.heap.size w w') : TrL w' q h L F := by
  obtain ⟨⟨b, es, t1, rfl⟩, h2, h3, h4, h5, h6⟩ := t
  exact ⟨⟨b, es, t1.below hb, rfl⟩, h2, h3, h4, h5, h6⟩
theorem TrL.lt {w : World} {q h : Nat} {L : List (List UInt8)} {F : Nat → Prop} (t : TrL w q h L F) : ∀ k, F k → k < w.heap.size := by
  obtain ⟨⟨b, es, t1, rfl⟩, h2, h3, h4, h5, h6⟩ := t
  exact t1.lt
theorem TrL.mov {w w' : World} {q h : Nat} {L : List (List UInt8)} {F G G' : Nat → Prop} (t : TrL w q h L F) (hm : Mov G w w' G') (hd : ∀ k, F k → ¬ G k) : TrL w' q h L F ∧ ∀ k, F k → ¬ G' k :=
  ⟨t.keep hm.keep hd, fun k hk e => by
    rcases hm.new k e with e | e
    · exact hd k hk e
    · have := t.lt k hk; omega⟩
theorem tHeightL {w : World} {q h : Nat} {L : List (List UInt8)} {F : Nat → Prop} (t : TrL w q h L F) : Calls Tryz.prog 53 #[.pointer (some ⟨q, 0, none⟩)] w fun r w' => r = .returned (.int .i64 (h : Int)) ∧ w' = w := by
  obtain ⟨⟨b, es, t1, rfl⟩, h2, h3, h4, h5, h6⟩ := t
  exact tHeight_any t1
set_option maxRecDepth 100000 in
theorem tNew_any (h : Nat) (h1 : 1 ≤ h) (h8 : h ≤ 8) (w : World) (hT : 4 ≤ w.heap.size) : Calls Tryz.prog 31 #[.int .i64 (h : Int)] w fun r w' => ∃ q F, r = .returned (.tuple #[.pointer (some ⟨q, 0, none⟩), .int .i64 0]) ∧ TrL w' q h [] F ∧ (∀ k, F k → w.heap.size ≤ k) ∧ Below w.heap.size w w' := by
  have c0 : ¬ (h : Int) < 1 := by omega
  have c1 : ¬ (h : Int) > 8 := by omega
  have c2 : ¬ 8 < (h : Int) := by omega
  have hmm := @run_makeMap Tryz.prog
  go_enter Tryz.func31, Tryz.ntmps31
  go_wp2
  go_ret2
  have b1 := (Below.refl w.heap.size w).alloc (Nat.le_refl _) (.map #[] 0)
  have z1 := size_alloc w (.map #[] 0)
  have b2 := (Below.refl (w.heap.size + 1) (w.alloc (.map #[] 0))).alloc (by omega) (.cells #[Value.int .i64 (h : Int), .int .i64 0, .map (some w.heap.size)] 93)
  have r2 := heap_alloc_at (w.alloc (.map #[] 0)) (.cells #[Value.int .i64 (h : Int), .int .i64 0, .map (some w.heap.size)] 93) (w.heap.size + 1) z1
  have hF : ∀ k, Fb (w.heap.size + 1) w.heap.size [] k → w.heap.size ≤ k := fun k hk => by
    rcases hk with hk | hk | ⟨p, v, hm, _⟩
    · omega
    · omega
    · cases hm
  refine ⟨w.heap.size + 1, rfl, _, ⟨⟨w.heap.size, [], ⟨r2, (Mp.new w).heap (b2.block _ (by omega)), by omega, fun p v hm => (by cases hm), fun p _ => ?_, fun p v p' v' k hm => (by cases hm)⟩, rfl⟩, fun x hx => (by cases hx), h1, h8, fun k hk => Nat.le_trans hT (hF k hk), by simp⟩, hF, b1.trans (b2.mono (by omega))⟩
  unfold Til.rf
  split
  · apply List.eq_nil_of_length_eq_zero
    rw [Til.row_len]
    simp [Til.cn]
  · rfl
set_option maxRecDepth 100000 in
set_option maxHeartbeats 1000000 in
theorem tAdd_any {w : World} {q h : Nat} {L : List (List UInt8)} {F : Nat → Prop} (t : TrL w q h L F) (x : List UInt8) (hx : x.length = 32) (hn : L.length < 1048576) (Z : Tb w) : Calls Tryz.prog 33 #[.pointer (some ⟨q, 0, none⟩), sv x] w fun r w' => r = .returned (.int .i64 0) ∧ ∃ F', TrL w' q h (L ++ [x]) F' ∧ Mov F w w' F' := by
  have hs := sv_size x
  have c0 : (((ByteArray.mk x.toArray).size : Int) != 32) = false := by rw [hs, hx]; rfl
  have hsx : Tree.Hs (L ++ [x]) := fun y hy => by
    rcases List.mem_append.1 hy with hy | hy
    · exact t.hs y hy
    · rw [List.mem_singleton.1 hy]; exact hx
  have i1 := tHeightL t
  obtain ⟨⟨b, es, t1, rfl⟩, _, g1, g8, glow, _⟩ := t
  have G := tgrow_any t1 rfl (by omega) g8 x Z glow
  have q1 := t1.c1
  obtain ⟨n, hL⟩ : ∃ n, L.length = n := ⟨_, rfl⟩
  rw [hL] at hn G q1
  have c1 : ((h : Int) == 0) = false := by simp; omega
  have c2 : ((n : Int) == 1048576) = false := by simp; omega
  have hT := Z.lt
  clear t1 Z hs
  rw [show sv x = Value.string ⟨x.toArray⟩ from rfl] at G ⊢
  go_enter Tryz.func33, Tryz.ntmps33
  go_wp2_with (first
    | (go_at_call 53; refine i1.mono ?_; rintro r w1 ⟨rfl, rfl⟩)
    | (go_at_call 54; refine G.mono ?_; rintro r w2 ⟨rfl, es2, t2, m2⟩))
  go_ret
  refine ⟨rfl, _, ⟨⟨b, es2, ?_, rfl⟩, hsx, g1, g8, (m2.below hT glow).2, ?_⟩, m2⟩
  · have e : (L ++ [x]).length = n + 1 := by rw [List.length_append, hL]; rfl
    rw [e]; exact t2
  · rw [List.length_append, hL]; simp; omega
end Go.Proofs.YtenklmjeeejfdaaGreatDoor

namespace Go.Proofs.YtenklmjeeejfdaaGreatDoor
open Go.RowKit
def spB (n : Nat) (b e : Int) : Bool := decide (0 ≤ b ∧ b ≤ e ∧ e ≤ (n : Int))
def tPartO (L : List (List UInt8)) (b e : Int) : List UInt8 × Int := if spB L.length b e = true then (Tree.root (Til.sg L b.toNat e.toNat), 0) else ([], 73)
theorem tPartO_nat {L : List (List UInt8)} {b e : Nat} (hb : b ≤ e) (he : e ≤ L.length) : tPartO L (b : Int) (e : Int) = (Tree.root (Til.sg L b e), 0) := by
  unfold tPartO spB
  rw [if_pos (decide_eq_true ⟨by omega, by omega, by omega⟩), Int.toNat_natCast, Int.toNat_natCast]
end Go.Proofs.YtenklmjeeejfdaaGreatDoor

namespace Go.Proofs.YtenklmjeeejfdaaGreatDoor
open Go.RowKit
set_option maxRecDepth 100000 in
set_option maxHeartbeats 1000000 in
theorem rnode7_any {l r m : List UInt8} (hl : l.length = 32) (hr : r.length = 32) (h : Hid (Tree.nd l r = m)) (w : World) :
    Calls Tryz.prog 83 #[sv l, sv r] w fun e w' => e = .returned (sv m) ∧ Below w.heap.size w w' := by
  have hm := h.out
  unfold Tree.nd at hm
  rw [if_pos ⟨hl, hr⟩] at hm
  obtain ⟨L, hL⟩ : ∃ L : ByteArray, ByteArray.mk l.toArray = L := ⟨_, rfl⟩
  obtain ⟨R, hR⟩ : ∃ R : ByteArray, ByteArray.mk r.toArray = R := ⟨_, rfl⟩
  have sL : L.size = 32 := by rw [← hL, sv_size, hl]
  have sR : R.size = 32 := by rw [← hR, sv_size, hr]
  have z1 : ({ data := #[1] } ++ L : ByteArray).size = 33 := by rw [app_size, sL]; rfl
  have z2 := joined_size L R sL sR
  have i1 := rsum_at ({ data := #[1] } ++ L ++ R) m (by rw [z2]; omega) (hid (by rw [joined_data, ← hL, ← hR, sv_data, sv_data, ← hm])) w
  rw [show sv l = Value.string L from congrArg Value.string hL, show sv r = Value.string R from congrArg Value.string hR]
  clear hL hR h hm
  go_enter Tryz.func83, Tryz.ntmps83
  go_wp2_with (go_at_call 37; refine i1.mono ?_; rintro e w1 ⟨rfl, hw1⟩)
  go_ret
  exact ⟨rfl, hw1⟩
set_option maxRecDepth 100000 in
set_option maxHeartbeats 400000 in
theorem hash7_nil (a : Option Addr) (cap : Nat) (w : World) :
    Calls Tryz.prog 56 #[.slice a 0 cap] w fun e w' => e = .returned (sv (Tree.root [])) ∧ Below w.heap.size w w' := by
  rw [Tree.root_nil]
  obtain ⟨D, hD⟩ : ∃ D, Sha.sha [] = D := ⟨_, rfl⟩
  rw [hD]
  have i1 := rsum_nil (hid hD)
  clear hD
  go_enter Tryz.func56, Tryz.ntmps56
  go_wp2_with (go_at_call 37; refine (i1 _).mono ?_; rintro e w1 ⟨rfl, hw1⟩)
  go_ret
  exact ⟨rfl, hw1⟩
set_option maxRecDepth 100000 in
set_option maxHeartbeats 400000 in
theorem hash7_one (p : List UInt8) (a : Option Addr) (cap : Nat) (w : World) (hA : At w a [p]) :
    Calls Tryz.prog 56 #[.slice a 1 cap] w fun e w' => e = .returned (sv (Tree.root [p])) ∧ Below w.heap.size w w' := by
  rw [Tree.root_one]
  obtain ⟨x, rfl, hx, hc⟩ := hA 0 p rfl
  rw [addr_zero] at hc
  go_enter Tryz.func56, Tryz.ntmps56
  go_wp2
  go_ret
  exact ⟨rfl, Below.refl _ _⟩
set_option maxRecDepth 100000 in
set_option maxHeartbeats 4000000 in
theorem hash7_any : ∀ (f : Nat) (l : List (List UInt8)) (a : Option Addr) (cap : Nat) (w : World), l.length ≤ f → l.length ≤ cap → cap ≤ 9223372036854775807 → l.length ≤ 4611686018427387903 → Tree.Hs l → At w a l →
    Calls Tryz.prog 56 #[.slice a l.length cap] w fun e w' => e = .returned (sv (Tree.root l)) ∧ Below w.heap.size w w' := by
  intro f
  induction f with
  | zero =>
    intro l a cap w hf hl hc h62 hHs hA
    obtain rfl : l = [] := List.length_eq_zero_iff.1 (by omega)
    exact hash7_nil a cap w
  | succ f ih =>
    intro l a cap w hf hl hc h62 hHs hA
    match l, hf, hl, h62, hHs, hA with
    | [], _, _, _, _, _ => exact hash7_nil a cap w
    | [p], _, _, _, _, hA => exact hash7_one p a cap w hA
    | p :: q :: t, hf, hl, h62, hHs, hA =>
      obtain ⟨n, hn⟩ : ∃ n, (p :: q :: t).length = n := ⟨_, rfl⟩
      have h2 : 2 ≤ n := by rw [← hn]; simp
      obtain ⟨x, rfl⟩ := hA.pos (by rw [hn]; omega)
      have e := hid (Tree.root_cut (l := p :: q :: t) (by rw [hn]; exact h2))
      generalize p :: q :: t = l at *
      rw [hn] at e hf hl h62 ⊢
      have k1 := Tree.sp_lt h2
      have k2 := Tree.sp_pos h2
      have hsp : Hid (∀ a, 2 ^ a < n → n ≤ 2 * 2 ^ a → 2 ^ a = Tree.sp n) := fun a x1 x2 => (Tree.sp_one h2 a x1 x2).symm
      generalize Tree.sp n = k at *
      have l1 : (l.take k).length = k := by rw [List.length_take, hn]; omega
      have l2 : (l.drop k).length = n - k := by rw [List.length_drop, hn]
      have c1 := fun w' (h : At w' (some x) (l.take k)) => ih (l.take k) (some x) cap w' (by omega) (by omega) hc (by omega) (hHs.take k) h
      have c2 := fun w' (h : At w' (some (x.add k)) (l.drop k)) => ih (l.drop k) (some (x.add k)) (cap - k) w' (by omega) (by omega) (by omega) (by omega) (hHs.drop k) h
      rw [l1] at c1
      rw [l2] at c2
      have n1 : ((n : Int) == 0) = false := by simp; omega
      have n2 : ((n : Int) == 1) = false := by simp; omega
      have hne : ¬ cap = k := by omega
      have A1 := hid (hA.take k)
      have A2 := hid (hA.drop k)
      have s1 := Tree.root_hash (hHs.take k)
      have s2 := Tree.root_hash (hHs.drop k)
      generalize hp1 : Tree.root (l.take k) = r1 at *
      generalize hp2 : Tree.root (l.drop k) = r2 at *
      obtain ⟨m, hm⟩ : ∃ m, Hid (Tree.nd r1 r2 = m) := ⟨_, rfl⟩
      have e' := hid (show Tree.root l = m by rw [e.out, hm.out])
      have iN := fun w' => rnode7_any s1 s2 hm w'
      clear hA ih hn e hp1 hp2 s1 s2 l1 l2 hHs hf
      go_enter Tryz.func56, Tryz.ntmps56
      go_wp2
      go_loopw [3] (fun v w' => ∃ a j : Nat, v = .int .i64 (j : Int) ∧ j < n ∧ 1 ≤ j ∧ Hid (2 ^ a = j) ∧ w' = w) (fun v _ => n - (intOf v).toNat)
      case atStart => exact ⟨0, 1, rfl, by omega, by omega, hid rfl, rfl⟩
      case round =>
        obtain ⟨a, j, rfl, hj, hj1, ha, rfl⟩ := hrel
        have s1 : IntKind.i64.wrap (2 * (j : Int)) = 2 * (j : Int) := wrap_small _ (by omega) (by omega)
        by_cases hlt : 2 * j < n
        · have c0 : 2 * (j : Int) < (n : Int) := by omega
          clear c1 c2
          go_wp2
          exact ⟨⟨a + 1, 2 * j, by go_num, hlt, by omega, by unfold Hid; rw [Nat.pow_succ, ha.out]; omega, by first | exact rfl | trivial⟩, by simp [intOf]; omega⟩
        · have c0 : ¬ 2 * (j : Int) < (n : Int) := by omega
          have hjk : j = k := by have := hsp.out a (by rw [ha.out]; exact hj) (by rw [ha.out]; omega); rw [ha.out] at this; exact this
          subst hjk
          have m0 : (0 : Int) ≤ (j : Int) := by omega
          have m1 : (j : Int) ≤ (cap : Int) := by omega
          have m2 : (j : Int) ≤ (n : Int) := by omega
          have m3 : (n : Int) ≤ (cap : Int) := by omega
          have hd : Hid (Below wr.heap.size wr wr.drew) := hid (Below.refl _ wr).drew
          clear hsp ha hA
          go_wp2
          go_region_held3 (fun _ => True) (trivial) (first
            | (go_at_call 56; (with_reducible refine (c1 _ (A1.out.below hd.out (Nat.le_refl _))).mono ?_); rintro e w9 ⟨rfl, hw9⟩; have h9 := hid (hd.out.trans (hw9.mono hd.out.size)))
            | (go_at_call 56; (with_reducible refine (c2 _ (A2.out.below h9.out (Nat.le_refl _))).mono ?_); rintro e w10 ⟨rfl, hw10⟩; have h10 := hid (h9.out.trans (hw10.mono h9.out.size)))
            | (go_at_call 83; (with_reducible refine (iN _).mono ?_); rintro e w11 ⟨rfl, hw11⟩; have h11 := hid (h10.out.trans (hw11.mono h10.out.size))))
          all_goals go_wp2
          all_goals go_ret
          all_goals exact ⟨by rw [e'.out]; rfl, h11.out⟩
end Go.Proofs.YtenklmjeeejfdaaGreatDoor

namespace Go.Proofs.YtenklmjeeejfdaaGreatDoor
open Go.RowKit
end Go.Proofs.YtenklmjeeejfdaaGreatDoor

namespace Go.Proofs.YtenklmjeeejfdaaGreatDoor
open Go.RowKit
theorem append_S (w : World) (B : Nat) (v : Value) (H : List (List UInt8)) (x : List UInt8) (hown : Own w B v (svs H)) (hlen : H.length ≤ 2000000) (hB : B ≤ w.heap.size) :
    ∃ v' w', (Builtin.append_ #[23, 23] 23 #[v, .slice (some ⟨w.heap.size, 0, none⟩) 1 1]).run Tryz.prog (w.alloc (.cells #[.string ⟨x.toArray⟩] 9)) = .ok v' w' ∧ Own w' B v' (svs (H ++ [x])) ∧ Grow w w' v v' := by
  have h := append_one 23 9 (.string ⟨#[]⟩) 16 (by omega) undSlS infoS rfl w B v (svs H) (sv x) rfl hown (by rw [svs_length]; exact hlen) hB
  rw [show svs H ++ [sv x] = svs (H ++ [x]) by simp [svs]] at h
  exact h
def S22 (p q : Addr) (x y : Value) (w : World) : Prop := w.cell? p = some x ∧ w.cell? q = some y
end Go.Proofs.YtenklmjeeejfdaaGreatDoor

namespace Go.Proofs.YtenklmjeeejfdaaGreatDoor
open Go.RowKit
def Rb (q : Nat) (v : Value) (k : Nat) : Prop := k = q ∨ v.ownBlock = some k
structure RtL (w : World) (q h : Nat) (L : List (List UInt8)) (F : Nat → Prop) : Prop where
  ex : ∃ v, w.heap[q]? = some (.cells #[.int .i64 (h : Int), v] 95 (0, 0)) ∧ Own w 0 v (svs L) ∧ v.ownBlock ≠ some q ∧ F = Rb q v
  hs : Tree.Hs L
  h1 : 1 ≤ h
  h8 : h ≤ 8
  low : ∀ k, F k → 4 ≤ k
  n20 : L.length ≤ 1048576
theorem RtL.lt {w : World} {q h : Nat} {L : List (List UInt8)} {F : Nat → Prop} (t : RtL w q h L F) : ∀ k, F k → k < w.heap.size := by
  obtain ⟨⟨v, r1, o1, _, rfl⟩, _, _, _, _, _⟩ := t
  rintro k (rfl | hk)
  · exact lt_of_heap r1
  · exact o1.ltS k hk
theorem RtL.keep {w w' : World} {q h : Nat} {L : List (List UInt8)} {F S : Nat → Prop} (t : RtL w q h L F) (hk : Keep S w w') (hd : ∀ k, F k → ¬ S k) : RtL w' q h L F := by
  have hlt := t.lt
  obtain ⟨⟨v, r1, o1, n1, rfl⟩, h2, h3, h4, h5, h6⟩ := t
  exact ⟨⟨v, (hk.block q (lt_of_heap r1) (hd q (.inl rfl))).trans r1, o1.keep hk fun k e => hd k (.inr e), n1, rfl⟩, h2, h3, h4, h5, h6⟩
theorem RtL.below {w w' : World} {q h : Nat} {L : List (List UInt8)} {F : Nat → Prop} (t : RtL w q h L F) (hb : Below w.heap.size w w') : RtL w' q h L F :=
  t.keep (Keep.ofBelow (S := fun _ => False) hb) fun _ _ e => e
theorem RtL.mov {w w' : World} {q h : Nat} {L : List (List UInt8)} {F G G' : Nat → Prop} (t : RtL w q h L F) (hm : Mov G w w' G') (hd : ∀ k, F k → ¬ G k) : RtL w' q h L F ∧ ∀ k, F k → ¬ G' k :=
  ⟨t.keep hm.keep hd, fun k hk e => by
    rcases hm.new k e with e | e
    · exact hd k hk e
    · have := t.lt k hk; omega⟩
theorem RtL.open {w : World} {q h : Nat} {L : List (List UInt8)} {F : Nat → Prop} (t : RtL w q h L F) : ∃ a c, w.heap[q]? = some (.cells #[.int .i64 (h : Int), .slice a L.length c] 95 (0, 0)) ∧ Own w 0 (.slice a L.length c) (svs L) ∧ (Value.slice a L.length c).ownBlock ≠ some q ∧ F = Rb q (.slice a L.length c) ∧ At w a L ∧ L.length ≤ c ∧ c ≤ 9223372036854775807 := by
  obtain ⟨⟨v, r1, o1, n1, rfl⟩, _, _, _, _, _⟩ := t
  obtain ⟨a, c, rfl, hA, h1, h2⟩ := o1.at
  exact ⟨a, c, r1, o1, n1, rfl, hA, h1, h2⟩
set_option maxRecDepth 100000 in
theorem rSizeL {w : World} {q h : Nat} {L : List (List UInt8)} {F : Nat → Prop} (t : RtL w q h L F) : Calls Tryz.prog 35 #[.pointer (some ⟨q, 0, none⟩)] w fun r w' => r = .returned (.int .i64 (L.length : Int)) ∧ w' = w := by
  obtain ⟨a, c, r1, _, _, _, _, _, _⟩ := t.open
  have c1 : w.cell? ⟨q, 1, none⟩ = some (.slice a L.length c) := by rw [cell_of_row _ _ _ _ _ _ r1]; rfl
  clear r1 t
  generalize L.length = n at *
  go_enter Tryz.func35, Tryz.ntmps35
  go_wp2
  go_ret
  exact ⟨rfl, rfl⟩
set_option maxRecDepth 100000 in
theorem rNew_any (h : Nat) (h1 : 1 ≤ h) (h8 : h ≤ 8) (w : World) (hT : 4 ≤ w.heap.size) : Calls Tryz.prog 32 #[.int .i64 (h : Int)] w fun r w' => ∃ q F, r = .returned (.tuple #[.pointer (some ⟨q, 0, none⟩), .int .i64 0]) ∧ RtL w' q h [] F ∧ (∀ k, F k → w.heap.size ≤ k) ∧ Below w.heap.size w w' := by
  have c0 : ¬ (h : Int) < 1 := by omega
  have c1 : ¬ (h : Int) > 8 := by omega
  have c2 : ¬ 8 < (h : Int) := by omega
  go_enter Tryz.func32, Tryz.ntmps32
  go_wp2
  go_ret2
  have b1 := (Below.refl w.heap.size w).alloc (Nat.le_refl _) (.cells #[Value.int .i64 (h : Int), .slice none 0 0] 95)
  have r1 := heap_alloc_new w (.cells #[Value.int .i64 (h : Int), .slice none 0 0] 95)
  have hF : ∀ k, Rb w.heap.size (.slice none 0 0) k → w.heap.size ≤ k := fun k hk => by
    rcases hk with hk | hk
    · omega
    · cases hk
  exact ⟨w.heap.size, rfl, _, ⟨⟨_, r1, Own.nil _ _, (fun e => by cases e), rfl⟩, fun x hx => (by cases hx), h1, h8, fun k hk => Nat.le_trans hT (hF k hk), by simp⟩, hF, b1⟩
set_option maxRecDepth 100000 in
set_option maxHeartbeats 1000000 in
theorem rAdd_any {w : World} {q h : Nat} {L : List (List UInt8)} {F : Nat → Prop} (t : RtL w q h L F) (x : List UInt8) (hx : x.length = 32) (hn : L.length < 1048576) (hT : 4 ≤ w.heap.size) : Calls Tryz.prog 34 #[.pointer (some ⟨q, 0, none⟩), sv x] w fun r w' => r = .returned (.int .i64 0) ∧ ∃ F', RtL w' q h (L ++ [x]) F' ∧ Mov F w w' F' := by
  have hs := sv_size x
  have c0 : (((ByteArray.mk x.toArray).size : Int) != 32) = false := by rw [hs, hx]; rfl
  have hsx : Tree.Hs (L ++ [x]) := fun y hy => by
    rcases List.mem_append.1 hy with hy | hy
    · exact t.hs y hy
    · rw [List.mem_singleton.1 hy]; exact hx
  obtain ⟨a, c, r1, o1, n1, rfl, _, _, _⟩ := t.open
  obtain ⟨_, _, g1, g8, glow, _⟩ := t
  have c1 : w.cell? ⟨q, 1, none⟩ = some (.slice a L.length c) := by rw [cell_of_row _ _ _ _ _ _ r1]; rfl
  obtain ⟨v', w', hap, o2, gr⟩ := append_S w 0 _ L x o1 (by omega) (Nat.zero_le _)
  have hq := lt_of_heap r1
  have r2 := (gr.old q hq n1).trans r1
  have f2 : w'.frozen? ⟨q, 1, none⟩ = false := frozen_of_row _ _ _ _ _ r2
  have c2' : w'.cell? ⟨q, 1, none⟩ = some (.slice a L.length c) := by rw [cell_of_row _ _ _ _ _ _ r2]; rfl
  have fin : Hid (∃ F', RtL (w'.setCell ⟨q, 1, none⟩ v') q h (L ++ [x]) F' ∧ Mov (Rb q (.slice a L.length c)) w (w'.setCell ⟨q, 1, none⟩ v') F') := by
    have hnew : ∀ k, v'.ownBlock = some k → (Value.slice a L.length c).ownBlock = some k ∨ w.heap.size ≤ k := fun k hk => by
      rcases gr.alt with e | ⟨e, _⟩
      · left; rw [← e]; exact hk
      · right; exact e k hk
    have hne : v'.ownBlock ≠ some q := fun e => by
      rcases hnew q e with e' | e'
      · exact n1 e'
      · omega
    have hm : Mov (Rb q (.slice a L.length c)) w (w'.setCell ⟨q, 1, none⟩ v') (Rb q v') := by
      refine ⟨(gr.keep.mono fun _ _ e => .inr e).trans (Keep.ofSet (S := fun k => k = q) w' q 1 v' rfl) fun _ _ e => .inl e, fun k hk => ?_⟩
      rcases hk with e | e
      · exact .inl (.inl e)
      · rcases hnew k e with e | e
        · exact .inl (.inr e)
        · exact .inr e
    refine ⟨Rb q v', ⟨⟨v', heap_setCell_same w' q 1 _ _ _ r2, o2.keep (Keep.ofSet (S := fun k => k = q) w' q 1 v' rfl) (fun k hk e => hne (e ▸ hk)), hne, rfl⟩, hsx, g1, g8, fun k hk => ?_, ?_⟩, hm⟩
    · rcases hm.new k hk with e | e
      · exact glow k e
      · omega
    · rw [List.length_append]; simp; omega
  obtain ⟨a', c', hv⟩ := o2.shape
  clear r1 r2 o1 o2 gr glow hsx hs n1
  subst hv
  generalize (svs (L ++ [x])).length = n' at *
  generalize L.length = n at *
  have c3 : ¬ (n : Int) ≥ 1048576 := by omega
  rw [show sv x = Value.string ⟨x.toArray⟩ from rfl]
  go_enter Tryz.func34, Tryz.ntmps34
  go_wp2_with (at_builtin; go_must (refine Lib.wpList_append_run _ rfl _ _ 23 23 rfl _ _ rfl rfl _ _ hap ?_); clear hap)
  go_ret
  exact ⟨rfl, fin.out⟩
end Go.Proofs.YtenklmjeeejfdaaGreatDoor

namespace Go.Proofs.YtenklmjeeejfdaaGreatDoor
open Go.RowKit Go.Shelf
namespace Chn
theorem conv_oneC (n : Nat) (hn : n ≤ 255) (w : World) : (convert 66 9 (.slice (some ⟨w.heap.size, 0, none⟩) 1 1)).run Tryz.prog (w.alloc (.cells #[.int .u8 (n : Int)] 5)) = .ok (.string ⟨#[UInt8.ofNat n]⟩) (w.alloc (.cells #[.int .u8 (n : Int)] 5)) := by
  refine run_conv_bytes (P := Tryz.prog) _ 66 9 5 w.heap.size 0 1 1 [UInt8.ofNat n] rfl Tryz.underlying66 Tryz.underlying5 Tryz.underlying9 ?_
  intro j v hv
  have hX := heap_alloc_new w (.cells #[.int .u8 (n : Int)] 5)
  match j, hv with
  | 0, hv =>
    have e : v = .int .u8 (n : Int) := by
      simp [bv] at hv
      rw [← hv]; congr 1; omega
    rw [e, cell_of_row _ _ _ _ _ _ hX]; rfl
  | j + 1, hv => simp [bv] at hv
structure Tt (w w' : World) (q q' h : Nat) (L : List (List UInt8)) (F F' : Nat → Prop) : Prop where
  t : TrL w' q h L F
  r : RtL w' q' h L F'
  g : ∀ k, F k → w.heap.size ≤ k
  g' : ∀ k, F' k → w.heap.size ≤ k
  off : ∀ k, F k → ¬ F' k
  bel : Below w.heap.size w w'
theorem Tt.below {w w' w2 : World} {q q' h : Nat} {L : List (List UInt8)} {F F' : Nat → Prop} (t : Tt w w' q q' h L F F') (hb : Below w'.heap.size w' w2) : Tt w w2 q q' h L F F' := ⟨t.t.below hb, t.r.below hb, t.g, t.g', t.off, t.bel.trans (hb.mono t.bel.size)⟩
theorem Tt.add {w w' w2 w3 : World} {q q' h : Nat} {L L' : List (List UInt8)} {F F' G G' : Nat → Prop} (t : Tt w w' q q' h L F F') (t2 : TrL w2 q h L' G) (m2 : Mov F w' w2 G) (r3 : RtL w3 q' h L' G') (m3 : Mov F' w2 w3 G') : Tt w w3 q q' h L' G G' := by
  obtain ⟨b2, g2⟩ := m2.below (B := w.heap.size) t.bel.size t.g
  obtain ⟨b3, g3⟩ := m3.below (B := w.heap.size) (Nat.le_trans t.bel.size b2.size) t.g'
  have r2 := t.r.mov m2 (fun k f e => t.off k e f)
  have o2 : ∀ k, G k → ¬ F' k := fun k g f => r2.2 k f g
  have t3 := t2.mov m3 o2
  exact ⟨t3.1, r3, g2, g3, t3.2, (t.bel.trans b2).trans b3⟩
set_option maxRecDepth 100000 in
set_option maxHeartbeats 2000000 in
theorem trees13_any (ht : Int) (E : List (List UInt8)) (n N : Nat) (hN : Hid (E.length = N)) (hn : n ≤ 200) (a : Option Addr) (cap : Nat) (w : World) (h1 : -9223372036854775808 ≤ ht) (h2 : ht ≤ 9223372036854775807) (hA : At w a E) (hE : ∀ x ∈ E, x.length ≤ 140737488355000) (Z : Tb w) :
    Calls Tryz.prog 10 #[.int .i64 ht, .slice a N cap, .int .i64 (n : Int)] w fun r w' => ∃ q q' h L F F', r = .returned (.tuple #[.pointer (some ⟨q, 0, none⟩), .pointer (some ⟨q', 0, none⟩)]) ∧ L.length = n ∧ Tt w w' q q' h L F F' := by
  have HZ := hid Z
  have HA := hid hA
  have HE := hid hE
  have hT := Z.lt
  have p0 := pk_nonneg ht 8 (by omega)
  have p1 := pk_lt ht 8 (by omega)
  have i1 := pick_any ht 8 h1 h2 (by omega) (by omega) w
  obtain ⟨h, hh⟩ : ∃ h : Nat, (h : Int) = 1 + pk ht 8 := ⟨(1 + pk ht 8).toNat, by omega⟩
  have s1 : IntKind.i64.wrap (1 + pk ht 8) = (h : Int) := by rw [wrap_small _ (by omega) (by omega)]; omega
  have new := tNew_any h (by omega) (by omega) w hT
  have rnew := fun w' (b : Below w.heap.size w w') => rNew_any h (by omega) (by omega) w' (Nat.le_trans hT b.size)
  generalize pk ht 8 = p at *
  clear hh p0 p1 Z hA hE
  go_enter Tryz.func10, Tryz.ntmps10
  go_wp2_with (first
    | (go_at_call 13; refine i1.mono ?_; rintro e w0 ⟨rfl, h0⟩; have h0 := h0.symm; subst h0)
    | (go_at_call 31; refine new.mono ?_; rintro e w1 ⟨q, F1, rfl, E1, hF1, B1⟩; have E1 := hid E1; have B1 := hid B1; have hF1 := hid hF1)
    | (go_at_call 32; refine (rnew _ B1.out).mono ?_; rintro e w2 ⟨q', F2, rfl, E2, hF2, B2⟩; have T0 : Hid (Tt w w2 q q' h [] F1 F2) := ⟨E1.out.below B2, E2, hF1.out, (fun k f => Nat.le_trans B1.out.size (hF2 k f)), (fun k f f' => by { have := E1.out.lt k f; have := hF2 k f'; omega }), B1.out.trans (B2.mono B1.out.size)⟩; clear E2 hF2 B2))
  clear i1 s1 new rnew E1 hF1
  go_loopw [13, 14, 15, 16, 17] (fun i _ _ _ _ w' => ∃ (k : Nat) (L : List (List UInt8)) (F F' : Nat → Prop), k ≤ n ∧ i = .int .i64 (k : Int) ∧ Hid (L.length = k) ∧ Hid (Tt w w' q q' h L F F')) (fun i _ _ _ _ _ => n - (intOf i).toNat)
  case atStart => exact ⟨0, [], F1, F2, by omega, rfl, rfl, T0⟩
  case round =>
    clear T0
    obtain ⟨k, L, F, F', hk, rfl, hL, hTt⟩ := hrel
    by_cases hkn : k < n
    · have e0 : (k : Int) < (n : Int) := by omega
      have hcv := conv_oneC k (by omega) wr
      have bA := (Below.refl wr.heap.size wr).alloc (Nat.le_refl _) (.cells #[.int .u8 (k : Int)] 5)
      have TA := hid (hTt.out.below bA)
      have BA := hid TA.out.bel
      have e9 : k ≤ 255 := by omega
      by_cases hkN : k < N
      · have e1 : (k : Int) < (N : Int) := by omega
        have hkE : k < E.length := by rw [hN.out]; exact hkN
        obtain ⟨y, rfl, _, hy⟩ := (HA.out.below BA.out (Nat.le_refl _)) k E[k] (List.getElem?_eq_getElem hkE)
        have hs := HE.out E[k] (List.getElem_mem hkE)
        have i2 := fun w' => hash8_any ⟨E[k].toArray⟩ (by rw [sv_size]; exact hs) w'
        rw [show sv E[k] = .string ⟨E[k].toArray⟩ from rfl] at hy
        have l32 := Sha.sha_length (⟨E[k].toArray⟩ : ByteArray).data.toList
        generalize Sha.sha (⟨E[k].toArray⟩ : ByteArray).data.toList = R at *
        generalize (⟨E[k].toArray⟩ : ByteArray) = S at *
        have hLn : L.length < 1048576 := by rw [hL.out]; omega
        clear hTt bA
        go_wp2_with (first
          | (go_at_call 14; refine (i2 _).mono ?_; rintro r w3 ⟨rfl, b3⟩; have T3 := hid (TA.out.below b3); have ad := tAdd_any T3.out.t R l32 hLn (HZ.out.below T3.out.bel hT); clear b3)
          | (go_at_call 33; refine ad.mono ?_; rintro r w4 ⟨rfl, G, t4, m4⟩; have r4 := (T3.out.r.mov m4 (fun k f e => T3.out.off k e f)).1; have b4 := (m4.below (B := w.heap.size) T3.out.bel.size T3.out.g).1; have ra := rAdd_any r4 R l32 hLn (Nat.le_trans hT (Nat.le_trans T3.out.bel.size b4.size)); have T4 := hid t4; have M4 := hid m4; clear r4 b4 t4 m4)
          | (go_at_call 34; refine ra.mono ?_; rintro r w5 ⟨rfl, G', r5, m5⟩; have T5 := hid (T3.out.add T4.out M4.out r5 m5); clear r5 m5))
        exact ⟨⟨k + 1, L ++ [R], G, G', by omega, by go_num, by unfold Hid; rw [List.length_append, hL.out]; rfl, T5⟩, by simp [intOf]; omega⟩
      · have e1 : ¬ (k : Int) < (N : Int) := by omega
        have i2 := fun w' => hash8_any (⟨#[110, 111, 110, 101]⟩ ++ ⟨#[UInt8.ofNat k]⟩) (by simp [ByteArray.size]) w'
        have l32 := Sha.sha_length ((⟨#[110, 111, 110, 101]⟩ : ByteArray) ++ ⟨#[UInt8.ofNat k]⟩).data.toList
        generalize Sha.sha ((⟨#[110, 111, 110, 101]⟩ : ByteArray) ++ ⟨#[UInt8.ofNat k]⟩).data.toList = R at *
        have hLn : L.length < 1048576 := by rw [hL.out]; omega
        clear hTt bA
        go_wp2_with (first
          | (go_at_call 14; refine (i2 _).mono ?_; rintro r w3 ⟨rfl, b3⟩; have T3 := hid (TA.out.below b3); have ad := tAdd_any T3.out.t R l32 hLn (HZ.out.below T3.out.bel hT); clear b3)
          | (go_at_call 33; refine ad.mono ?_; rintro r w4 ⟨rfl, G, t4, m4⟩; have r4 := (T3.out.r.mov m4 (fun k f e => T3.out.off k e f)).1; have b4 := (m4.below (B := w.heap.size) T3.out.bel.size T3.out.g).1; have ra := rAdd_any r4 R l32 hLn (Nat.le_trans hT (Nat.le_trans T3.out.bel.size b4.size)); have T4 := hid t4; have M4 := hid m4; clear r4 b4 t4 m4)
          | (go_at_call 34; refine ra.mono ?_; rintro r w5 ⟨rfl, G', r5, m5⟩; have T5 := hid (T3.out.add T4.out M4.out r5 m5); clear r5 m5))
        exact ⟨⟨k + 1, L ++ [R], G, G', by omega, by go_num, by unfold Hid; rw [List.length_append, hL.out]; rfl, T5⟩, by simp [intOf]; omega⟩
    · obtain rfl : k = n := by omega
      have e0 : ¬ (k : Int) < (k : Int) := by omega
      go_wp2
      go_ret2
      exact ⟨q, q', rfl, h, L, hL.out, F, F', hTt.out⟩
end Chn
end Go.Proofs.YtenklmjeeejfdaaGreatDoor

namespace Go.Proofs.YtenklmjeeejfdaaGreatDoor
open Go.RowKit Go.Shelf
namespace Chn
def pvH (L : List (List UInt8)) (hs : List Nat) : List (List UInt8) := (told hs).map fun s => Tree.root (Til.sg L s.1 s.2)
theorem sizeCh (a b : Value) : (Tryz.prog.info? 25).map (·.size) = some #[a, b].size := by kernel_rfl
end Chn
end Go.Proofs.YtenklmjeeejfdaaGreatDoor

namespace Go.Proofs.YtenklmjeeejfdaaGreatDoor
open Go.RowKit Go.Shelf
namespace Chn
theorem pvH_32 {L : List (List UInt8)} (hL : Tree.Hs L) (hs : List Nat) : ∀ x ∈ pvH L hs, x.length = 32 := fun x hx => by
  obtain ⟨y, _, rfl⟩ := List.mem_map.1 hx
  exact Tree.root_hash (show Tree.Hs ((L.take y.2).drop y.1) from (hL.take y.2).drop y.1)
end Chn
end Go.Proofs.YtenklmjeeejfdaaGreatDoor

namespace Go.Proofs.YtenklmjeeejfdaaGreatDoor
open Go.RowKit Go.Shelf
namespace Chn
set_option maxRecDepth 100000 in
set_option maxHeartbeats 800000 in
theorem texts13_yes (l : List (List UInt8)) (a d : Option Addr) (ca cd : Nat) (w : World) (ha : At w a l) (hd : At w d l) (hll : l.length ≤ 9223372036854775807) :
    Calls Tryz.prog 40 #[.slice a l.length ca, .slice d l.length cd] w fun e w' => e = .returned (.bool true) ∧ Below w.heap.size w w' ∧ w'.heap = w.heap := by
  have Ha := hid ha
  have Hd := hid hd
  clear ha hd
  go_enter Tryz.func40, Tryz.ntmps40
  go_wp2
  go_loopw [5] (fun i w' => ∃ k : Nat, k ≤ l.length ∧ i = .int .i64 k ∧ Hid (Below w.heap.size w w' ∧ w'.heap = w.heap)) (fun i _ => l.length - (intOf i).toNat)
  case atStart => exact ⟨0, by omega, rfl, hid ⟨Below.refl _ _, rfl⟩⟩
  case round =>
    obtain ⟨k, hk, rfl, hw'⟩ := hrel
    by_cases hlt : k < l.length
    · have b0 : (k : Int) < (l.length : Int) := by omega
      obtain ⟨x, rfl, xb, hx⟩ := Ha.out k l[k] (List.getElem?_eq_getElem hlt)
      rw [← hw'.out.1.cell (p := x.add k) (by rw [addr_block]; exact xb)] at hx
      clear xb
      obtain ⟨y, rfl, yb, hy⟩ := Hd.out k l[k] (List.getElem?_eq_getElem hlt)
      rw [← hw'.out.1.cell (p := y.add k) (by rw [addr_block]; exact yb)] at hy
      clear yb
      rw [svS] at hx hy
      generalize ByteArray.mk (l[k]).toArray = p at *
      have y1 : (p.toList == p.toList) = true := by simp
      have y2 : (p.toList != p.toList) = false := by simp
      go_wp2
      go_quiet (fail)
      go_wp2
      exact ⟨⟨k + 1, by omega, by go_num, hid ⟨below_drewN hw'.out.1 _, hw'.out.2⟩⟩, by simp [intOf]; omega⟩
    · have b0 : ¬ (k : Int) < (l.length : Int) := by omega
      go_wp2
      go_ret
      exact ⟨rfl, hw'.out.1, hw'.out.2⟩
end Chn
end Go.Proofs.YtenklmjeeejfdaaGreatDoor

namespace Go.Proofs.YtenklmjeeejfdaaGreatDoor
open Go.RowKit Go.Shelf
namespace Chn
namespace Gb
set_option maxRecDepth 100000 in
set_option maxHeartbeats 800000 in
theorem ints13_yes (l : List Int) (n : Nat) (hn : Hid (l.length = n)) (a d : Option Addr) (ca cd : Nat) (w : World) (ha : AtI w a l) (hd : AtI w d l) (hll : n ≤ 9223372036854775807) :
    Calls Tryz.prog 61 #[.slice a n ca, .slice d n cd] w fun e w' => e = .returned (.bool true) ∧ Below w.heap.size w w' ∧ w'.heap = w.heap := by
  have Ha := hid ha
  have Hd := hid hd
  clear ha hd
  go_enter Tryz.func61, Tryz.ntmps61
  go_wp2
  go_loopw [5] (fun i w' => ∃ k : Nat, k ≤ n ∧ i = .int .i64 k ∧ Hid (Below w.heap.size w w' ∧ w'.heap = w.heap)) (fun i _ => n - (intOf i).toNat)
  case atStart => exact ⟨0, by omega, rfl, hid ⟨Below.refl _ _, rfl⟩⟩
  case round =>
    obtain ⟨k, hk, rfl, hw'⟩ := hrel
    by_cases hlt : k < n
    · have b0 : (k : Int) < (n : Int) := by omega
      have hkl : k < l.length := by rw [hn.out]; exact hlt
      obtain ⟨x, rfl, xb, hx⟩ := Ha.out k l[k] (List.getElem?_eq_getElem hkl)
      rw [← hw'.out.1.cell (p := x.add k) (by rw [addr_block]; exact xb)] at hx
      clear xb
      obtain ⟨y, rfl, yb, hy⟩ := Hd.out k l[k] (List.getElem?_eq_getElem hkl)
      rw [← hw'.out.1.cell (p := y.add k) (by rw [addr_block]; exact yb)] at hy
      clear yb
      generalize l[k] = p at *
      have y1 : (p == p) = true := by simp
      have y2 : (p != p) = false := by simp
      go_wp2
      go_quiet (fail)
      go_wp2
      exact ⟨⟨k + 1, by omega, by go_num, hid ⟨below_drewN hw'.out.1 _, hw'.out.2⟩⟩, by simp [intOf]; omega⟩
    · have b0 : ¬ (k : Int) < (n : Int) := by omega
      go_wp2
      go_ret
      exact ⟨rfl, hw'.out.1, hw'.out.2⟩
end Gb
end Chn
end Go.Proofs.YtenklmjeeejfdaaGreatDoor

namespace Go.Proofs.YtenklmjeeejfdaaGreatDoor
open Go.RowKit Go.Shelf
namespace Chn
namespace Gb
def OkT (w : World) (aH aW : Option Addr) (j : Nat) : Prop := ∃ (W : List (List UInt8)) (gh gw : Nat) (a : Option Addr) (c : Nat) (a' : Option Addr) (c' : Nat), aH = some ⟨gh, 0, none⟩ ∧ aW = some ⟨gw, 0, none⟩ ∧ gh < w.heap.size ∧ gw < w.heap.size ∧ w.cell? ⟨gh, j, none⟩ = some (.slice a W.length c) ∧ w.cell? ⟨gw, j, none⟩ = some (.slice a' W.length c') ∧ At w a W ∧ At w a' W ∧ W.length ≤ 1099511627776
theorem OkT.below {w w' : World} {aH aW : Option Addr} {j : Nat} (h : OkT w aH aW j) (hb : Below w.heap.size w w') : OkT w' aH aW j := by
  obtain ⟨W, gh, gw, a, c, a', c', e1, e2, l1, l2, c1, c2, h1, h2, hl⟩ := h
  exact ⟨W, gh, gw, a, c, a', c', e1, e2, Nat.lt_of_lt_of_le l1 hb.size, Nat.lt_of_lt_of_le l2 hb.size, (hb.cell (p := ⟨gh, j, none⟩) l1).trans c1, (hb.cell (p := ⟨gw, j, none⟩) l2).trans c2, h1.below hb (Nat.le_refl _), h2.below hb (Nat.le_refl _), hl⟩
def OkI (w : World) (aH aW : Option Addr) (j : Nat) : Prop := ∃ (W : List Int) (gh gw : Nat) (a : Option Addr) (c : Nat) (a' : Option Addr) (c' : Nat), aH = some ⟨gh, 0, none⟩ ∧ aW = some ⟨gw, 0, none⟩ ∧ gh < w.heap.size ∧ gw < w.heap.size ∧ w.cell? ⟨gh, j, none⟩ = some (.slice a W.length c) ∧ w.cell? ⟨gw, j, none⟩ = some (.slice a' W.length c') ∧ AtI w a W ∧ AtI w a' W ∧ W.length ≤ 1099511627776
theorem OkI.below {w w' : World} {aH aW : Option Addr} {j : Nat} (h : OkI w aH aW j) (hb : Below w.heap.size w w') : OkI w' aH aW j := by
  obtain ⟨W, gh, gw, a, c, a', c', e1, e2, l1, l2, c1, c2, h1, h2, hl⟩ := h
  exact ⟨W, gh, gw, a, c, a', c', e1, e2, Nat.lt_of_lt_of_le l1 hb.size, Nat.lt_of_lt_of_le l2 hb.size, (hb.cell (p := ⟨gh, j, none⟩) l1).trans c1, (hb.cell (p := ⟨gw, j, none⟩) l2).trans c2, h1.below hb (Nat.le_refl _), h2.below hb (Nat.le_refl _), hl⟩
theorem drewBelowG {w w' : World} (h : Below w.drew.heap.size w.drew w') : Below w.heap.size w w' := ⟨h.os, h.tape, h.output, h.size, h.block⟩
set_option maxRecDepth 100000 in
set_option maxHeartbeats 4000000 in
theorem stay_any (X t s cT cI : Nat) (aH aW aI aJ : Option Addr) (kH kW kI kJ : Nat) (w : World) (lX : X < w.heap.size)
    (x0 : w.cell? ⟨X, 0, none⟩ = some (.slice aH cT kH)) (x1 : w.cell? ⟨X, 1, none⟩ = some (.slice aW cT kW)) (x3 : w.cell? ⟨X, 3, none⟩ = some (.slice none 0 0)) (x6 : w.cell? ⟨X, 6, none⟩ = some (.slice aI cI kI)) (x7 : w.cell? ⟨X, 7, none⟩ = some (.slice aJ cI kJ))
    (ht : t ≤ cT) (hs : s ≤ cI) (hcT : cT ≤ 1000) (hcI : cI ≤ 1000) (HT : Hid (∀ j, t ≤ j → j < cT → OkT w aH aW j)) (HI : Hid (∀ j, s ≤ j → j < cI → OkI w aI aJ j)) :
    Calls Tryz.prog 38 #[.pointer (some ⟨X, 0, none⟩), .int .i64 (t : Int), .int .i64 0, .int .i64 (s : Int)] w fun r w' => r = .returned (.bool true) ∧ Below w.heap.size w w' := by
  have FX := hid (And.intro x0 (And.intro x1 (And.intro x3 (And.intro x6 x7))))
  clear x0 x1 x3 x6 x7
  go_enter Tryz.func38, Tryz.ntmps38
  go_wp2
  go_loopw [9, 10] (fun j _ w' => ∃ J : Nat, t ≤ J ∧ J ≤ cT ∧ j = .int .i64 (J : Int) ∧ Hid (Below w.heap.size w w')) (fun j _ _ => cT - (intOf j).toNat)
  case atStart => exact ⟨t, Nat.le_refl _, ht, by first | rfl | go_num, Below.refl _ _⟩
  case round =>
    obtain ⟨J, hJ1, hJ2, rfl, hBw⟩ := hrel
    have x0 := (hBw.out.cell (p := ⟨X, 0, none⟩) lX).trans FX.out.1
    have x1 := (hBw.out.cell (p := ⟨X, 1, none⟩) lX).trans FX.out.2.1
    have lX2 : X < wr.heap.size := Nat.lt_of_lt_of_le lX hBw.out.size
    by_cases hJc : J < cT
    · have b5 : (J : Int) < (cT : Int) := by omega
      have j0 : (0 : Int) ≤ (J : Int) := by omega
      obtain ⟨W, gh, gw, a, c, a', c', rfl, rfl, l1, l2, c1, c2, h1, h2, hl⟩ := (HT.out J hJ1 hJc).below hBw.out
      have hy := texts13_yes W a a' c c' wr.drew h1 h2 (by omega)
      obtain ⟨n, hn⟩ : ∃ n, W.length = n := ⟨_, rfl⟩
      rw [hn] at hy c1 c2
      clear h1 h2 hl hn
      go_wp2
      go_region_held3 (fun w' => w'.cell? ⟨X, 0, none⟩ = some (.slice (some ⟨gh, 0, none⟩) cT kH) ∧ w'.cell? ⟨X, 1, none⟩ = some (.slice (some ⟨gw, 0, none⟩) cT kW) ∧ w'.cell? ⟨gh, J, none⟩ = some (.slice a n c) ∧ w'.cell? ⟨gw, J, none⟩ = some (.slice a' n c')) (first | exact e4 | exact ⟨x0, x1, c1, c2⟩)
        (first | (go_at_call 40; (with_reducible refine hy.mono ?_); rintro e w2 ⟨rfl, hw2', _⟩; have hw2 := drewBelowG hw2'; have e4 := And.intro ((hw2.cell (p := ⟨X, 0, none⟩) lX2).trans x0) (And.intro ((hw2.cell (p := ⟨X, 1, none⟩) lX2).trans x1) (And.intro ((hw2.cell (p := ⟨gh, J, none⟩) l1).trans c1) ((hw2.cell (p := ⟨gw, J, none⟩) l2).trans c2)))))
      all_goals
        have B2 := hid (hBw.out.trans (hw2.mono hBw.out.size))
        clear hw2 hw2' e4 hy
        go_wp2
        exact ⟨⟨J + 1, by omega, by omega, by go_num, B2⟩, by simp [intOf]; omega⟩
    · obtain rfl : J = cT := by omega
      have b5 : ¬ (J : Int) < (J : Int) := by omega
      have x3 := (hBw.out.cell (p := ⟨X, 3, none⟩) lX).trans FX.out.2.2.1
      obtain ⟨wE, hwE⟩ : ∃ wE, wr = wE := ⟨_, rfl⟩
      rw [hwE] at x0 x1 x3 hBw lX2 ⊢
      clear hwE
      go_wp2
      go_loopw [11, 12] (fun i _ w' => i = .int .i64 0 ∧ w' = wE) (fun _ _ _ => 0)
      case atStart => exact ⟨rfl, rfl⟩
      case round =>
        obtain ⟨rfl, hwq⟩ := hrel
        rw [hwq]
        clear hwq
        go_wp2
        clear x0 x1 x3
        go_loopw [13, 14] (fun j _ w' => ∃ K : Nat, s ≤ K ∧ K ≤ cI ∧ j = .int .i64 (K : Int) ∧ Hid (Below w.heap.size w w')) (fun j _ _ => cI - (intOf j).toNat)
        case atStart => exact ⟨s, Nat.le_refl _, hs, by first | rfl | go_num, hBw⟩
        case round =>
          clear hBw lX2
          obtain ⟨K, hK1, hK2, rfl, hBw⟩ := hrel
          have x6 := (hBw.out.cell (p := ⟨X, 6, none⟩) lX).trans FX.out.2.2.2.1
          have x7 := (hBw.out.cell (p := ⟨X, 7, none⟩) lX).trans FX.out.2.2.2.2
          have lX2 : X < wr.heap.size := Nat.lt_of_lt_of_le lX hBw.out.size
          by_cases hKc : K < cI
          · have b6 : (K : Int) < (cI : Int) := by omega
            have k0 : (0 : Int) ≤ (K : Int) := by omega
            obtain ⟨W, gh, gw, a, c, a', c', rfl, rfl, l1, l2, c1, c2, h1, h2, hl⟩ := (HI.out K hK1 hKc).below hBw.out
            obtain ⟨n, hn⟩ : ∃ n, W.length = n := ⟨_, rfl⟩
            have hy := ints13_yes W n hn a a' c c' wr.drew h1 h2 (by omega)
            rw [hn] at c1 c2
            clear h1 h2 hl hn
            go_wp2
            go_region_held3 (fun w' => w'.cell? ⟨X, 6, none⟩ = some (.slice (some ⟨gh, 0, none⟩) cI kI) ∧ w'.cell? ⟨X, 7, none⟩ = some (.slice (some ⟨gw, 0, none⟩) cI kJ) ∧ w'.cell? ⟨gh, K, none⟩ = some (.slice a n c) ∧ w'.cell? ⟨gw, K, none⟩ = some (.slice a' n c')) (first | exact e4 | exact ⟨x6, x7, c1, c2⟩)
              (first | (go_at_call 61; (with_reducible refine hy.mono ?_); rintro e w2 ⟨rfl, hw2', _⟩; have hw2 := drewBelowG hw2'; have e4 := And.intro ((hw2.cell (p := ⟨X, 6, none⟩) lX2).trans x6) (And.intro ((hw2.cell (p := ⟨X, 7, none⟩) lX2).trans x7) (And.intro ((hw2.cell (p := ⟨gh, K, none⟩) l1).trans c1) ((hw2.cell (p := ⟨gw, K, none⟩) l2).trans c2)))))
            all_goals
              have B2 := hid (hBw.out.trans (hw2.mono hBw.out.size))
              clear hw2 hw2' e4 hy
              go_wp2
              exact ⟨⟨K + 1, by omega, by omega, by go_num, B2⟩, by simp [intOf]; omega⟩
          · obtain rfl : K = cI := by omega
            have b6 : ¬ (K : Int) < (K : Int) := by omega
            go_wp2
            go_ret
            exact ⟨rfl, hBw.out⟩
end Gb
end Chn
end Go.Proofs.YtenklmjeeejfdaaGreatDoor

namespace Go.Proofs.YtenklmjeeejfdaaGreatDoor
open Go.RowKit Go.Shelf
namespace Chn
namespace Gb
theorem atT {w : World} {a : Option Addr} {L : List (List UInt8)} (h : AtV w a (svs L)) : At w a L := fun j p hp => by
  obtain ⟨g, e, h1, h2⟩ := h j (sv p) (by simp [svs, hp])
  exact ⟨⟨g, 0, none⟩, e, h1, by rw [Addr.add_mid, Nat.zero_add]; exact h2⟩
theorem Cb.okT {mk : Nat → Value} {B0 X gh gw : Nat} {F : Value → Array Value} {hv wv : List Value} {Ws : List (List Value)} {w0 w : World} {ρ : Nat → Nat} {p : Nat} {vl : Value} {ls : List Value} (h : Cb mk B0 X gh gw F hv wv Ws w0 ρ w p vl ls) (TX : ∀ W ∈ Ws, W.length ≤ 1099511627776 ∧ ∃ L : List (List UInt8), W = svs L) {j : Nat} (hp : p ≤ j) (hj : j < Ws.length) : OkT w (some ⟨gh, 0, none⟩) (some ⟨gw, 0, none⟩) j := by
  obtain ⟨W, hW⟩ : ∃ W, Ws[j]? = some W := ⟨_, List.getElem?_eq_getElem hj⟩
  obtain ⟨hl, L, rfl⟩ := TX W (List.mem_of_getElem? hW)
  obtain ⟨v, e1, e2, e3⟩ := h.own j _ hp hW
  obtain ⟨a', c', f1, f2, f3⟩ := h.want j _ hW
  obtain ⟨a, c, rfl, hA⟩ := AtV.own e2
  have hsl : (svs L).length = L.length := by simp [svs]
  have d0 := h.hr j _ e1
  have d1 := h.wr j _ f1
  rw [Nat.zero_add, hsl] at d0 d1
  exact ⟨L, gh, gw, a, c, a', c', rfl, rfl, h.lh, h.lw, d0, d1, atT hA, atT f2, by omega⟩
theorem infoLT : (Tryz.prog.info? 23).map (fun i => (i.zero, i.size, i.bytes)) = some (some (.slice none 0 0), 1, 24) := by kernel_rfl
theorem append_lsT (w : World) (v : Value) (ls : List Value) (a : Option Addr) (n c : Nat) (h : OwnM 1 w v ls.length ls) (hl : ls.length ≤ 1000000) :
    ∃ v' w', (Builtin.append_ #[28, 28] 28 #[v, .slice (some ⟨w.heap.size, 0, none⟩) 1 1]).run Tryz.prog (w.alloc (.cells #[.slice a n c] 23)) = .ok v' w' ∧ OwnM 1 w' v' (ls.length + 1) (ls ++ [.slice a n c]) ∧ Grow w w' v v' :=
  append_oneL 28 23 _ 24 Tryz.underlying28 infoLT rfl w v ls.length ls [.slice a n c] rfl (fun u hu => by
    simp only [List.mem_cons, List.not_mem_nil, or_false] at hu
    subst hu; rfl) h (by omega) (by rw [maxLen]; omega)
theorem rx_eq {ρ ρ0 : Nat → Nat} {w0 w : World} {r : Nat} (h : ∀ k, k < w0.heap.size → ρ k = ρ0 k) (hs : w0.heap.size ≤ w.heap.size) : ∀ k, k < w0.heap.size → rx ρ w r k = ρ0 k := fun k hk => by rw [rx_old (Nat.lt_of_lt_of_le hk hs)]; exact h k hk
end Gb
end Chn
end Go.Proofs.YtenklmjeeejfdaaGreatDoor
