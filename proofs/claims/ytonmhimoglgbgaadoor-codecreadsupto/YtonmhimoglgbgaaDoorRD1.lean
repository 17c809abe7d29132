import Derived.Test.YtonmhimoglgbgaaDoorST1
import Derived.Test.YtonmhimoglgbgaaDoorST2
import Derived.Test.YtonmhimoglgbgaaDoorST3
import Derived.Test.YtonmhimoglgbgaaDoorST4
import Derived.Test.YtonmhimoglgbgaaDoorST5
import Derived.Test.YtonmhimoglgbgaaDoorBK8
import Derived.Test.YtonmhimoglgbgaaDoorRD0
namespace Go.Proofs.YtonmhimoglgbgaaDoor
open Go.RowKit Cod
theorem step_all (X b1 b2 t : Nat) (s : ByteArray) (st : RS) (ρ : Rol) (S : BS) (ot kp : Bool) (kd n m : Int) (sb : ByteArray) (la ta : Option Addr) (ln lc tn tc : Nat) (w : World) (hn1 : n ≤ 9223372036854775807) (hB : Bk w X ρ S) (hG : BG S t) (ht : t ≤ 200) (hR : Rdr w b1 st) (hX : XRd w b2 s st) (hne : b1 ≠ b2) (h1 : b1 < X) (h2 : b2 < X) (p1 : 1 ≤ b1) (p2 : 1 ≤ b2) (T : Lay w) :
    Calls Tryd.prog 14 #[.agg #[.pointer (some ⟨b1, 0, none⟩), .pointer (some ⟨b2, 0, none⟩)], .agg #[.bool ot, .bool kp, .int .i64 kd, .int .i64 n, .int .i64 m, .string sb, .slice la ln lc, .slice ta tn tc], .pointer (some ⟨X, 0, none⟩)] w (StepPost X b1 b2 s (t + 1) w) := by
  by_cases e1 : kd = 1
  · subst e1
    exact step_1 X b1 b2 t s st ρ S ot kp n m sb la ta ln lc tn tc w hn1 hB hG ht hR hX hne h1 h2 p1 p2 T
  by_cases e2 : kd = 2
  · subst e2
    exact step_2 X b1 b2 t s st ρ S ot kp n m sb la ta ln lc tn tc w hn1 hB hG ht hR hX hne h1 h2 p1 p2 T
  by_cases e3 : kd = 3
  · subst e3
    exact step_3 X b1 b2 t s st ρ S ot kp n m sb la ta ln lc tn tc w hn1 hB hG ht hR hX hne h1 h2 p1 p2 T
  by_cases e4 : kd = 4
  · subst e4
    exact step_4 X b1 b2 t s st ρ S ot kp n m sb la ta ln lc tn tc w hn1 hB hG ht hR hX hne h1 h2 p1 p2 T
  by_cases e5 : kd = 5
  · subst e5
    exact step_5 X b1 b2 t s st ρ S ot kp n m sb la ta ln lc tn tc w hn1 hB hG ht hR hX hne h1 h2 p1 p2 T
  by_cases e6 : kd = 6
  · subst e6
    exact step_6 X b1 b2 t s st ρ S ot kp n m sb la ta ln lc tn tc w hn1 hB hG ht hR hX hne h1 h2 p1 p2 T
  by_cases e7 : kd = 7
  · subst e7
    exact step_7 X b1 b2 t s st ρ S ot kp n m sb la ta ln lc tn tc w hn1 hB hG ht hR hX hne h1 h2 p1 p2 T
  exact step_other X b1 b2 t s st ρ S ot kp kd n m sb la ta ln lc tn tc w (by simpa using e1) (by simpa using e2) (by simpa using e3) (by simpa using e4) (by simpa using e5) (by simpa using e6) (by simpa using e7) hn1 hB hG ht hR hX hne h1 h2 p1 p2 T
/-- two Readers, the document's, and the book -/
structure LawR (W w : World) (R1 X1 A R2 X2 A2 X k : Nat) (s1 s2 : ByteArray) : Prop where
  ord : 1 ≤ W.heap.size ∧ W.heap.size ≤ R1 ∧ R1 < X1 ∧ X1 < A ∧ A < R2 ∧ R2 < X2 ∧ X2 < A2 ∧ A2 < X
  st : ∃ st1 st2 ρ S, Rdr w R1 st1 ∧ XRd w X1 s1 st1 ∧ Rdr w R2 st2 ∧ XRd w X2 s2 st2 ∧ Bk w X ρ S ∧ BG S k
  rA : w.heap[A]? = some (.cells #[.pointer (some ⟨R1, 0, none⟩), .pointer (some ⟨X1, 0, none⟩)] 40 (0, 0))
  rA2 : w.heap[A2]? = some (.cells #[.pointer (some ⟨R2, 0, none⟩), .pointer (some ⟨X2, 0, none⟩)] 40 (0, 0))
  bl : Below W.heap.size W w
  lay : Lay w
theorem LawR.below {W w w' : World} {R1 X1 A R2 X2 A2 X k : Nat} {s1 s2 : ByteArray} (h : LawR W w R1 X1 A R2 X2 A2 X k s1 s2) (hb : Below w.heap.size w w') : LawR W w' R1 X1 A R2 X2 A2 X k s1 s2 := by
  obtain ⟨st1, st2, ρ, S, a1, a2, a3, a4, a5, a6⟩ := h.st
  exact ⟨h.ord, ⟨st1, st2, ρ, S, a1.below hb, a2.below hb, a3.below hb, a4.below hb, a5.below hb, a6⟩, (hb.block A (lt_of_heap h.rA)).trans h.rA, (hb.block A2 (lt_of_heap h.rA2)).trans h.rA2, h.bl.trans (hb.mono h.bl.size), h.lay.below hb h.lay.lt⟩
theorem LawR.rest {W w w' : World} {R1 X1 A R2 X2 A2 X k : Nat} {s1 s2 : ByteArray} (h : LawR W w R1 X1 A R2 X2 A2 X k s1 s2) {b1 b2 : Nat} (hb : (b1 = R1 ∧ b2 = X1) ∨ (b1 = R2 ∧ b2 = X2)) (hk : Keep (fun j => j = b1 ∨ j = b2 ∨ X ≤ j) w w') :
    w'.heap[A]? = w.heap[A]? ∧ w'.heap[A2]? = w.heap[A2]? ∧ Below W.heap.size W w' ∧ Lay w' := by
  obtain ⟨o0, o1, o2, o3, o4, o5, o6, o7⟩ := h.ord
  have hA := lt_of_heap h.rA
  have hA2 := lt_of_heap h.rA2
  have hsz := h.bl.size
  have hbl : Below W.heap.size w w' := hk.below hsz (fun j hj e => by rcases hb with ⟨rfl, rfl⟩ | ⟨rfl, rfl⟩ <;> rcases e with e | e | e <;> omega)
  refine ⟨hk.block A hA (fun e => ?_), hk.block A2 hA2 (fun e => ?_), h.bl.trans hbl, h.lay.below hbl o0⟩
  · rcases hb with ⟨rfl, rfl⟩ | ⟨rfl, rfl⟩ <;> rcases e with e | e | e <;> omega
  · rcases hb with ⟨rfl, rfl⟩ | ⟨rfl, rfl⟩ <;> rcases e with e | e | e <;> omega
theorem LawR.stepA {W w : World} {R1 X1 A R2 X2 A2 X k : Nat} {s1 s2 : ByteArray} (h : LawR W w R1 X1 A R2 X2 A2 X k s1 s2) (hk : k < 200) (ot kp : Bool) (kd n m : Int) (sb : ByteArray) (la ta : Option Addr) (ln lc tn tc : Nat) (hn1 : n ≤ 9223372036854775807) :
    Calls Tryd.prog 14 #[.agg #[.pointer (some ⟨R1, 0, none⟩), .pointer (some ⟨X1, 0, none⟩)], .agg #[.bool ot, .bool kp, .int .i64 kd, .int .i64 n, .int .i64 m, .string sb, .slice la ln lc, .slice ta tn tc], .pointer (some ⟨X, 0, none⟩)] w fun r w' => r = .returned (.bool true) ∧ LawR W w' R1 X1 A R2 X2 A2 X (k + 1) s1 s2 := by
  obtain ⟨o0, o1, o2, o3, o4, o5, o6, o7⟩ := h.ord
  obtain ⟨st1, st2, ρ, S, a1, a2, a3, a4, a5, a6⟩ := h.st
  refine (step_all X R1 X1 k s1 st1 ρ S ot kp kd n m sb la ta ln lc tn tc w hn1 a5 a6 (by omega) a1 a2 (by omega) (by omega) (by omega) (by omega) (by omega) h.lay).mono ?_
  rintro r w' ⟨rfl, st', ρ', S', c1, c2, c3, c4, hK⟩
  obtain ⟨e1, e2, e3, e4⟩ := h.rest (b1 := R1) (b2 := X1) (.inl ⟨rfl, rfl⟩) hK
  have hX := lt_of_heap a5.row
  have d1 := hK.block R2 (by omega) (by rintro (e | e | e) <;> omega)
  have d2 := hK.block X2 (by omega) (by rintro (e | e | e) <;> omega)
  exact ⟨rfl, h.ord, ⟨st', st2, ρ', S', c1, c2, rdr_heap a3 d1, xrd_heap a4 d2, c3, c4⟩, e1.trans h.rA, e2.trans h.rA2, e3, e4⟩
theorem LawR.stepC {W w : World} {R1 X1 A R2 X2 A2 X k : Nat} {s1 s2 : ByteArray} (h : LawR W w R1 X1 A R2 X2 A2 X k s1 s2) (hk : k < 200) (ot kp : Bool) (kd n m : Int) (sb : ByteArray) (la ta : Option Addr) (ln lc tn tc : Nat) (hn1 : n ≤ 9223372036854775807) :
    Calls Tryd.prog 14 #[.agg #[.pointer (some ⟨R2, 0, none⟩), .pointer (some ⟨X2, 0, none⟩)], .agg #[.bool ot, .bool kp, .int .i64 kd, .int .i64 n, .int .i64 m, .string sb, .slice la ln lc, .slice ta tn tc], .pointer (some ⟨X, 0, none⟩)] w fun r w' => r = .returned (.bool true) ∧ LawR W w' R1 X1 A R2 X2 A2 X (k + 1) s1 s2 := by
  obtain ⟨o0, o1, o2, o3, o4, o5, o6, o7⟩ := h.ord
  obtain ⟨st1, st2, ρ, S, a1, a2, a3, a4, a5, a6⟩ := h.st
  refine (step_all X R2 X2 k s2 st2 ρ S ot kp kd n m sb la ta ln lc tn tc w hn1 a5 a6 (by omega) a3 a4 (by omega) (by omega) (by omega) (by omega) (by omega) h.lay).mono ?_
  rintro r w' ⟨rfl, st', ρ', S', c1, c2, c3, c4, hK⟩
  obtain ⟨e1, e2, e3, e4⟩ := h.rest (b1 := R2) (b2 := X2) (.inr ⟨rfl, rfl⟩) hK
  have hX := lt_of_heap a5.row
  have d1 := hK.block R1 (by omega) (by rintro (e | e | e) <;> omega)
  have d2 := hK.block X1 (by omega) (by rintro (e | e | e) <;> omega)
  exact ⟨rfl, h.ord, ⟨st1, st', ρ', S', rdr_heap a1 d1, xrd_heap a2 d2, c1, c2, c3, c4⟩, e1.trans h.rA, e2.trans h.rA2, e3, e4⟩
set_option maxRecDepth 100000 in
set_option maxHeartbeats 4000000 in
theorem reads_any (s1 s2 : ByteArray) (v0 : Value) (N : Nat) (hs1 : s1.size ≤ 1048576) (hs2 : s2.size ≤ 1048576) (W : World) (T : Lay W) (hp : SlcR W v0 N) (hN : N ≤ 1048576) :
    Calls Tryd.prog 4 #[.string s1, .string s2, v0] W fun r w' => r = .returned (.bool true) ∧ Below W.heap.size W w' := by
  have HT := hid T
  have hpos := T.lt
  have hK := hid (known_any W T)
  obtain ⟨a, cap, rfl, hp⟩ := hp
  have Hp := hid hp
  clear hp T
  obtain ⟨M, hM⟩ : ∃ M, min N 200 = M := ⟨_, rfl⟩
  go_enter Tryd.func4, Tryd.ntmps4
  go_wp2_with (go_at_call 5; fail)
  refine hK.out.mono ?_
  rintro z w1 ⟨rfl, b1⟩
  have B1 := hid b1
  clear b1 hK
  go_wp2_with (go_at_call 9; fail)
  refine (newReader_any s1 (by unfold maxLen; omega) w1).mono ?_
  rintro z w2 ⟨rfl, h2, b2, z2⟩
  have H2 := hid h2
  have B2 := hid b2
  have Z2 := hid z2
  clear h2 b2 z2
  go_wp2_with (go_at_call 13; fail)
  refine (xNew_any s1 hs1 w2).mono ?_
  rintro z w3 ⟨rfl, h3, b3, z3⟩
  have H3 := hid h3
  have B3 := hid b3
  have Z3 := hid z3
  clear h3 b3 z3
  obtain ⟨R1, e1⟩ : ∃ R, w1.heap.size = R := ⟨_, rfl⟩
  obtain ⟨X1, e2⟩ : ∃ R, w2.heap.size = R := ⟨_, rfl⟩
  obtain ⟨A, e3⟩ : ∃ R, w3.heap.size = R := ⟨_, rfl⟩
  rw [e1, e2]
  have r4 := heap_alloc_new w3 (.cells #[.pointer (some ⟨R1, 0, none⟩), .pointer (some ⟨X1, 0, none⟩)] 40)
  have b4 := (Below.refl w3.heap.size w3).alloc (Nat.le_refl _) (.cells #[.pointer (some ⟨R1, 0, none⟩), .pointer (some ⟨X1, 0, none⟩)] 40)
  have z4 := size_alloc w3 (.cells #[.pointer (some ⟨R1, 0, none⟩), .pointer (some ⟨X1, 0, none⟩)] 40)
  have R4 := hid r4
  have B4 := hid b4
  have Z4 := hid z4
  clear r4 b4 z4
  go_wp2_with (go_at_call 9; fail)
  obtain ⟨w4, hw4⟩ : ∃ w4, w3.alloc (.cells #[.pointer (some ⟨R1, 0, none⟩), .pointer (some ⟨X1, 0, none⟩)] 40) = w4 := ⟨_, rfl⟩
  rw [hw4] at R4 B4 Z4
  rw [hw4]
  refine (newReader_any s2 (by unfold maxLen; omega) w4).mono ?_
  rintro z w5 ⟨rfl, h5, b5, z5⟩
  have H5 := hid h5
  have B5 := hid b5
  have Z5 := hid z5
  clear h5 b5 z5
  go_wp2_with (go_at_call 13; fail)
  refine (xNew_any s2 hs2 w5).mono ?_
  rintro z w6 ⟨rfl, h6, b6, z6⟩
  have H6 := hid h6
  have B6 := hid b6
  have Z6 := hid z6
  clear h6 b6 z6
  obtain ⟨R2, e4⟩ : ∃ R, w4.heap.size = R := ⟨_, rfl⟩
  obtain ⟨X2, e5⟩ : ∃ R, w5.heap.size = R := ⟨_, rfl⟩
  obtain ⟨A2, e6⟩ : ∃ R, w6.heap.size = R := ⟨_, rfl⟩
  rw [e4, e5]
  have L0 : Hid (LawR W ((w6.alloc (.cells #[.pointer (some ⟨R2, 0, none⟩), .pointer (some ⟨X2, 0, none⟩)] 40)).alloc (.cells #[.slice none 0 0, .slice none 0 0, .slice none 0 0, .slice none 0 0, .slice none 0 0, .slice none 0 0] 44)) R1 X1 A R2 X2 A2 (A2 + 1) 0 s1 s2) := by
    have r7 := heap_alloc_new w6 (.cells #[.pointer (some ⟨R2, 0, none⟩), .pointer (some ⟨X2, 0, none⟩)] 40)
    have b7 := (Below.refl w6.heap.size w6).alloc (Nat.le_refl _) (.cells #[.pointer (some ⟨R2, 0, none⟩), .pointer (some ⟨X2, 0, none⟩)] 40)
    have z7 := size_alloc w6 (.cells #[.pointer (some ⟨R2, 0, none⟩), .pointer (some ⟨X2, 0, none⟩)] 40)
    have r8 := heap_alloc_new (w6.alloc (.cells #[.pointer (some ⟨R2, 0, none⟩), .pointer (some ⟨X2, 0, none⟩)] 40)) (.cells #[.slice none 0 0, .slice none 0 0, .slice none 0 0, .slice none 0 0, .slice none 0 0, .slice none 0 0] 44)
    have b8 := (Below.refl (w6.alloc (.cells #[.pointer (some ⟨R2, 0, none⟩), .pointer (some ⟨X2, 0, none⟩)] 40)).heap.size (w6.alloc (.cells #[.pointer (some ⟨R2, 0, none⟩), .pointer (some ⟨X2, 0, none⟩)] 40))).alloc (Nat.le_refl _) (.cells #[.slice none 0 0, .slice none 0 0, .slice none 0 0, .slice none 0 0, .slice none 0 0, .slice none 0 0] 44)
    have z8 := size_alloc (w6.alloc (.cells #[.pointer (some ⟨R2, 0, none⟩), .pointer (some ⟨X2, 0, none⟩)] 40)) (.cells #[.slice none 0 0, .slice none 0 0, .slice none 0 0, .slice none 0 0, .slice none 0 0, .slice none 0 0] 44)
    generalize (w6.alloc (.cells #[.pointer (some ⟨R2, 0, none⟩), .pointer (some ⟨X2, 0, none⟩)] 40)).alloc (.cells #[.slice none 0 0, .slice none 0 0, .slice none 0 0, .slice none 0 0, .slice none 0 0, .slice none 0 0] 44) = w8 at *
    generalize w6.alloc (.cells #[.pointer (some ⟨R2, 0, none⟩), .pointer (some ⟨X2, 0, none⟩)] 40) = w7 at *
    have q2 := Z2.out
    have q3 := Z3.out
    have q4 := Z4.out
    have q5 := Z5.out
    have q6 := Z6.out
    have q1 := B1.out.size
    have c78 := b8
    have c68 : Below w6.heap.size w6 w8 := b7.trans (b8.mono (by omega))
    have c58 : Below w5.heap.size w5 w8 := B6.out.trans (c68.mono (by omega))
    have c48 : Below w4.heap.size w4 w8 := B5.out.trans (c58.mono (by omega))
    have c38 : Below w3.heap.size w3 w8 := B4.out.trans (c48.mono (by omega))
    have c28 : Below w2.heap.size w2 w8 := B3.out.trans (c38.mono (by omega))
    have c18 : Below w1.heap.size w1 w8 := B2.out.trans (c28.mono (by omega))
    have cW : Below W.heap.size W w8 := B1.out.trans (c18.mono (by omega))
    rw [e1] at q2
    rw [e2] at q3 q2
    rw [e3] at q4 q3
    rw [e4] at q5 q4
    rw [e5] at q6 q5
    rw [e6] at q6 z7
    rw [e1] at q1
    have H2' := H2.out
    have H3' := H3.out
    have H5' := H5.out
    have H6' := H6.out
    have R4' := R4.out
    rw [e1] at H2'
    rw [e2] at H3'
    rw [e4] at H5'
    rw [e5] at H6'
    rw [e3] at R4'
    rw [e6] at r7
    have hX7 : w7.heap.size = A2 + 1 := by omega
    rw [hX7] at r8 z8
    have hρ : ∀ (g : Nat) (r : Ro), (if g = A2 + 1 then some Ro.book else none) = some r → r = .book := fun g r e => by
      split at e
      · exact (Option.some.inj e).symm
      · cases e
    refine ⟨⟨hpos, by omega, by omega, by omega, by omega, by omega, by omega, by omega⟩, ⟨_, _, (fun j => if j = A2 + 1 then some .book else none), ⟨.slice none 0 0, .slice none 0 0, .slice none 0 0, .slice none 0 0, .slice none 0 0, .slice none 0 0, [], [], [], [], [], [], [], [], [], [], 0, 0⟩, H2'.below c28, H3'.below c38, H5'.below c58, H6'.below c68, ⟨r8, if_pos rfl, fun j r hr => ?_, ?_, ?_, ?_, ?_, ?_, ?_⟩, ⟨0, 0, rfl, rfl, rfl, rfl, by simp, rfl, rfl, (fun L h => (by cases h)), (fun L h => (by cases h))⟩⟩, (c48.block A (by omega)).trans R4', (b8.block A2 (by omega)).trans r7, cW, HT.out.below cW hpos⟩
    · have hj : j = A2 + 1 := by
        by_cases e : j = A2 + 1
        · exact e
        · rw [if_neg e] at hr; cases hr
      omega
    all_goals first
      | exact ⟨Own.nil _ _, fun k e => (by cases e), fun g i l e => (by have := hρ g _ e; cases this), fun n s e => (by simp at e)⟩
      | exact ⟨Own.nil _ _, fun k e => (by cases e), rfl, fun k u L h0 h1 => (by simp at h1)⟩
  have cA : ((w6.alloc (.cells #[.pointer (some ⟨R2, 0, none⟩), .pointer (some ⟨X2, 0, none⟩)] 40))).cell? ⟨A, 0, none⟩ = some (.pointer (some ⟨R1, 0, none⟩)) := by
    have q4 := Z4.out
    have q5 := Z5.out
    have q6 := Z6.out
    have c46 : Below w4.heap.size w4 (w6.alloc (.cells #[.pointer (some ⟨R2, 0, none⟩), .pointer (some ⟨X2, 0, none⟩)] 40)) := B5.out.trans ((B6.out.trans (((Below.refl w6.heap.size w6).alloc (Nat.le_refl _) _).mono (by omega))).mono (by omega))
    have R4' := R4.out
    rw [e3] at R4'
    rw [cell_of_row _ _ _ _ _ _ ((c46.block A (by omega)).trans R4')]
    rfl
  have cC : ((w6.alloc (.cells #[.pointer (some ⟨R2, 0, none⟩), .pointer (some ⟨X2, 0, none⟩)] 40))).cell? ⟨w6.heap.size, 0, none⟩ = some (.pointer (some ⟨R2, 0, none⟩)) := by rw [cell_of_row _ _ _ _ _ _ (heap_alloc_new w6 _)]; rfl
  clear H2 B2 Z2 H3 B3 Z3 R4 B4 Z4 H5 B5 Z5 H6 B6 Z6 hw4 B1
  have z7 := size_alloc w6 (.cells #[.pointer (some ⟨R2, 0, none⟩), .pointer (some ⟨X2, 0, none⟩)] 40)
  rw [e6] at z7
  rw [e6] at cC
  have HZ7 := hid z7
  have E6 := hid e6
  have E3 := hid e3
  go_wp2
  (try rw [HZ7.out])
  (try rw [E6.out])
  (try rw [E3.out])
  clear cA cC
  go_loopw [11] (fun i w' => ∃ k : Nat, k ≤ M ∧ i = .int .i64 (k : Int) ∧ Hid (LawR W w' R1 X1 A R2 X2 A2 (A2 + 1) k s1 s2)) (fun i _ => M - (intOf i).toNat)
  case atStart => exact ⟨0, by omega, rfl, L0⟩
  case round =>
    clear L0
    obtain ⟨k, hk, rfl, L⟩ := hrel
    have f0 : wr.cell? ⟨A, 0, none⟩ = some (.pointer (some ⟨R1, 0, none⟩)) := by rw [cell_of_row _ _ _ _ _ _ L.out.rA]; rfl
    have f1 : wr.cell? ⟨A, 1, none⟩ = some (.pointer (some ⟨X1, 0, none⟩)) := by rw [cell_of_row _ _ _ _ _ _ L.out.rA]; rfl
    by_cases hlt : k < M
    · have hlq : k < N := by omega
      have b0 : (k : Int) < (N : Int) := by omega
      have b1 : (k : Int) < 200 := by omega
      obtain ⟨x, o, kp, kd, nn, mm, s, lv, tv, hx, hxb, c0, c1, c2, c3, c4, c5, c6, c7, ok⟩ := Hp.out k hlq
      subst hx
      obtain ⟨la, ln, lc, hlv⟩ := sl_of ok.hl.choose_spec.1
      obtain ⟨ta, tn, tc, htv⟩ := slT_of ok.ht.choose_spec.1
      have hn2 := hid ok.n2
      subst hlv htv
      clear ok
      have Lp := hid (L.out.below (w' := (wr.alloc (.cells #[.pointer (some ⟨R1, 0, none⟩), .pointer (some ⟨X1, 0, none⟩)] 40))) ((Below.refl _ _).alloc (Nat.le_refl _) _))
      have q0 : (wr.alloc (.cells #[.pointer (some ⟨R1, 0, none⟩), .pointer (some ⟨X1, 0, none⟩)] 40)).cell? (x.add (k * 8)) = some (.bool o) := (Lp.out.bl.cell (p := x.add (k * 8)) (by rw [add_block]; exact hxb)).trans c0
      cases o with
      | false =>
        have q1 : (wr.alloc (.cells #[.pointer (some ⟨R1, 0, none⟩), .pointer (some ⟨X1, 0, none⟩)] 40)).cell? ⟨(x.add (k * 8)).block, (x.add (k * 8)).off + 1, none⟩ = some (.bool kp) := by
          show (wr.alloc (.cells #[.pointer (some ⟨R1, 0, none⟩), .pointer (some ⟨X1, 0, none⟩)] 40)).cell? ((x.add (k * 8)).add 1) = _
          rw [Go.Deep.add_add]; exact (Lp.out.bl.cell (p := x.add (k * 8 + 1)) (by rw [add_block]; exact hxb)).trans c1
        have q2 : (wr.alloc (.cells #[.pointer (some ⟨R1, 0, none⟩), .pointer (some ⟨X1, 0, none⟩)] 40)).cell? ⟨(x.add (k * 8)).block, (x.add (k * 8)).off + 2, none⟩ = some (.int .i64 kd) := by
          show (wr.alloc (.cells #[.pointer (some ⟨R1, 0, none⟩), .pointer (some ⟨X1, 0, none⟩)] 40)).cell? ((x.add (k * 8)).add 2) = _
          rw [Go.Deep.add_add]; exact (Lp.out.bl.cell (p := x.add (k * 8 + 2)) (by rw [add_block]; exact hxb)).trans c2
        have q3 : (wr.alloc (.cells #[.pointer (some ⟨R1, 0, none⟩), .pointer (some ⟨X1, 0, none⟩)] 40)).cell? ⟨(x.add (k * 8)).block, (x.add (k * 8)).off + 3, none⟩ = some (.int .i64 nn) := by
          show (wr.alloc (.cells #[.pointer (some ⟨R1, 0, none⟩), .pointer (some ⟨X1, 0, none⟩)] 40)).cell? ((x.add (k * 8)).add 3) = _
          rw [Go.Deep.add_add]; exact (Lp.out.bl.cell (p := x.add (k * 8 + 3)) (by rw [add_block]; exact hxb)).trans c3
        have q4 : (wr.alloc (.cells #[.pointer (some ⟨R1, 0, none⟩), .pointer (some ⟨X1, 0, none⟩)] 40)).cell? ⟨(x.add (k * 8)).block, (x.add (k * 8)).off + 4, none⟩ = some (.int .i64 mm) := by
          show (wr.alloc (.cells #[.pointer (some ⟨R1, 0, none⟩), .pointer (some ⟨X1, 0, none⟩)] 40)).cell? ((x.add (k * 8)).add 4) = _
          rw [Go.Deep.add_add]; exact (Lp.out.bl.cell (p := x.add (k * 8 + 4)) (by rw [add_block]; exact hxb)).trans c4
        have q5 : (wr.alloc (.cells #[.pointer (some ⟨R1, 0, none⟩), .pointer (some ⟨X1, 0, none⟩)] 40)).cell? ⟨(x.add (k * 8)).block, (x.add (k * 8)).off + 5, none⟩ = some (.string s) := by
          show (wr.alloc (.cells #[.pointer (some ⟨R1, 0, none⟩), .pointer (some ⟨X1, 0, none⟩)] 40)).cell? ((x.add (k * 8)).add 5) = _
          rw [Go.Deep.add_add]; exact (Lp.out.bl.cell (p := x.add (k * 8 + 5)) (by rw [add_block]; exact hxb)).trans c5
        have q6 : (wr.alloc (.cells #[.pointer (some ⟨R1, 0, none⟩), .pointer (some ⟨X1, 0, none⟩)] 40)).cell? ⟨(x.add (k * 8)).block, (x.add (k * 8)).off + 6, none⟩ = some (.slice la ln lc) := by
          show (wr.alloc (.cells #[.pointer (some ⟨R1, 0, none⟩), .pointer (some ⟨X1, 0, none⟩)] 40)).cell? ((x.add (k * 8)).add 6) = _
          rw [Go.Deep.add_add]; exact (Lp.out.bl.cell (p := x.add (k * 8 + 6)) (by rw [add_block]; exact hxb)).trans c6
        have q7 : (wr.alloc (.cells #[.pointer (some ⟨R1, 0, none⟩), .pointer (some ⟨X1, 0, none⟩)] 40)).cell? ⟨(x.add (k * 8)).block, (x.add (k * 8)).off + 7, none⟩ = some (.slice ta tn tc) := by
          show (wr.alloc (.cells #[.pointer (some ⟨R1, 0, none⟩), .pointer (some ⟨X1, 0, none⟩)] 40)).cell? ((x.add (k * 8)).add 7) = _
          rw [Go.Deep.add_add]; exact (Lp.out.bl.cell (p := x.add (k * 8 + 7)) (by rw [add_block]; exact hxb)).trans c7
        clear c0 c1 c2 c3 c4 c5 c6 c7
        have p0 : (wr.alloc (.cells #[.pointer (some ⟨R1, 0, none⟩), .pointer (some ⟨X1, 0, none⟩)] 40)).cell? ⟨wr.heap.size, 0, none⟩ = some (.pointer (some ⟨R1, 0, none⟩)) := by rw [cell_of_row _ _ _ _ _ _ (heap_alloc_new wr _)]; rfl
        have p1 : (wr.alloc (.cells #[.pointer (some ⟨R1, 0, none⟩), .pointer (some ⟨X1, 0, none⟩)] 40)).cell? ⟨wr.heap.size, 1, none⟩ = some (.pointer (some ⟨X1, 0, none⟩)) := by rw [cell_of_row _ _ _ _ _ _ (heap_alloc_new wr _)]; rfl
        have Lpd := hid (Lp.out.below (w' := (wr.alloc (.cells #[.pointer (some ⟨R1, 0, none⟩), .pointer (some ⟨X1, 0, none⟩)] 40)).drew) (Below.refl _ _).drew)
        have HST := hid (Lpd.out.stepA (by omega) false kp kd nn mm s la ta ln lc tn tc hn2.out)
        go_wp2
        go_region_with ((go_at_call 14; refine HST.out.mono ?_; rintro z w8 ⟨rfl, h8⟩; have P8 := hid h8; clear h8))
        all_goals go_wp2
        all_goals exact ⟨⟨k + 1, by omega, by go_num, P8⟩, by simp [intOf]; omega⟩
      | true =>
        have d0 : (wr.alloc (.cells #[.pointer (some ⟨R1, 0, none⟩), .pointer (some ⟨X1, 0, none⟩)] 40)).cell? ⟨A2, 0, none⟩ = some (.pointer (some ⟨R2, 0, none⟩)) := by rw [cell_of_row _ _ _ _ _ _ Lp.out.rA2]; rfl
        have d1 : (wr.alloc (.cells #[.pointer (some ⟨R1, 0, none⟩), .pointer (some ⟨X1, 0, none⟩)] 40)).cell? ⟨A2, 1, none⟩ = some (.pointer (some ⟨X2, 0, none⟩)) := by rw [cell_of_row _ _ _ _ _ _ Lp.out.rA2]; rfl
        have Lq := hid (L.out.below (w' := (wr.alloc (.cells #[.pointer (some ⟨R2, 0, none⟩), .pointer (some ⟨X2, 0, none⟩)] 40))) ((Below.refl _ _).alloc (Nat.le_refl _) _))
        have r0 : (wr.alloc (.cells #[.pointer (some ⟨R2, 0, none⟩), .pointer (some ⟨X2, 0, none⟩)] 40)).cell? ⟨wr.heap.size, 0, none⟩ = some (.pointer (some ⟨R2, 0, none⟩)) := by rw [cell_of_row _ _ _ _ _ _ (heap_alloc_new wr _)]; rfl
        have r1 : (wr.alloc (.cells #[.pointer (some ⟨R2, 0, none⟩), .pointer (some ⟨X2, 0, none⟩)] 40)).cell? ⟨wr.heap.size, 1, none⟩ = some (.pointer (some ⟨X2, 0, none⟩)) := by rw [cell_of_row _ _ _ _ _ _ (heap_alloc_new wr _)]; rfl
        have Lqd := hid (Lq.out.below (w' := (wr.alloc (.cells #[.pointer (some ⟨R2, 0, none⟩), .pointer (some ⟨X2, 0, none⟩)] 40)).drew) (Below.refl _ _).drew)
        have HST := hid (Lqd.out.stepC (by omega) true kp kd nn mm s la ta ln lc tn tc hn2.out)
        have q0c : (wr.alloc (.cells #[.pointer (some ⟨R2, 0, none⟩), .pointer (some ⟨X2, 0, none⟩)] 40)).cell? (x.add (k * 8)) = some (.bool true) := (Lq.out.bl.cell (p := x.add (k * 8)) (by rw [add_block]; exact hxb)).trans c0
        have q1c : (wr.alloc (.cells #[.pointer (some ⟨R2, 0, none⟩), .pointer (some ⟨X2, 0, none⟩)] 40)).cell? ⟨(x.add (k * 8)).block, (x.add (k * 8)).off + 1, none⟩ = some (.bool kp) := by
          show (wr.alloc (.cells #[.pointer (some ⟨R2, 0, none⟩), .pointer (some ⟨X2, 0, none⟩)] 40)).cell? ((x.add (k * 8)).add 1) = _
          rw [Go.Deep.add_add]; exact (Lq.out.bl.cell (p := x.add (k * 8 + 1)) (by rw [add_block]; exact hxb)).trans c1
        have q2c : (wr.alloc (.cells #[.pointer (some ⟨R2, 0, none⟩), .pointer (some ⟨X2, 0, none⟩)] 40)).cell? ⟨(x.add (k * 8)).block, (x.add (k * 8)).off + 2, none⟩ = some (.int .i64 kd) := by
          show (wr.alloc (.cells #[.pointer (some ⟨R2, 0, none⟩), .pointer (some ⟨X2, 0, none⟩)] 40)).cell? ((x.add (k * 8)).add 2) = _
          rw [Go.Deep.add_add]; exact (Lq.out.bl.cell (p := x.add (k * 8 + 2)) (by rw [add_block]; exact hxb)).trans c2
        have q3c : (wr.alloc (.cells #[.pointer (some ⟨R2, 0, none⟩), .pointer (some ⟨X2, 0, none⟩)] 40)).cell? ⟨(x.add (k * 8)).block, (x.add (k * 8)).off + 3, none⟩ = some (.int .i64 nn) := by
          show (wr.alloc (.cells #[.pointer (some ⟨R2, 0, none⟩), .pointer (some ⟨X2, 0, none⟩)] 40)).cell? ((x.add (k * 8)).add 3) = _
          rw [Go.Deep.add_add]; exact (Lq.out.bl.cell (p := x.add (k * 8 + 3)) (by rw [add_block]; exact hxb)).trans c3
        have q4c : (wr.alloc (.cells #[.pointer (some ⟨R2, 0, none⟩), .pointer (some ⟨X2, 0, none⟩)] 40)).cell? ⟨(x.add (k * 8)).block, (x.add (k * 8)).off + 4, none⟩ = some (.int .i64 mm) := by
          show (wr.alloc (.cells #[.pointer (some ⟨R2, 0, none⟩), .pointer (some ⟨X2, 0, none⟩)] 40)).cell? ((x.add (k * 8)).add 4) = _
          rw [Go.Deep.add_add]; exact (Lq.out.bl.cell (p := x.add (k * 8 + 4)) (by rw [add_block]; exact hxb)).trans c4
        have q5c : (wr.alloc (.cells #[.pointer (some ⟨R2, 0, none⟩), .pointer (some ⟨X2, 0, none⟩)] 40)).cell? ⟨(x.add (k * 8)).block, (x.add (k * 8)).off + 5, none⟩ = some (.string s) := by
          show (wr.alloc (.cells #[.pointer (some ⟨R2, 0, none⟩), .pointer (some ⟨X2, 0, none⟩)] 40)).cell? ((x.add (k * 8)).add 5) = _
          rw [Go.Deep.add_add]; exact (Lq.out.bl.cell (p := x.add (k * 8 + 5)) (by rw [add_block]; exact hxb)).trans c5
        have q6c : (wr.alloc (.cells #[.pointer (some ⟨R2, 0, none⟩), .pointer (some ⟨X2, 0, none⟩)] 40)).cell? ⟨(x.add (k * 8)).block, (x.add (k * 8)).off + 6, none⟩ = some (.slice la ln lc) := by
          show (wr.alloc (.cells #[.pointer (some ⟨R2, 0, none⟩), .pointer (some ⟨X2, 0, none⟩)] 40)).cell? ((x.add (k * 8)).add 6) = _
          rw [Go.Deep.add_add]; exact (Lq.out.bl.cell (p := x.add (k * 8 + 6)) (by rw [add_block]; exact hxb)).trans c6
        have q7c : (wr.alloc (.cells #[.pointer (some ⟨R2, 0, none⟩), .pointer (some ⟨X2, 0, none⟩)] 40)).cell? ⟨(x.add (k * 8)).block, (x.add (k * 8)).off + 7, none⟩ = some (.slice ta tn tc) := by
          show (wr.alloc (.cells #[.pointer (some ⟨R2, 0, none⟩), .pointer (some ⟨X2, 0, none⟩)] 40)).cell? ((x.add (k * 8)).add 7) = _
          rw [Go.Deep.add_add]; exact (Lq.out.bl.cell (p := x.add (k * 8 + 7)) (by rw [add_block]; exact hxb)).trans c7
        clear c0 c1 c2 c3 c4 c5 c6 c7
        go_wp2
        go_region_with ((go_at_call 14; refine HST.out.mono ?_; rintro z w8 ⟨rfl, h8⟩; have P8 := hid h8; clear h8))
        all_goals go_wp2
        all_goals exact ⟨⟨k + 1, by omega, by go_num, P8⟩, by simp [intOf]; omega⟩
    · obtain rfl : k = M := by omega
      have g0 : wr.cell? ⟨A2, 0, none⟩ = some (.pointer (some ⟨R2, 0, none⟩)) := by rw [cell_of_row _ _ _ _ _ _ L.out.rA2]; rfl
      have g1 : wr.cell? ⟨A2, 1, none⟩ = some (.pointer (some ⟨X2, 0, none⟩)) := by rw [cell_of_row _ _ _ _ _ _ L.out.rA2]; rfl
      obtain ⟨st1, st2, ρ, S, a1, a2, a3, a4, a5, a6⟩ := L.out.st
      have hA2 := hid (lt_of_heap L.out.rA2)
      have HR := hid a3
      have HX := hid a4
      have HBk := hid a5
      have HG := hid a6
      have hXW := hid (show W.heap.size ≤ A2 + 1 by obtain ⟨o0, o1, o2, o3, o4, o5, o6, o7⟩ := L.out.ord; omega)
      clear a1 a2 a3 a4 a5 a6
      obtain ⟨dn, hdn⟩ : ∃ d, st2.done = d := ⟨_, rfl⟩
      obtain ⟨tk, htk⟩ : ∃ d : Int, (st2.taken : Int) = d := ⟨_, rfl⟩
      have hD1 := rDone_any R2 st2 wr L.out.lay HR.out
      have hD2 := fun w' (h : XRd w' X2 s2 st2) => xDone_any X2 s2 st2 w' h
      rw [hdn, htk] at hD1 hD2
      have y1 : (dn == dn) = true := by simp
      have y2 : (tk == tk) = true := by simp
      clear hdn htk
      by_cases he2 : (k : Int) < (N : Int)
      · have he3 : ¬ (k : Int) < 200 := by omega
        go_wp2_with (go_at_call 11; fail)
        refine hD1.mono ?_
        rintro z we ⟨rfl, hwe⟩
        have HXe := hid (HX.out.below hwe)
        have HBe := hid (HBk.out.below hwe)
        have Be := hid (L.out.bl.trans (hwe.mono L.out.bl.size))
        have g1e := (hwe.cell (p := ⟨A2, 1, none⟩) hA2.out).trans g1
        clear hwe hD1 HX HBk HR
        go_wp2_with (go_at_call 15; fail)
        refine (hD2 we HXe.out).mono ?_
        rintro z wf ⟨rfl, hwf⟩
        have HBf := hid (HBe.out.below hwf)
        have Bf := hid (Be.out.trans (hwf.mono Be.out.size))
        clear hwf hD2 HXe HBe Be
        obtain ⟨i, j, n1, n2, n3, n4, n5, n6, n7, n8, n9⟩ := HG.out
        have hset := settled_any (A2 + 1) i j ρ S wf HBf.out n6 n7 n1 n2 n3 n4 n8 n9 (by omega) (by omega)
        clear n1 n2 n3 n4 n5 n6 n7 n8 n9
        go_wp2_with (go_at_call 16; fail)
        refine hset.mono ?_
        rintro z wg ⟨rfl, hwg⟩
        have Bg := hid (Bf.out.trans (hwg.mono hXW.out))
        clear hwg hset HBf Bf
        go_wp2
        go_ret
        exact ⟨rfl, Bg.out⟩
      · have he3 := he2
        go_wp2_with (go_at_call 11; fail)
        refine hD1.mono ?_
        rintro z we ⟨rfl, hwe⟩
        have HXe := hid (HX.out.below hwe)
        have HBe := hid (HBk.out.below hwe)
        have Be := hid (L.out.bl.trans (hwe.mono L.out.bl.size))
        have g1e := (hwe.cell (p := ⟨A2, 1, none⟩) hA2.out).trans g1
        clear hwe hD1 HX HBk HR
        go_wp2_with (go_at_call 15; fail)
        refine (hD2 we HXe.out).mono ?_
        rintro z wf ⟨rfl, hwf⟩
        have HBf := hid (HBe.out.below hwf)
        have Bf := hid (Be.out.trans (hwf.mono Be.out.size))
        clear hwf hD2 HXe HBe Be
        obtain ⟨i, j, n1, n2, n3, n4, n5, n6, n7, n8, n9⟩ := HG.out
        have hset := settled_any (A2 + 1) i j ρ S wf HBf.out n6 n7 n1 n2 n3 n4 n8 n9 (by omega) (by omega)
        clear n1 n2 n3 n4 n5 n6 n7 n8 n9
        go_wp2_with (go_at_call 16; fail)
        refine hset.mono ?_
        rintro z wg ⟨rfl, hwg⟩
        have Bg := hid (Bf.out.trans (hwg.mono hXW.out))
        clear hwg hset HBf Bf
        go_wp2
        go_ret
        exact ⟨rfl, Bg.out⟩
end Go.Proofs.YtonmhimoglgbgaaDoor
