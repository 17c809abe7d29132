import Derived.Test.YtkpfpfjjkcefkaaCDV7
namespace Go.Proofs.Ytkpfpfjjkcefkaa
open Go.RowKit Go.Maps

/-- the world behind Write's three boxes -/
abbrev boxed (a : Nat) (n : Int) (s : ByteArray) (w : World) : World :=
  ((w.alloc (.cells #[.pointer (some ⟨a, 0, none⟩)] 23)).alloc (.cells #[.int .i64 n] 3)).alloc (.cells #[.string s] 9)
theorem boxed_facts (a : Nat) (n : Int) (s : ByteArray) (w : World) : Below w.heap.size w (boxed a n s w) ∧ (boxed a n s w).heap.size = w.heap.size + 3 ∧ (boxed a n s w).cell? ⟨w.heap.size, 0, none⟩ = some (.pointer (some ⟨a, 0, none⟩)) ∧
    (boxed a n s w).cell? ⟨w.heap.size + 1, 0, none⟩ = some (.int .i64 n) ∧ (boxed a n s w).cell? ⟨w.heap.size + 2, 0, none⟩ = some (.string s) := by
  unfold boxed
  have b1 : Below w.heap.size w (w.alloc (.cells #[.pointer (some ⟨a, 0, none⟩)] 23)) := (Below.refl _ _).alloc (Nat.le_refl _) _
  have r1 := heap_alloc_new w (.cells #[.pointer (some ⟨a, 0, none⟩)] 23)
  have s1 := size_alloc w (.cells #[.pointer (some ⟨a, 0, none⟩)] 23)
  generalize w.alloc (.cells #[.pointer (some ⟨a, 0, none⟩)] 23) = w1 at *
  have b2 : Below w1.heap.size w1 (w1.alloc (.cells #[.int .i64 n] 3)) := (Below.refl _ _).alloc (Nat.le_refl _) _
  have r2 := heap_alloc_new w1 (.cells #[.int .i64 n] 3)
  have s2 := size_alloc w1 (.cells #[.int .i64 n] 3)
  generalize w1.alloc (.cells #[.int .i64 n] 3) = w2 at *
  have b3 : Below w2.heap.size w2 (w2.alloc (.cells #[.string s] 9)) := (Below.refl _ _).alloc (Nat.le_refl _) _
  have r3 := heap_alloc_new w2 (.cells #[.string s] 9)
  have s3 := size_alloc w2 (.cells #[.string s] 9)
  generalize w2.alloc (.cells #[.string s] 9) = w3 at *
  rw [s1] at r2
  rw [s2, s1] at r3
  have e1 : w.heap.size ≤ w1.heap.size := by omega
  have e2 : w.heap.size ≤ w2.heap.size := by omega
  refine ⟨(b1.trans (b2.mono e1)).trans (b3.mono e2), by omega, ?_, ?_, ?_⟩
  · rw [b3.cell (p := ⟨w.heap.size, 0, none⟩) (by show w.heap.size < _; omega), b2.cell (p := ⟨w.heap.size, 0, none⟩) (by show w.heap.size < _; omega), cell_of_row _ _ _ _ _ _ r1]; rfl
  · rw [b3.cell (p := ⟨w.heap.size + 1, 0, none⟩) (by show w.heap.size + 1 < _; omega), cell_of_row _ _ _ _ _ _ r2]; rfl
  · rw [cell_of_row _ _ _ _ _ _ r3]; rfl
set_option maxRecDepth 100000 in
set_option maxHeartbeats 1000000 in
theorem dWrite_dead {w : World} {a g b : Nat} {L : List (List UInt8)} {p : Nat → Option (List UInt8)} {left : Nat} (h : Dv w a g b L p left true) (n : Int) (s : ByteArray) :
    Calls Try.prog 20 #[.pointer (some ⟨a, 0, none⟩), .int .i64 n, .string s] w fun r w' => r = .returned (.int .i64 2) ∧ Below w.heap.size w w' := by
  obtain ⟨b1, z1, c1, c2, c3⟩ := boxed_facts a n s w
  obtain ⟨w1, hw1⟩ : ∃ w1, boxed a n s w = w1 := ⟨_, rfl⟩
  rw [hw1] at b1 z1 c1 c2 c3
  have i1 := dDead (h.below b1 (Nat.le_refl _))
  have B1 := hid b1
  clear h b1
  go_enter Try.func20, Try.ntmps20
  go_wp2_with (first
    | (go_at_call 14; refine i1.mono ?_; rintro r w9 ⟨rfl, hw9⟩; replace hw9 := hw9.symm; subst hw9))
  go_ret
  exact ⟨rfl, B1.out⟩
set_option maxRecDepth 100000 in
set_option maxHeartbeats 1000000 in
theorem dWrite_page {w : World} {a g b : Nat} {L : List (List UInt8)} {p : Nat → Option (List UInt8)} {left : Nat} (h : Dv w a g b L p left false) (n : Int) (s : ByteArray) (hn : ¬ (0 ≤ n ∧ n < (L.length : Int))) :
    Calls Try.prog 20 #[.pointer (some ⟨a, 0, none⟩), .int .i64 n, .string s] w fun r w' => r = .returned (.int .i64 90) ∧ Below w.heap.size w w' := by
  obtain ⟨b1, z1, c1, c2, c3⟩ := boxed_facts a n s w
  obtain ⟨w1, hw1⟩ : ∃ w1, boxed a n s w = w1 := ⟨_, rfl⟩
  rw [hw1] at b1 z1 c1 c2 c3
  have i1 := dDead (h.below b1 (Nat.le_refl _))
  have i2 := dHas (h.below b1 (Nat.le_refl _)) n
  rw [decide_eq_false hn] at i2
  have B1 := hid b1
  clear h b1 hn
  go_enter Try.func20, Try.ntmps20
  go_wp2_with (first
    | (go_at_call 14; refine i1.mono ?_; rintro r w9 ⟨rfl, hw9⟩; replace hw9 := hw9.symm; subst hw9)
    | (go_at_call 40; refine i2.mono ?_; rintro r w9 ⟨rfl, hw9⟩; replace hw9 := hw9.symm; subst hw9))
  go_ret
  exact ⟨rfl, B1.out⟩
set_option maxRecDepth 100000 in
set_option maxHeartbeats 1000000 in
theorem dWrite_size {w : World} {a g b : Nat} {L : List (List UInt8)} {p : Nat → Option (List UInt8)} {left : Nat} (h : Dv w a g b L p left false) (n : Nat) (s : ByteArray) (hn : n < L.length) (hs : s.size ≠ 256) :
    Calls Try.prog 20 #[.pointer (some ⟨a, 0, none⟩), .int .i64 (n : Int), .string s] w fun r w' => r = .returned (.int .i64 91) ∧ Below w.heap.size w w' := by
  obtain ⟨b1, z1, c1, c2, c3⟩ := boxed_facts a (n : Int) s w
  obtain ⟨w1, hw1⟩ : ∃ w1, boxed a (n : Int) s w = w1 := ⟨_, rfl⟩
  rw [hw1] at b1 z1 c1 c2 c3
  have i1 := dDead (h.below b1 (Nat.le_refl _))
  have i2 := dHas (h.below b1 (Nat.le_refl _)) (n : Int)
  rw [decide_eq_true (by omega)] at i2
  have i3 := isNoPage_any s w1
  rw [decide_eq_true hs] at i3
  have B1 := hid b1
  clear h b1 hn hs
  go_enter Try.func20, Try.ntmps20
  go_wp2_with (first
    | (go_at_call 14; refine i1.mono ?_; rintro r w9 ⟨rfl, hw9⟩; replace hw9 := hw9.symm; subst hw9)
    | (go_at_call 40; refine i2.mono ?_; rintro r w9 ⟨rfl, hw9⟩; replace hw9 := hw9.symm; subst hw9)
    | (go_at_call 32; refine i3.mono ?_; rintro r w9 ⟨rfl, hw9⟩; replace hw9 := hw9.symm; subst hw9))
  go_ret
  exact ⟨rfl, B1.out⟩
set_option maxRecDepth 100000 in
set_option maxHeartbeats 1000000 in
theorem dWrite_dies {w : World} {a g b : Nat} {L : List (List UInt8)} {p : Nat → Option (List UInt8)} (h : Dv w a g b L p 1 false) (n : Nat) (s : List UInt8) (hn : n < L.length) (hs : s.length = 256) :
    Calls Try.prog 20 #[.pointer (some ⟨a, 0, none⟩), .int .i64 (n : Int), .string ⟨s.toArray⟩] w fun r w' => r = .returned (.int .i64 2) ∧ Dv w' a g b L p 0 true ∧ Kp a g b w w' := by
  obtain ⟨b1, z1, c1, c2, c3⟩ := boxed_facts a (n : Int) ⟨s.toArray⟩ w
  obtain ⟨w1, hw1⟩ : ∃ w1, boxed a (n : Int) ⟨s.toArray⟩ w = w1 := ⟨_, rfl⟩
  rw [hw1] at b1 z1 c1 c2 c3
  have h1 := h.below b1 (Nat.le_refl _)
  have i1 := dDead h1
  have i2 := dHas h1 (n : Int)
  rw [decide_eq_true (by omega)] at i2
  have i3 := isNoPage_any ⟨s.toArray⟩ w1
  rw [decide_eq_false (by rw [sv_size, hs]; simp)] at i3
  have i4 := fun fv => act_dies h1 fv
  have hmf : ∀ (fn : Fn) (first cap : Array Value) (w : World), (Instr.makeFunc fn first cap).run Try.prog w = .ok (.func fn first cap) w := fun _ _ _ _ => rfl
  have B1 := hid b1
  clear h h1 b1 hn hs
  go_enter Try.func20, Try.ntmps20
  go_wp2_with (first
    | (go_at_call 14; refine i1.mono ?_; rintro r w9 ⟨rfl, hw9⟩; replace hw9 := hw9.symm; subst hw9)
    | (go_at_call 40; refine i2.mono ?_; rintro r w9 ⟨rfl, hw9⟩; replace hw9 := hw9.symm; subst hw9)
    | (go_at_call 32; refine i3.mono ?_; rintro r w9 ⟨rfl, hw9⟩; replace hw9 := hw9.symm; subst hw9)
    | (go_at_call 37; refine (i4 _).mono ?_; rintro r w2 ⟨rfl, hD, hK⟩))
  go_ret
  exact ⟨rfl, hD, (Kp.ofBelow B1.out).trans hK⟩
set_option maxRecDepth 100000 in
set_option maxHeartbeats 1000000 in
theorem dWrite_ok {w : World} {a g b : Nat} {L : List (List UInt8)} {p : Nat → Option (List UInt8)} {left : Nat} (h : Dv w a g b L p left false) (hl : left ≠ 1) (n : Nat) (s : List UInt8) (hn : n < L.length) (hs : s.length = 256) :
    Calls Try.prog 20 #[.pointer (some ⟨a, 0, none⟩), .int .i64 (n : Int), .string ⟨s.toArray⟩] w fun r w' => r = .returned (.int .i64 0) ∧ Dv w' a g b L (upd p n s) (left - 1) false ∧ Kp a g b w w' := by
  obtain ⟨b1, z1, c1, c2, c3⟩ := boxed_facts a (n : Int) ⟨s.toArray⟩ w
  obtain ⟨w1, hw1⟩ : ∃ w1, boxed a (n : Int) ⟨s.toArray⟩ w = w1 := ⟨_, rfl⟩
  rw [hw1] at b1 z1 c1 c2 c3
  have h1 := h.below b1 (Nat.le_refl _)
  have i1 := dDead h1
  have i2 := dHas h1 (n : Int)
  rw [decide_eq_true (by omega)] at i2
  have i3 := isNoPage_any ⟨s.toArray⟩ w1
  rw [decide_eq_false (by rw [sv_size, hs]; simp)] at i3
  have bA : Below w1.heap.size w1 (inAct a w1) := (Below.refl _ _).alloc (Nat.le_refl _) _
  have i4 := act_ok h1 hl 41 #[.pointer (some ⟨w.heap.size + 1, 0, none⟩), .pointer (some ⟨w.heap.size + 2, 0, none⟩), .pointer (some ⟨w.heap.size, 0, none⟩)] (L' := L) (p' := upd p n s)
    (enters_of Try.func41 (by kernel_rfl) rfl)
    (write1 (h1.below bA (Nat.le_refl _)) hn hs ((bA.cell (p := ⟨w.heap.size + 1, 0, none⟩) (by show w.heap.size + 1 < _; omega)).trans c2) ((bA.cell (p := ⟨w.heap.size + 2, 0, none⟩) (by show w.heap.size + 2 < _; omega)).trans c3)
      ((bA.cell (p := ⟨w.heap.size, 0, none⟩) (by show w.heap.size < _; omega)).trans c1))
  have hmf : ∀ (fn : Fn) (first cap : Array Value) (w : World), (Instr.makeFunc fn first cap).run Try.prog w = .ok (.func fn first cap) w := fun _ _ _ _ => rfl
  have B1 := hid b1
  clear h h1 b1 hn hs hl
  go_enter Try.func20, Try.ntmps20
  go_wp2_with (first
    | (go_at_call 14; refine i1.mono ?_; rintro r w9 ⟨rfl, hw9⟩; replace hw9 := hw9.symm; subst hw9)
    | (go_at_call 40; refine i2.mono ?_; rintro r w9 ⟨rfl, hw9⟩; replace hw9 := hw9.symm; subst hw9)
    | (go_at_call 32; refine i3.mono ?_; rintro r w9 ⟨rfl, hw9⟩; replace hw9 := hw9.symm; subst hw9)
    | (go_at_call 37; refine i4.mono ?_; rintro r w2 ⟨rfl, hD, hK⟩))
  go_ret
  exact ⟨rfl, hD, (Kp.ofBelow B1.out).trans hK⟩
end Go.Proofs.Ytkpfpfjjkcefkaa
