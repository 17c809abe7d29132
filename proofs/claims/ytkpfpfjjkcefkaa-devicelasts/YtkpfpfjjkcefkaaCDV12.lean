import Derived.Test.YtkpfpfjjkcefkaaCDV11
namespace Go.Proofs.Ytkpfpfjjkcefkaa
open Go.RowKit Go.Maps

theorem box1 (a : Nat) (w : World) : Below w.heap.size w (inAct a w) ∧ (inAct a w).heap.size = w.heap.size + 1 ∧ (inAct a w).cell? ⟨w.heap.size, 0, none⟩ = some (.pointer (some ⟨a, 0, none⟩)) := by
  refine ⟨(Below.refl _ _).alloc (Nat.le_refl _) _, size_alloc _ _, ?_⟩
  rw [cell_of_row _ _ _ _ _ _ (heap_alloc_new w _)]; rfl
set_option maxRecDepth 100000 in
set_option maxHeartbeats 1000000 in
theorem dFlush_dead {w : World} {a g b : Nat} {L : List (List UInt8)} {p : Nat → Option (List UInt8)} {left : Nat} (h : Dv w a g b L p left true) :
    Calls Try.prog 19 #[.pointer (some ⟨a, 0, none⟩)] w fun r w' => r = .returned (.int .i64 2) ∧ Below w.heap.size w w' := by
  obtain ⟨b1, z1, c1⟩ := box1 a w
  obtain ⟨w1, hw1⟩ : ∃ w1, inAct a w = w1 := ⟨_, rfl⟩
  rw [hw1] at b1 z1 c1
  have i1 := dDead (h.below b1 (Nat.le_refl _))
  have B1 := hid b1
  clear h b1
  go_enter Try.func19, Try.ntmps19
  go_wp2_with (go_at_call 14; refine i1.mono ?_; rintro r w9 ⟨rfl, hw9⟩; replace hw9 := hw9.symm; subst hw9)
  go_ret
  exact ⟨rfl, B1.out⟩
set_option maxRecDepth 100000 in
set_option maxHeartbeats 1000000 in
theorem dFlush_dies {w : World} {a g b : Nat} {L : List (List UInt8)} {p : Nat → Option (List UInt8)} (h : Dv w a g b L p 1 false) :
    Calls Try.prog 19 #[.pointer (some ⟨a, 0, none⟩)] w fun r w' => r = .returned (.int .i64 2) ∧ Dv w' a g b L p 0 true ∧ Kp a g b w w' := by
  obtain ⟨b1, z1, c1⟩ := box1 a w
  obtain ⟨w1, hw1⟩ : ∃ w1, inAct a w = w1 := ⟨_, rfl⟩
  rw [hw1] at b1 z1 c1
  have h1 := h.below b1 (Nat.le_refl _)
  have i1 := dDead h1
  have i4 := fun fv => act_dies h1 fv
  have hmf : ∀ (fn : Fn) (first cap : Array Value) (w : World), (Instr.makeFunc fn first cap).run Try.prog w = .ok (.func fn first cap) w := fun _ _ _ _ => rfl
  have B1 := hid b1
  clear h h1 b1
  go_enter Try.func19, Try.ntmps19
  go_wp2_with (first
    | (go_at_call 14; refine i1.mono ?_; rintro r w9 ⟨rfl, hw9⟩; replace hw9 := hw9.symm; subst hw9)
    | (go_at_call 37; refine (i4 _).mono ?_; rintro r w2 ⟨rfl, hD, hK⟩))
  go_ret
  exact ⟨rfl, hD, (Kp.ofBelow B1.out).trans hK⟩
set_option maxRecDepth 100000 in
set_option maxHeartbeats 1000000 in
theorem dFlush_ok {w : World} {a g b : Nat} {L : List (List UInt8)} {p : Nat → Option (List UInt8)} {left : Nat} (h : Dv w a g b L p left false) (hl : left ≠ 1) :
    Calls Try.prog 19 #[.pointer (some ⟨a, 0, none⟩)] w fun r w' => r = .returned (.int .i64 0) ∧ Dv w' a g b (stL L (tks L.length p fun _ => 256)) (fun _ => none) (left - 1) false ∧ Kp a g b w w' := by
  obtain ⟨b1, z1, c1⟩ := box1 a w
  have hal := h.al
  have hgl := h.gl
  have hbl := h.bl
  obtain ⟨w1, hw1⟩ : ∃ w1, inAct a w = w1 := ⟨_, rfl⟩
  rw [hw1] at b1 z1 c1
  have h1 := h.below b1 (Nat.le_refl _)
  have i1 := dDead h1
  have bA : Below w1.heap.size w1 (inAct a w1) := (Below.refl _ _).alloc (Nat.le_refl _) _
  have i4 := act_ok h1 hl 38 #[.pointer (some ⟨w.heap.size, 0, none⟩)] (L' := stL L (tks L.length p fun _ => 256)) (p' := fun _ => none)
    (enters_of Try.func38 (by kernel_rfl) rfl)
    (flush1 (h1.below bA (Nat.le_refl _)) ((bA.cell (p := ⟨w.heap.size, 0, none⟩) (by show w.heap.size < _; omega)).trans c1) (by omega) (by omega) (by omega))
  have hmf : ∀ (fn : Fn) (first cap : Array Value) (w : World), (Instr.makeFunc fn first cap).run Try.prog w = .ok (.func fn first cap) w := fun _ _ _ _ => rfl
  have B1 := hid b1
  clear h h1 b1 hl bA hal hgl hbl
  go_enter Try.func19, Try.ntmps19
  go_wp2_with (first
    | (go_at_call 14; refine i1.mono ?_; rintro r w9 ⟨rfl, hw9⟩; replace hw9 := hw9.symm; subst hw9)
    | (go_at_call 37; refine i4.mono ?_; rintro r w2 ⟨rfl, hD, hK⟩))
  go_ret
  exact ⟨rfl, hD, (Kp.ofBelow B1.out).trans hK⟩
end Go.Proofs.Ytkpfpfjjkcefkaa
