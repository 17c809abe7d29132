import Derived.Test.YtkpfpfjjkcefkaaCDV5
import Derived.Defers
namespace Go.Proofs.Ytkpfpfjjkcefkaa
open Go.RowKit Go.Maps

set_option maxRecDepth 100000 in
set_option maxHeartbeats 1000000 in
theorem act1_idle {w : World} {q a g b : Nat} {L : List (List UInt8)} {p : Nat → Option (List UInt8)} {dead : Bool} (hq : w.cell? ⟨q, 0, none⟩ = some (.pointer (some ⟨a, 0, none⟩))) (h : Dv w a g b L p 0 dead) (u : FrameMode) :
    CallsD Try.prog 65 #[.pointer (some ⟨q, 0, none⟩)] u w fun e u' w' => u' = u ∧ (e = .returned (.tuple #[]) ∧ w' = w) := by
  obtain ⟨cap', k1, k2, c0, c1, c2, c3⟩ := h.c0
  clear h
  go_enter_d Try.func65, Try.ntmps65
  go_wp2
  go_end0
  exact ⟨rfl, rfl⟩
theorem Kp.drew {a g b : Nat} {w w' : World} (h : Kp a g b w w') : Kp a g b w w'.drew := ⟨h.os, h.tape, h.output, h.size, h.block⟩
theorem Dv.counted {w : World} {a g b : Nat} {L : List (List UInt8)} {p : Nat → Option (List UInt8)} {n : Nat} {dead : Bool} (h : Dv w a g b L p (n + 1) dead) (d : Bool) (hd : d = decide (n = 0)) :
    Dv ((w.setCell ⟨a, 2, none⟩ (.int .i64 (n : Int))).drew.setCell ⟨a, 3, none⟩ (.bool d)) a g b L p n (decide (n = 0)) := by
  have h1 := h.setLeft n (by have := h.lf; omega)
  have h2 : Dv (w.setCell ⟨a, 2, none⟩ (.int .i64 (n : Int))).drew a g b L p n dead := h1.below (B := (w.setCell ⟨a, 2, none⟩ (.int .i64 (n : Int))).heap.size) (Below.refl _ _).drew (Nat.le_refl _)
  rw [← hd]
  exact h2.setDead d
set_option maxRecDepth 100000 in
set_option maxHeartbeats 1000000 in
theorem act1_count {w : World} {q a g b : Nat} {L : List (List UInt8)} {p : Nat → Option (List UInt8)} {n : Nat} {dead : Bool} (hq : w.cell? ⟨q, 0, none⟩ = some (.pointer (some ⟨a, 0, none⟩))) (hqa : q ≠ a) (h : Dv w a g b L p (n + 1) dead) (u : FrameMode) :
    CallsD Try.prog 65 #[.pointer (some ⟨q, 0, none⟩)] u w fun e u' w' => u' = u ∧ (e = .returned (.tuple #[]) ∧ (Dv w' a g b L p n (decide (n = 0)) ∧ Kp a g b w w')) := by
  obtain ⟨cap', k1, k2, c0, c1, c2, c3⟩ := h.c0
  obtain ⟨cap, h1, _, _⟩ := h.row
  have f2 : w.frozen? ⟨a, 2, none⟩ = false := frozen_of_row _ _ _ _ _ h1
  have f3 : w.frozen? ⟨a, 3, none⟩ = false := frozen_of_row _ _ _ _ _ h1
  have hl := h.lf
  have s0 : (0 : Int) < ((n + 1 : Nat) : Int) := by omega
  have s1 : IntKind.i64.wrap (((n + 1 : Nat) : Int) - 1) = (n : Int) := by rw [wrap_small _ (by omega) (by omega)]; omega
  have h2 := h.setLeft n (by omega)
  obtain ⟨cap2, m1, m2, d0, d1, d2, d3⟩ := h2.c0
  have dq : (w.setCell ⟨a, 2, none⟩ (.int .i64 (n : Int))).cell? ⟨q, 0, none⟩ = some (.pointer (some ⟨a, 0, none⟩)) := by
    rw [← hq]; exact World.cell?_of_block (heap_setCell_other _ _ _ _ hqa)
  have f4 : (w.setCell ⟨a, 2, none⟩ (.int .i64 (n : Int))).frozen? ⟨a, 3, none⟩ = false := by rw [World.frozen?_setCell]; exact f3
  have H := hid h
  generalize hm : ((n + 1 : Nat) : Int) = m at *
  clear h h1 h2 hm
  go_enter_d Try.func65, Try.ntmps65
  go_wp2
  go_region
  go_wp2
  go_end0
  exact ⟨rfl, H.out.counted _ (decide_eq_decide.2 (by omega)), (((Kp.refl a g b w).setCell 2 (.int .i64 (n : Int))).drew).setCell 3 _⟩
/-- the world in which what is tried is tried -/
abbrev inAct (a : Nat) (w : World) : World := w.alloc (.cells #[.pointer (some ⟨a, 0, none⟩)] 23)
set_option maxRecDepth 100000 in
set_option maxHeartbeats 1000000 in
theorem act_dies {w : World} {a g b : Nat} {L : List (List UInt8)} {p : Nat → Option (List UInt8)} {dead : Bool} (h : Dv w a g b L p 1 dead) (fv : Value) :
    Calls Try.prog 37 #[.pointer (some ⟨a, 0, none⟩), fv] w fun r w' => r = .returned (.int .i64 2) ∧ Dv w' a g b L p 0 true ∧ Kp a g b w w' := by
  have b1 : Below w.heap.size w (inAct a w) := (Below.refl _ _).alloc (Nat.le_refl _) _
  have r1 : (inAct a w).heap[w.heap.size]? = some (.cells #[.pointer (some ⟨a, 0, none⟩)] 23 (0, 0)) := heap_alloc_new w _
  have hal := h.al
  obtain ⟨w1, hw1⟩ : ∃ w1, inAct a w = w1 := ⟨_, rfl⟩
  rw [hw1] at b1 r1
  have h1 := h.below b1 (Nat.le_refl _)
  obtain ⟨cap', k1, k2, c0, c1, c2, c3⟩ := h1.c0
  have cq : w1.cell? ⟨w.heap.size, 0, none⟩ = some (.pointer (some ⟨a, 0, none⟩)) := by rw [cell_of_row _ _ _ _ _ _ r1]; rfl
  have i1 := act1_count (n := 0) cq (by omega) h1 .returning
  have hmf : ∀ (fn : Fn) (first cap : Array Value) (w : World), (Instr.makeFunc fn first cap).run Try.prog w = .ok (.func fn first cap) w := fun _ _ _ _ => rfl
  have B1 := hid b1
  clear h h1 r1 b1
  go_enter_defers Try.func37, Try.ntmps37
  go_wp2
  refine leaves_cons (f := 65) (args := #[.pointer (some ⟨w.heap.size, 0, none⟩)]) (by simp) (by simp [go_sem]) ?_
  refine i1.mono ?_
  rintro e u' w2 ⟨rfl, rfl, hD, hK⟩
  refine ⟨_, results_tmp rfl _ _ _, rfl, ?_, (Kp.ofBelow B1.out).trans hK⟩
  exact hD
set_option maxRecDepth 100000 in
set_option maxHeartbeats 1000000 in
theorem act_ok {w : World} {a g b : Nat} {L : List (List UInt8)} {p : Nat → Option (List UInt8)} {left : Nat} (h : Dv w a g b L p left false) (hl : left ≠ 1) (T : Nat) (lb : Array Value) {L' : List (List UInt8)} {p' : Nat → Option (List UInt8)}
    (eT : ∀ args w, (callFunc T args).run Try.prog w = .ok (.enter T args) w)
    (hT : Calls Try.prog T lb (inAct a w) fun e w' => e = .returned (.tuple #[]) ∧ Dv w' a g b L' p' left false ∧ Kp a g b (inAct a w) w') :
    Calls Try.prog 37 #[.pointer (some ⟨a, 0, none⟩), .func (.func T) #[] lb] w fun r w' => r = .returned (.int .i64 0) ∧ Dv w' a g b L' p' (left - 1) false ∧ Kp a g b w w' := by
  have b1 : Below w.heap.size w (inAct a w) := (Below.refl _ _).alloc (Nat.le_refl _) _
  have r1 : (inAct a w).heap[w.heap.size]? = some (.cells #[.pointer (some ⟨a, 0, none⟩)] 23 (0, 0)) := heap_alloc_new w _
  have hal := h.al
  have hgl := h.gl
  have hbl := h.bl
  obtain ⟨w1, hw1⟩ : ∃ w1, inAct a w = w1 := ⟨_, rfl⟩
  rw [hw1] at b1 r1 hT
  have h1 := h.below b1 (Nat.le_refl _)
  obtain ⟨cap', k1, k2, c0, c1, c2, c3⟩ := h1.c0
  have cq : w1.cell? ⟨w.heap.size, 0, none⟩ = some (.pointer (some ⟨a, 0, none⟩)) := by rw [cell_of_row _ _ _ _ _ _ r1]; rfl
  have hqs : w.heap.size < w1.heap.size := lt_of_heap r1
  have hmf : ∀ (fn : Fn) (first cap : Array Value) (w : World), (Instr.makeFunc fn first cap).run Try.prog w = .ok (.func fn first cap) w := fun _ _ _ _ => rfl
  have B1 := hid b1
  have l1 : ¬ (left : Int) = 1 := by omega
  have HL := hid hl
  clear h h1 r1 b1 hl
  go_enter_defers Try.func37, Try.ntmps37
  go_wp2_with fail
  refine hT.mono ?_
  rintro r w2 ⟨rfl, hD, hK⟩
  have cq2 : w2.cell? ⟨w.heap.size, 0, none⟩ = some (.pointer (some ⟨a, 0, none⟩)) := (World.cell?_of_block (hK.block w.heap.size hqs (by omega) (by omega) (by omega))).trans cq
  have KK := hid ((Kp.ofBelow B1.out).trans hK)
  have HD := hid hD
  clear hT c0 c1 c2 c3 cq hD hK
  go_wp2
  have hl := HL.out
  rcases left with _ | n
  · refine leaves_cons (f := 65) (args := #[.pointer (some ⟨w.heap.size, 0, none⟩)]) (by simp) (by simp [go_sem]) ?_
    refine (act1_idle cq2 HD.out .returning).mono ?_
    rintro e u' w3 ⟨rfl, rfl, rfl⟩
    exact ⟨_, results_tmp rfl _ _ _, rfl, HD.out, KK.out⟩
  · refine leaves_cons (f := 65) (args := #[.pointer (some ⟨w.heap.size, 0, none⟩)]) (by simp) (by simp [go_sem]) ?_
    refine (act1_count cq2 (by omega) HD.out .returning).mono ?_
    rintro e u' w3 ⟨rfl, rfl, hD3, hK3⟩
    rw [decide_eq_false (by omega)] at hD3
    exact ⟨_, results_tmp rfl _ _ _, rfl, hD3, KK.out.trans hK3⟩
end Go.Proofs.Ytkpfpfjjkcefkaa
