import Derived.Test.YtjcapdkibbjmiaaGreatDoorPkSP13
import Derived.BigQuiet
import Derived.Test.YtjcapdkibbjmiaaGreatDoorPkFL2
import Derived.Test.YtjcapdkibbjmiaaGreatDoorPkSP28
import Derived.Test.YtjcapdkibbjmiaaGreatDoorPkSP24
import Derived.Test.YtjcapdkibbjmiaaGreatDoorPkCL2
namespace Go.Proofs.YtjcapdkibbjmiaaGreatDoor
open Go.RowKit Go.Shelf
namespace Chn
set_option maxRecDepth 100000 in
set_option maxHeartbeats 2000000 in
theorem mayBe_dr (cs : List Int) (a : Option Addr) (cap : Nat) (w : World) (hc : cs.length ≤ 9223372036854775807) (hA : AtI w a cs) :
    Calls Tryz.prog 48 #[.slice a cs.length cap] w fun r w' => r = .returned (.bool (mayB cs)) ∧ ∃ d, w' = w.drewN d := by
  obtain ⟨B, hB⟩ : ∃ B, Hid (mayB cs = B) := ⟨_, rfl⟩
  rw [hB.out]
  obtain ⟨m, hm⟩ : ∃ m, cs.length = m := ⟨_, rfl⟩
  have HM := hid hm
  rw [hm] at hc ⊢
  have bad : Hid (¬ (1 ≤ m ∧ m ≤ 64 ∧ 1 ≤ cs.getD 0 0 ∧ cs.getD (m - 1) 0 ≤ 1099511627776) → B = false) := fun hn => by
    rw [← hB.out]
    unfold mayB
    rw [HM.out, decide_eq_false hn, Bool.false_and]
  by_cases h1 : m = 0
  · have e := hid (bad.out (by omega))
    subst h1
    clear hA hm bad
    go_enter Tryz.func48, Tryz.ntmps48
    go_wp2
    go_ret
    exact ⟨by rw [e.out]; rfl, ⟨0, rfl⟩⟩
  · obtain ⟨x, rfl⟩ := hA.pos (by omega)
    have q1 : ¬ (m : Int) = 0 := by omega
    have q0 : (0 : Int) < (m : Int) := by omega
    by_cases h2 : 64 < m
    · have e := hid (bad.out (by omega))
      have q2 : (64 : Int) < (m : Int) := by omega
      clear hA hm bad
      go_enter Tryz.func48, Tryz.ntmps48
      go_wp2
      go_ret
      exact ⟨by rw [e.out]; rfl, ⟨0, rfl⟩⟩
    · have q2 : ¬ (64 : Int) < (m : Int) := by omega
      have c0 : w.cell? x = some (.int .i64 (cs.getD 0 0)) := by
        obtain ⟨y, hy, _, hc0⟩ := hA 0 _ (getI (by omega))
        obtain rfl := Option.some.inj hy
        exact hc0
      have c0' : w.cell? (x.add 0) = some (.int .i64 (cs.getD 0 0)) := c0
      have cL : w.cell? (x.add (m - 1)) = some (.int .i64 (cs.getD (m - 1) 0)) := by
        obtain ⟨y, hy, _, hc0⟩ := hA (m - 1) _ (getI (by omega))
        obtain rfl := Option.some.inj hy
        exact hc0
      have HA := hid hA
      have w1 : IntKind.i64.wrap ((m : Int) - 1) = (m : Int) - 1 := by rw [IntKind.wrap_i64]; omega
      have w2 : ((m : Int) - 1).toNat = m - 1 := by omega
      have w3 : (0 : Int) ≤ (m : Int) - 1 := by omega
      have w4 : (m : Int) - 1 < (m : Int) := by omega
      by_cases h3 : cs.getD 0 0 < 1
      · have e := hid (bad.out (by omega))
        clear hA hm bad HA
        generalize cs.getD 0 0 = z at *
        go_enter Tryz.func48, Tryz.ntmps48
        go_wp2
        go_ret
        exact ⟨by rw [e.out]; rfl, ⟨0, rfl⟩⟩
      · by_cases h4 : 1099511627776 < cs.getD (m - 1) 0
        · have e := hid (bad.out (by omega))
          clear hA hm bad HA
          generalize cs.getD 0 0 = z at *
          generalize cs.getD (m - 1) 0 = y at *
          go_enter Tryz.func48, Tryz.ntmps48
          go_wp2
          go_ret
          exact ⟨by rw [e.out]; rfl, ⟨0, rfl⟩⟩
        · have eB : Hid (B = upTo cs (m - 1)) := by
            unfold Hid
            rw [← hB.out]
            unfold mayB
            rw [HM.out, decide_eq_true (by omega), Bool.true_and]
          have BM := hid bad
          clear hA hm bad hB
          obtain ⟨z, hz⟩ : ∃ z, cs.getD 0 0 = z := ⟨_, rfl⟩
          obtain ⟨y, hy⟩ : ∃ y, cs.getD (m - 1) 0 = y := ⟨_, rfl⟩
          rw [hz] at c0 c0' h3
          rw [hy] at cL h4
          clear hz hy BM
          go_enter Tryz.func48, Tryz.ntmps48
          go_wp2
          clear c0 c0' cL
          go_loopw [3, 30] (fun _ i w' => ∃ j : Nat, j ≤ m - 1 ∧ i = .int .i64 (j : Int) ∧ Hid (upTo cs j = true) ∧ Hid (∃ d, w' = w.drewN d)) (fun _ i _ => m - (intOf i).toNat)
          case atStart => exact ⟨0, by omega, rfl, rfl, ⟨0, rfl⟩⟩
          case round =>
            obtain ⟨j, hj, rfl, hup, hbw⟩ := hrel
            by_cases hjm : j < m - 1
            · have b0 : (j : Int) < (m : Int) - 1 := by omega
              have d0 : wr.cell? (x.add j) = some (.int .i64 (cs.getD j 0)) := by
                obtain ⟨y, hy, _, hc0⟩   := (show AtI wr (some x) cs by { obtain ⟨d, hd⟩ := hbw.out; rw [hd]; exact HA.out }) j _ (getI (by rw [HM.out]; omega))
                obtain rfl := Option.some.inj hy
                exact hc0
              have d1 : wr.cell? (x.add (j + 1)) = some (.int .i64 (cs.getD (j + 1) 0)) := by
                obtain ⟨y, hy, _, hc0⟩ := (show AtI wr (some x) cs by { obtain ⟨d, hd⟩ := hbw.out; rw [hd]; exact HA.out }) (j + 1) _ (getI (by rw [HM.out]; omega))
                obtain rfl := Option.some.inj hy
                exact hc0
              have d2 : wr.cell? ⟨x.block, x.off + (j + 1), none⟩ = some (.int .i64 (cs.getD (j + 1) 0)) := by rw [← d1]; simp [Addr.add]
              have v1 : IntKind.i64.wrap ((j : Int) + 1) = (j : Int) + 1 := by rw [IntKind.wrap_i64]; omega
              have v2 : ((j : Int) + 1).toNat = j + 1 := by omega
              have v3 : (0 : Int) ≤ (j : Int) + 1 := by omega
              have v4 : (j : Int) + 1 < (m : Int) := by omega
              have v5 : (j : Int) < (m : Int) := by omega
              have v6 : (0 : Int) ≤ (j : Int) := by omega
              by_cases hlt : cs.getD j 0 < cs.getD (j + 1) 0
              · have e2 : Hid (upTo cs (j + 1) = true) := by unfold Hid; rw [upTo_next, hup.out, decide_eq_true hlt]; rfl
                have hge : ¬ cs.getD (j + 1) 0 ≤ cs.getD j 0 := by omega
                generalize cs.getD j 0 = p at *
                generalize cs.getD (j + 1) 0 = q at *
                clear hup
                go_wp2
                go_quiet (fail)
                go_wp2
                exact ⟨⟨j + 1, by omega, by go_num, e2, (by obtain ⟨d, hd⟩ := hbw.out; exact ⟨_, by rw [hd]; exact World.drewN_drewN _ _ _⟩)⟩, by simp [intOf]; omega⟩
              · have e3 : Hid (B = false) := by unfold Hid; rw [eB.out]; exact upTo_not hjm hlt
                have hge : cs.getD (j + 1) 0 ≤ cs.getD j 0 := by omega
                generalize cs.getD j 0 = p at *
                generalize cs.getD (j + 1) 0 = q at *
                clear hup
                go_wp2
                go_quiet (fail)
                go_wp2
                go_ret
                exact ⟨by rw [e3.out]; rfl, (by obtain ⟨d, hd⟩ := hbw.out; exact ⟨_, by rw [hd]; exact World.drewN_drewN _ _ _⟩)⟩
            · obtain rfl : j = m - 1 := by omega
              have b0 : ¬ ((m - 1 : Nat) : Int) < (m : Int) - 1 := by omega
              have e3 : Hid (B = true) := by unfold Hid; rw [eB.out]; exact hup.out
              clear hup
              go_wp2
              go_ret
              exact ⟨by rw [e3.out]; rfl, hbw.out⟩
end Chn
end Go.Proofs.YtjcapdkibbjmiaaGreatDoor

namespace Go.Proofs.YtjcapdkibbjmiaaGreatDoor
open Go.RowKit Go.Shelf
namespace Chn
set_option maxRecDepth 100000 in
set_option maxHeartbeats 4000000 in
theorem proveC_no (cs : List Int) (m : Nat) (hm : Hid (cs.length = m)) (q : Nat) (a : Option Addr) (cap : Nat) (w : World) (hA : AtI w a cs) (lc : m ≤ 9223372036854775807) (hb : mayB cs = false) :
    Calls Tryz.prog 29 #[.pointer (some ⟨q, 0, none⟩), .slice a m cap] w fun r w' => r = .returned (.tuple #[ch (.slice none 0 0) (.slice none 0 0), .int .i64 130]) ∧ Below w.heap.size w w' := by
  have b0 := (Below.refl w.heap.size w).alloc (Nat.le_refl _) (.cells #[.slice none 0 0, .slice none 0 0] 45)
  have r0 := heap_alloc_new w (.cells #[.slice none 0 0, .slice none 0 0] 45)
  have i1 := fun w' (hA : AtI w' a cs) => mayBe_dr cs a cap w' (by rw [hm.out]; exact lc) hA
  rw [hb, hm.out] at i1
  have HA := hid (hA.below b0 (Nat.le_refl _))
  have B0 := hid b0
  have R0 := hid r0
  clear b0 r0 hA
  go_enter Tryz.func29, Tryz.ntmps29
  go_wp2
  go_quiet (first | (go_at_call 48; refine Calls.quiet_of (i1 _ ?_); exact HA.out))
  have B1 : Hid (Below w.heap.size w ((w.alloc (.cells #[.slice none 0 0, .slice none 0 0] 45)).drewN nq)) := ⟨B0.out.os, B0.out.tape, B0.out.output, B0.out.size, B0.out.block⟩
  have R1 : Hid (((w.alloc (.cells #[.slice none 0 0, .slice none 0 0] 45)).drewN nq).heap[w.heap.size]? = some (.cells #[.slice none 0 0, .slice none 0 0] 45 (0, 0))) := R0.out
  generalize (w.alloc (.cells #[.slice none 0 0, .slice none 0 0] 45)).drewN nq = w1 at *
  have k0 : w1.cell? ⟨w.heap.size, 0, none⟩ = some (.slice none 0 0) := (cell_of_row _ _ _ _ _ _ R1.out).trans rfl
  have k1 : w1.cell? ⟨w.heap.size, 1, none⟩ = some (.slice none 0 0) := (cell_of_row _ _ _ _ _ _ R1.out).trans rfl
  have l0 := frozen_of_row _ _ 0 _ _ R1.out
  have l1 := frozen_of_row _ _ 1 _ _ R1.out
  go_wp2
  have R8 := heap_setCell_same _ w.heap.size 1 _ _ (.slice none 0 0) (heap_setCell_same w1 w.heap.size 0 _ _ (.slice none 0 0) R1.out)
  have k9 : Keep (fun i => i = w.heap.size) w1 ((w1.setCell ⟨w.heap.size, 0, none⟩ (.slice none 0 0)).setCell ⟨w.heap.size, 1, none⟩ (.slice none 0 0)) := (Keep.ofSet (S := fun i => i = w.heap.size) w1 w.heap.size 0 (.slice none 0 0) rfl).trans (Keep.ofSet (S := fun i => i = w.heap.size) _ w.heap.size 1 (.slice none 0 0) rfl) fun _ _ e => e
  exact bodyPost_ret (results_rowC_tmp rfl _ _ w.heap.size 45 _ (0, 0) _ rfl R8 Tryz.underlying45 rfl (sizeCh _ _)) rfl ⟨rfl, B1.out.trans (keep_belowC k9 B1.out.size (fun i e => by omega))⟩
set_option maxRecDepth 100000 in
set_option maxHeartbeats 4000000 in
theorem proveC_over (hs : List Nat) (HH : Hds hs) (m : Nat) (hm : Hid (hs.length = m)) {w : World} {q h : Nat} {L : List (List UInt8)} {F : Nat → Prop} (t : TrL w q h L F) (hl : L.length < hs.getD (m - 1) 0) (a : Option Addr) (cap : Nat) (hA : AtI w a (ix hs)) :
    Calls Tryz.prog 29 #[.pointer (some ⟨q, 0, none⟩), .slice a m cap] w fun r w' => r = .returned (.tuple #[ch (.slice none 0 0) (.slice none 0 0), .int .i64 130]) ∧ Below w.heap.size w w' := by
  have lm : m ≤ 64 := by rw [← hm.out]; exact HH.le
  have lm1 : 1 ≤ m := by rw [← hm.out]; exact HH.ne
  obtain ⟨M, hM⟩ : ∃ M, m = M + 1 := ⟨m - 1, by omega⟩
  have hM1 : m - 1 = M := by omega
  rw [hM1] at hl
  obtain ⟨x, rfl, _, _⟩ := hA M _ (ix_at (by rw [hm.out]; omega))
  have b0 := (Below.refl w.heap.size w).alloc (Nat.le_refl _) (.cells #[.slice none 0 0, .slice none 0 0] 45)
  have r0 := heap_alloc_new w (.cells #[.slice none 0 0, .slice none 0 0] 45)
  have hxl : (ix hs).length = m := by rw [← hm.out]; simp [ix]
  have i1 := fun w' (bb : Below w.heap.size w w') => mayBe_any (ix hs) (some x) cap w' (by rw [hxl]; omega) (hA.below bb (Nat.le_refl _))
  rw [hds_mayB HH, hxl] at i1
  have i2 := fun w' (bb : Below w.heap.size w w') => tSizeL (t.below bb)
  have fact : ∀ w', Below w.heap.size w w' → w'.cell? (x.add M) = some (.int .i64 (hs.getD M 0 : Int)) := fun w' bb => by
    obtain ⟨y, hy, _, h0⟩ := (hA.below bb (Nat.le_refl _)) M _ (ix_at (by rw [hm.out]; omega))
    obtain rfl := Option.some.inj hy
    exact h0
  have x0 := fact _ b0
  have HF := hid fact
  generalize hs.getD M 0 = z at *
  have z1 : (L.length : Int) < (z : Int) := by omega
  have z2 : decide (L.length < z) = true := decide_eq_true hl
  have v1 : IntKind.i64.wrap ((m : Int) - 1) = (M : Int) := by rw [IntKind.wrap_i64]; omega
  have v3 : (0 : Int) ≤ (M : Int) := by omega
  have v4 : (M : Int) < (m : Int) := by omega
  clear hM hM1
  have B0 := hid b0
  have R0 := hid r0
  generalize hLL : L.length = ll at *
  clear hA b0 r0 t fact hl hxl hLL
  go_enter Tryz.func29, Tryz.ntmps29
  go_wp2
  go_region_held3 (fun w' => w'.cell? (x.add M) = some (.int .i64 (z : Int))) (first | exact x2 | exact x1 | exact x0) (first
    | (go_at_call 48; refine (i1 _ B0.out.drew).mono ?_; rintro r w1 ⟨rfl, b1⟩; have b1 := drewBelow8 b1; have B1 := hid (B0.out.trans (b1.mono B0.out.size)); have x1 := HF.out _ B1.out; have R1 := hid ((b1.block _ (lt_of_heap R0.out)).trans R0.out); clear b1)
    | (go_at_call 54; refine (i2 _ B1.out).mono ?_; rintro r w2 ⟨rfl, hw2⟩; have hw2 := hw2.symm; subst hw2; have x2 := x1))
  have k0 : w1.cell? ⟨w.heap.size, 0, none⟩ = some (.slice none 0 0) := (cell_of_row _ _ _ _ _ _ R1.out).trans rfl
  have k1 : w1.cell? ⟨w.heap.size, 1, none⟩ = some (.slice none 0 0) := (cell_of_row _ _ _ _ _ _ R1.out).trans rfl
  have l0 := frozen_of_row _ _ 0 _ _ R1.out
  have l1 := frozen_of_row _ _ 1 _ _ R1.out
  clear x0 x1 x2 HF i1 i2
  go_wp2
  have R8 := heap_setCell_same _ w.heap.size 1 _ _ (.slice none 0 0) (heap_setCell_same w1 w.heap.size 0 _ _ (.slice none 0 0) R1.out)
  have k9 : Keep (fun i => i = w.heap.size) w1 ((w1.setCell ⟨w.heap.size, 0, none⟩ (.slice none 0 0)).setCell ⟨w.heap.size, 1, none⟩ (.slice none 0 0)) := (Keep.ofSet (S := fun i => i = w.heap.size) w1 w.heap.size 0 (.slice none 0 0) rfl).trans (Keep.ofSet (S := fun i => i = w.heap.size) _ w.heap.size 1 (.slice none 0 0) rfl) fun _ _ e => e
  exact bodyPost_ret (results_rowC_tmp rfl _ _ w.heap.size 45 _ (0, 0) _ rfl R8 Tryz.underlying45 rfl (sizeCh _ _)) rfl ⟨rfl, B1.out.trans (keep_belowC k9 B1.out.size (fun i e => by omega))⟩
end Chn
end Go.Proofs.YtjcapdkibbjmiaaGreatDoor

namespace Go.Proofs.YtjcapdkibbjmiaaGreatDoor
open Go.RowKit Go.Shelf
def ksp (K : List Sub) : List (Int × Int) := K.map (·.1)
theorem ksp_get {K : List Sub} {j : Nat} : (ksp K)[j]? = (K[j]?).map (·.1) := by unfold ksp; rw [List.getElem?_map]
theorem first_at {α : Type} (p : α → Bool) : ∀ (l : List α), (∃ x ∈ l, p x = true) → ∃ (i : Nat) (x : α), l[i]? = some x ∧ p x = true ∧ ∀ (j : Nat) (y : α), j < i → l[j]? = some y → p y = false
  | [], h => by obtain ⟨x, hx, _⟩ := h; cases hx
  | a :: l, h => by
    cases ha : p a with
    | true => exact ⟨0, a, rfl, ha, fun j y hj => by omega⟩
    | false =>
      obtain ⟨x, hx, hp⟩ := h
      have hx' : x ∈ l := by
        rcases List.mem_cons.1 hx with rfl | hx
        · rw [ha] at hp; cases hp
        · exact hx
      obtain ⟨i, y, h1, h2, h3⟩ := first_at p l ⟨x, hx', hp⟩
      refine ⟨i + 1, y, h1, h2, fun j z hj hz => ?_⟩
      cases j with
      | zero => obtain rfl : a = z := Option.some.inj hz; exact ha
      | succ j => exact h3 j z (by omega) hz
theorem fdF_no {K : List Sub} {b e : Int} (h : fdF K b e = none) (j : Nat) : (ksp K)[j]? ≠ some (b, e) := fun he => by
  rw [ksp_get] at he
  cases hj : K[j]? with
  | none => rw [hj] at he; cases he
  | some q =>
    rw [hj] at he
    unfold fdF at h
    rw [List.find?_eq_none] at h
    exact h q (List.mem_of_getElem? hj) (decide_eq_true (Option.some.inj he))
theorem find_first {α : Type} (p : α → Bool) : ∀ (l : List α) (i : Nat) (x : α), l[i]? = some x → p x = true → (∀ (j : Nat) (y : α), j < i → l[j]? = some y → p y = false) → l.find? p = some x
  | [], i, x, h, _, _ => by cases h
  | a :: l, 0, x, h, hp, _ => by
    obtain rfl : a = x := Option.some.inj h
    rw [List.find?_cons, hp]
  | a :: l, i + 1, x, h, hp, hl => by
    rw [List.find?_cons, hl 0 a (by omega) rfl]
    exact find_first p l i x h hp (fun j y hj hy => hl (j + 1) y (by omega) hy)
theorem fdF_at {K : List Sub} {b e : Int} {q : Sub} (h : fdF K b e = some q) : ∃ i : Nat, (ksp K)[i]? = some (b, e) ∧ K[i]? = some q ∧ ∀ j : Nat, j < i → (ksp K)[j]? ≠ some (b, e) := by
  have hq := List.find?_some h
  have hm := List.mem_of_find?_eq_some h
  obtain ⟨i, x, h1, h2, h3⟩ := first_at (fun q : Sub => decide (q.1 = (b, e))) K ⟨q, hm, hq⟩
  have hx : x = q := by
    have := find_first (fun q : Sub => decide (q.1 = (b, e))) K i x h1 h2 h3
    unfold fdF at h
    rw [h] at this
    exact (Option.some.inj this).symm
  subst hx
  refine ⟨i, by rw [ksp_get, h1]; exact congrArg some (of_decide_eq_true h2), h1, fun j hj he => ?_⟩
  rw [ksp_get] at he
  cases hk : K[j]? with
  | none => rw [hk] at he; cases he
  | some y =>
    rw [hk] at he
    have := h3 j y hj hk
    rw [decide_eq_true (Option.some.inj he : y.1 = (b, e))] at this
    cases this
theorem wit_no {K : List Sub} {b e : Int} (h : (witS b e K).length = 0) (j : Nat) (x y : Int) (hj : (ksp K)[j]? = some (x, y)) : hasI b e x y = false := by
  rw [ksp_get] at hj
  cases hk : K[j]? with
  | none => rw [hk] at hj; cases hj
  | some q =>
    rw [hk] at hj
    have e1 : q.1 = (x, y) := Option.some.inj hj
    cases hc : hasI b e x y with
    | false => rfl
    | true =>
      have : q ∈ witS b e K := by
        unfold witS
        rw [List.mem_filter]
        exact ⟨List.mem_of_getElem? hk, by rw [e1]; exact hc⟩
      rw [List.length_eq_zero_iff.1 h] at this
      cases this
theorem wit_at {K : List Sub} {b e : Int} (h : (witS b e K).length ≠ 0) : ∃ (i : Nat) (x y : Int), (ksp K)[i]? = some (x, y) ∧ hasI b e x y = true ∧ ∀ (j : Nat) (x' y' : Int), j < i → (ksp K)[j]? = some (x', y') → hasI b e x' y' = false := by
  obtain ⟨q, hq⟩ := List.exists_mem_of_length_pos (Nat.pos_of_ne_zero h)
  unfold witS at hq
  rw [List.mem_filter] at hq
  obtain ⟨i, x, h1, h2, h3⟩ := first_at (fun q : Sub => hasI b e q.1.1 q.1.2) K ⟨q, hq.1, hq.2⟩
  refine ⟨i, x.1.1, x.1.2, by rw [ksp_get, h1]; rfl, h2, fun j x' y' hj he => ?_⟩
  rw [ksp_get] at he
  cases hk : K[j]? with
  | none => rw [hk] at he; cases he
  | some z =>
    rw [hk] at he
    have e1 : z.1 = (x', y') := Option.some.inj he
    have := h3 j z hj hk
    rw [e1] at this
    exact this
end Go.Proofs.YtjcapdkibbjmiaaGreatDoor

namespace Go.Proofs.YtjcapdkibbjmiaaGreatDoor
open Go.RowKit Go.Shelf
theorem add_one8 (x : Addr) (a : Nat) : (x.add a).add 1 = x.add (a + 1) := by
  by_cases h : a = 0
  · subst h; simp [Addr.add]
  · simp [Addr.add, h, Nat.add_assoc]
def AtQ (w : World) (a : Option Addr) (l : List (Int × Int)) : Prop := ∀ j q, l[j]? = some q → ∃ x : Addr, a = some x ∧ x.block < w.heap.size ∧ w.cell? (x.add (j * 2)) = some (.int .i64 q.1) ∧ w.cell? (x.add (j * 2 + 1)) = some (.int .i64 q.2)
theorem AtQ.below {w w' : World} {a : Option Addr} {l : List (Int × Int)} {B : Nat} (h : AtQ w a l) (hb : Below B w w') (hB : w.heap.size ≤ B) : AtQ w' a l := fun j q hq => by
  obtain ⟨x, e, h1, h2, h3⟩ := h j q hq
  exact ⟨x, e, by have := hb.size; omega, (hb.cell (by rw [addr_block]; omega)).trans h2, (hb.cell (by rw [addr_block]; omega)).trans h3⟩
theorem AtP.q {w : World} {a : Option Addr} {l : List (Int × Int)} (h : AtP w a l) : AtQ w a l := fun j q hq => by
  obtain ⟨g, e, h1, h2, h3⟩ := h j q hq
  have ea : ∀ n, (⟨g, 0, none⟩ : Addr).add n = ⟨g, n, none⟩ := fun n => by rw [Addr.add_mid, Nat.zero_add]
  exact ⟨⟨g, 0, none⟩, e, h1, by rw [ea]; exact h2, by rw [ea]; exact h3⟩
end Go.Proofs.YtjcapdkibbjmiaaGreatDoor

namespace Go.Proofs.YtjcapdkibbjmiaaGreatDoor
open Go.RowKit Go.Shelf
set_option maxRecDepth 100000 in
set_option maxHeartbeats 1000000 in
theorem stands8_no (K : List (Int × Int)) (b e : Int) (a : Option Addr) (c : Nat) (w : World) (hl : K.length ≤ 9223372036854775800) (hK : AtQ w a K) (hno : ∀ j, j < K.length → K[j]? ≠ some (b, e)) :
    Calls Tryz.prog 94 #[.slice a K.length c, sg b e] w fun r w' => r = .returned (.int .i64 (-1)) ∧ Below w.heap.size w w' := by
  obtain ⟨n, hn⟩ : ∃ n, Hid (K.length = n) := ⟨_, rfl⟩
  rw [hn.out] at hl ⊢
  have H1 := hid hK
  have S0 := hid (SpI.new w b e)
  have B0 := hid ((Below.refl _ w).alloc (Nat.le_refl _) (.cells #[.int .i64 b, .int .i64 e] 60))
  unfold sg
  clear hK
  go_enter Tryz.func94, Tryz.ntmps94
  go_wp2
  generalize w.alloc (.cells #[.int .i64 b, .int .i64 e] 60) = wA at *
  go_loopw [5] (fun iv wr => ∃ k : Nat, iv = .int .i64 (k : Int) ∧ k ≤ n ∧ Hid (SpI wr w.heap.size b e) ∧ Hid (Below w.heap.size w wr)) (fun iv _ => n + 1 - (intOf iv).toNat)
  case atStart => exact ⟨0, rfl, Nat.zero_le _, S0, B0⟩
  case round =>
    clear S0 B0
    obtain ⟨k, rfl, hk, hS, hB⟩ := hrel
    have s0 := hS.out.c0
    have s1 := hS.out.c1
    by_cases hkn : k < n
    · have b0 : (k : Int) < (n : Int) := by omega
      have b1 : (0 : Int) ≤ (k : Int) := by omega
      obtain ⟨x, y, hq⟩ : ∃ x y, K[k]? = some (x, y) := ⟨_, _, List.getElem?_eq_getElem (by have := hn.out; omega)⟩
      obtain ⟨g1, rfl, _, p0, p1⟩ := (H1.out.below hB.out (Nat.le_refl _)) k (x, y) hq
      have p0 : wr.cell? (g1.add (k * 2)) = some (.int .i64 x) := p0
      have p1 : wr.cell? ⟨(g1.add (k * 2)).block, (g1.add (k * 2)).off + 1, none⟩ = some (.int .i64 y) := by
        show wr.cell? ((g1.add (k * 2)).add 1) = _
        rw [add_one8]; exact p1
      have hxy : ¬ (x = b ∧ y = e) := fun h => hno k (by rw [hn.out]; exact hkn) (by rw [hq, h.1, h.2])
      have hcase : (¬ x = b) ∨ ((x = b) = True ∧ ¬ y = e) := by
        by_cases e1 : x = b
        · exact .inr ⟨eq_true e1, fun e2 => hxy ⟨e1, e2⟩⟩
        · exact .inl e1
      clear H1 hq hxy
      rcases hcase with hne | ⟨hne, hne2⟩
      all_goals
        go_wp2
        go_quiet (fail)
        go_wp2
        exact ⟨⟨k + 1, by go_num, by omega, by first | exact hS | exact hid hS.out.drew1 | exact hid (hS.out.drewK _), by first | exact hB | exact hid hB.out.drew | exact hid (below_drewN hB.out _)⟩, by simp [intOf]; omega⟩
    · obtain rfl : k = n := by omega
      have b0 : ¬ (k : Int) < (k : Int) := by omega
      go_wp2
      go_ret
      exact ⟨rfl, hB.out⟩
set_option maxRecDepth 100000 in
set_option maxHeartbeats 1000000 in
theorem stands8_at (K : List (Int × Int)) (b e : Int) (a : Option Addr) (c : Nat) (w : World) (hl : K.length ≤ 9223372036854775800) (hK : AtQ w a K) (i : Nat) (hi : K[i]? = some (b, e)) (hno : ∀ j, j < i → K[j]? ≠ some (b, e)) :
    Calls Tryz.prog 94 #[.slice a K.length c, sg b e] w fun r w' => r = .returned (.int .i64 (i : Int)) ∧ Below w.heap.size w w' := by
  obtain ⟨n, hn⟩ : ∃ n, Hid (K.length = n) := ⟨_, rfl⟩
  rw [hn.out] at hl ⊢
  have H1 := hid hK
  have S0 := hid (SpI.new w b e)
  have B0 := hid ((Below.refl _ w).alloc (Nat.le_refl _) (.cells #[.int .i64 b, .int .i64 e] 60))
  unfold sg
  clear hK
  go_enter Tryz.func94, Tryz.ntmps94
  go_wp2
  generalize w.alloc (.cells #[.int .i64 b, .int .i64 e] 60) = wA at *
  go_loopw [5] (fun iv wr => ∃ k : Nat, iv = .int .i64 (k : Int) ∧ k ≤ i ∧ Hid (SpI wr w.heap.size b e) ∧ Hid (Below w.heap.size w wr)) (fun iv _ => i + 1 - (intOf iv).toNat)
  case atStart => exact ⟨0, rfl, Nat.zero_le _, S0, B0⟩
  case round =>
    clear S0 B0
    obtain ⟨k, rfl, hk, hS, hB⟩ := hrel
    have s0 := hS.out.c0
    have s1 := hS.out.c1
    have hin : i < n := by have := (List.getElem?_eq_some_iff.1 hi).1; rw [hn.out] at this; exact this
    have b0 : (k : Int) < (n : Int) := by omega
    have b1 : (0 : Int) ≤ (k : Int) := by omega
    by_cases hkn : k < i
    · obtain ⟨x, y, hq⟩ : ∃ x y, K[k]? = some (x, y) := ⟨_, _, List.getElem?_eq_getElem (by have := hn.out; omega)⟩
      obtain ⟨g1, rfl, _, p0, p1⟩ := (H1.out.below hB.out (Nat.le_refl _)) k (x, y) hq
      have p0 : wr.cell? (g1.add (k * 2)) = some (.int .i64 x) := p0
      have p1 : wr.cell? ⟨(g1.add (k * 2)).block, (g1.add (k * 2)).off + 1, none⟩ = some (.int .i64 y) := by
        show wr.cell? ((g1.add (k * 2)).add 1) = _
        rw [add_one8]; exact p1
      have hxy : ¬ (x = b ∧ y = e) := fun h => hno k hkn (by rw [hq, h.1, h.2])
      have hcase : (¬ x = b) ∨ ((x = b) = True ∧ ¬ y = e) := by
        by_cases e1 : x = b
        · exact .inr ⟨eq_true e1, fun e2 => hxy ⟨e1, e2⟩⟩
        · exact .inl e1
      clear H1 hq hxy
      rcases hcase with hne | ⟨hne, hne2⟩
      all_goals
        go_wp2
        go_quiet (fail)
        go_wp2
        exact ⟨⟨k + 1, by go_num, by omega, by first | exact hS | exact hid hS.out.drew1 | exact hid (hS.out.drewK _), by first | exact hB | exact hid hB.out.drew | exact hid (below_drewN hB.out _)⟩, by simp [intOf]; omega⟩
    · obtain rfl : k = i := by omega
      obtain ⟨g1, rfl, _, p0, p1⟩ := (H1.out.below hB.out (Nat.le_refl _)) k (b, e) hi
      have p0 : wr.cell? (g1.add (k * 2)) = some (.int .i64 b) := p0
      have p1 : wr.cell? ⟨(g1.add (k * 2)).block, (g1.add (k * 2)).off + 1, none⟩ = some (.int .i64 e) := by
        show wr.cell? ((g1.add (k * 2)).add 1) = _
        rw [add_one8]; exact p1
      clear H1 hi hno
      go_wp2
      go_quiet (fail)
      go_wp2
      go_ret
      exact ⟨rfl, by first | exact hB.out | exact hB.out.drew | exact below_drewN hB.out _⟩
set_option maxRecDepth 100000 in
set_option maxHeartbeats 1000000 in
theorem within8_no (K : List (Int × Int)) (b e : Int) (a : Option Addr) (c : Nat) (w : World) (hl : K.length ≤ 9223372036854775800) (hK : AtQ w a K) (hno : ∀ (j : Nat) (x y : Int), j < K.length → K[j]? = some (x, y) → hasI b e x y = false) :
    Calls Tryz.prog 95 #[.slice a K.length c, sg b e] w fun r w' => r = .returned (.bool false) ∧ Below w.heap.size w w' := by
  obtain ⟨n, hn⟩ : ∃ n, Hid (K.length = n) := ⟨_, rfl⟩
  rw [hn.out] at hl ⊢
  have H1 := hid hK
  have S0 := hid (SpI.new w b e)
  have B0 := hid ((Below.refl _ w).alloc (Nat.le_refl _) (.cells #[.int .i64 b, .int .i64 e] 60))
  unfold sg
  clear hK
  go_enter Tryz.func95, Tryz.ntmps95
  go_wp2
  generalize w.alloc (.cells #[.int .i64 b, .int .i64 e] 60) = wA at *
  go_loopw [5] (fun iv wr => ∃ k : Nat, iv = .int .i64 (k : Int) ∧ k ≤ n ∧ Hid (SpI wr w.heap.size b e) ∧ Hid (Below w.heap.size w wr)) (fun iv _ => n + 1 - (intOf iv).toNat)
  case atStart => exact ⟨0, rfl, Nat.zero_le _, S0, B0⟩
  case round =>
    clear S0 B0
    obtain ⟨k, rfl, hk, hS, hB⟩ := hrel
    have s0 := hS.out.c0
    have s1 := hS.out.c1
    by_cases hkn : k < n
    · have b0 : (k : Int) < (n : Int) := by omega
      have b1 : (0 : Int) ≤ (k : Int) := by omega
      obtain ⟨x, y, hq⟩ : ∃ x y, K[k]? = some (x, y) := ⟨_, _, List.getElem?_eq_getElem (by have := hn.out; omega)⟩
      obtain ⟨g1, rfl, _, p0, p1⟩ := (H1.out.below hB.out (Nat.le_refl _)) k (x, y) hq
      have p0 : wr.cell? (g1.add (k * 2)) = some (.int .i64 x) := p0
      have p1 : wr.cell? ⟨(g1.add (k * 2)).block, (g1.add (k * 2)).off + 1, none⟩ = some (.int .i64 y) := by
        show wr.cell? ((g1.add (k * 2)).add 1) = _
        rw [add_one8]; exact p1
      have hh := hno k x y (by rw [hn.out]; exact hkn) hq
      unfold hasI at hh
      have hh := of_decide_eq_false hh
      clear H1 hq
      by_cases d1 : b ≤ x
      · have f1 : decide (b ≤ x) = true := decide_eq_true d1
        by_cases d2 : y ≤ e
        · have f2 : decide (y ≤ e) = true := decide_eq_true d2
          have d3 : ¬ x < y := fun h => hh ⟨d1, h, d2⟩
          have f3 : decide (x < y) = false := decide_eq_false d3
          go_wp2
          go_quiet (fail)
          go_wp2
          exact ⟨⟨k + 1, by go_num, by omega, by first | exact hS | exact hid hS.out.drew1 | exact hid (hS.out.drewK _), by first | exact hB | exact hid hB.out.drew | exact hid (below_drewN hB.out _)⟩, by simp [intOf]; omega⟩
        · have f2 : decide (y ≤ e) = false := decide_eq_false d2
          go_wp2
          go_quiet (fail)
          go_wp2
          exact ⟨⟨k + 1, by go_num, by omega, by first | exact hS | exact hid hS.out.drew1 | exact hid (hS.out.drewK _), by first | exact hB | exact hid hB.out.drew | exact hid (below_drewN hB.out _)⟩, by simp [intOf]; omega⟩
      · have f1 : decide (b ≤ x) = false := decide_eq_false d1
        go_wp2
        go_quiet (fail)
        go_wp2
        exact ⟨⟨k + 1, by go_num, by omega, by first | exact hS | exact hid hS.out.drew1 | exact hid (hS.out.drewK _), by first | exact hB | exact hid hB.out.drew | exact hid (below_drewN hB.out _)⟩, by simp [intOf]; omega⟩
    · obtain rfl : k = n := by omega
      have b0 : ¬ (k : Int) < (k : Int) := by omega
      go_wp2
      go_ret
      exact ⟨rfl, hB.out⟩
set_option maxRecDepth 100000 in
set_option maxHeartbeats 1000000 in
theorem within8_at (K : List (Int × Int)) (b e : Int) (a : Option Addr) (c : Nat) (w : World) (hl : K.length ≤ 9223372036854775800) (hK : AtQ w a K) (i : Nat) (u v : Int) (hi : K[i]? = some (u, v)) (hu : hasI b e u v = true) (hno : ∀ (j : Nat) (x y : Int), j < i → K[j]? = some (x, y) → hasI b e x y = false) :
    Calls Tryz.prog 95 #[.slice a K.length c, sg b e] w fun r w' => r = .returned (.bool true) ∧ Below w.heap.size w w' := by
  obtain ⟨n, hn⟩ : ∃ n, Hid (K.length = n) := ⟨_, rfl⟩
  rw [hn.out] at hl ⊢
  have H1 := hid hK
  have S0 := hid (SpI.new w b e)
  have B0 := hid ((Below.refl _ w).alloc (Nat.le_refl _) (.cells #[.int .i64 b, .int .i64 e] 60))
  unfold sg
  clear hK
  go_enter Tryz.func95, Tryz.ntmps95
  go_wp2
  generalize w.alloc (.cells #[.int .i64 b, .int .i64 e] 60) = wA at *
  go_loopw [5] (fun iv wr => ∃ k : Nat, iv = .int .i64 (k : Int) ∧ k ≤ i ∧ Hid (SpI wr w.heap.size b e) ∧ Hid (Below w.heap.size w wr)) (fun iv _ => i + 1 - (intOf iv).toNat)
  case atStart => exact ⟨0, rfl, Nat.zero_le _, S0, B0⟩
  case round =>
    clear S0 B0
    obtain ⟨k, rfl, hk, hS, hB⟩ := hrel
    have s0 := hS.out.c0
    have s1 := hS.out.c1
    have hin : i < n := by have := (List.getElem?_eq_some_iff.1 hi).1; rw [hn.out] at this; exact this
    have b0 : (k : Int) < (n : Int) := by omega
    have b1 : (0 : Int) ≤ (k : Int) := by omega
    by_cases hkn : k < i
    · obtain ⟨x, y, hq⟩ : ∃ x y, K[k]? = some (x, y) := ⟨_, _, List.getElem?_eq_getElem (by have := hn.out; omega)⟩
      obtain ⟨g1, rfl, _, p0, p1⟩ := (H1.out.below hB.out (Nat.le_refl _)) k (x, y) hq
      have p0 : wr.cell? (g1.add (k * 2)) = some (.int .i64 x) := p0
      have p1 : wr.cell? ⟨(g1.add (k * 2)).block, (g1.add (k * 2)).off + 1, none⟩ = some (.int .i64 y) := by
        show wr.cell? ((g1.add (k * 2)).add 1) = _
        rw [add_one8]; exact p1
      have hh := hno k x y hkn hq
      unfold hasI at hh
      have hh := of_decide_eq_false hh
      clear H1 hq
      by_cases d1 : b ≤ x
      · have f1 : decide (b ≤ x) = true := decide_eq_true d1
        by_cases d2 : y ≤ e
        · have f2 : decide (y ≤ e) = true := decide_eq_true d2
          have d3 : ¬ x < y := fun h => hh ⟨d1, h, d2⟩
          have f3 : decide (x < y) = false := decide_eq_false d3
          go_wp2
          go_quiet (fail)
          go_wp2
          exact ⟨⟨k + 1, by go_num, by omega, by first | exact hS | exact hid hS.out.drew1 | exact hid (hS.out.drewK _), by first | exact hB | exact hid hB.out.drew | exact hid (below_drewN hB.out _)⟩, by simp [intOf]; omega⟩
        · have f2 : decide (y ≤ e) = false := decide_eq_false d2
          go_wp2
          go_quiet (fail)
          go_wp2
          exact ⟨⟨k + 1, by go_num, by omega, by first | exact hS | exact hid hS.out.drew1 | exact hid (hS.out.drewK _), by first | exact hB | exact hid hB.out.drew | exact hid (below_drewN hB.out _)⟩, by simp [intOf]; omega⟩
      · have f1 : decide (b ≤ x) = false := decide_eq_false d1
        go_wp2
        go_quiet (fail)
        go_wp2
        exact ⟨⟨k + 1, by go_num, by omega, by first | exact hS | exact hid hS.out.drew1 | exact hid (hS.out.drewK _), by first | exact hB | exact hid hB.out.drew | exact hid (below_drewN hB.out _)⟩, by simp [intOf]; omega⟩
    · obtain rfl : k = i := by omega
      obtain ⟨g1, rfl, _, p0, p1⟩ := (H1.out.below hB.out (Nat.le_refl _)) k (u, v) hi
      have p0 : wr.cell? (g1.add (k * 2)) = some (.int .i64 u) := p0
      have p1 : wr.cell? ⟨(g1.add (k * 2)).block, (g1.add (k * 2)).off + 1, none⟩ = some (.int .i64 v) := by
        show wr.cell? ((g1.add (k * 2)).add 1) = _
        rw [add_one8]; exact p1
      unfold hasI at hu
      obtain ⟨d1, d2, d3⟩ := of_decide_eq_true hu
      have f1 : decide (b ≤ u) = true := decide_eq_true d1
      have f2 : decide (v ≤ e) = true := decide_eq_true d3
      have f3 : decide (u < v) = true := decide_eq_true d2
      clear H1 hi hno hu
      go_wp2
      go_quiet (fail)
      go_wp2
      go_ret
      exact ⟨rfl, by first | exact hB.out | exact hB.out.drew | exact below_drewN hB.out _⟩
end Go.Proofs.YtjcapdkibbjmiaaGreatDoor
