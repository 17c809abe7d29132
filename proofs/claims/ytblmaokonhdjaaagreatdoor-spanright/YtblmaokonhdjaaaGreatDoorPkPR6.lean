import Derived.Test.YtblmaokonhdjaaaGreatDoorPkPR2
import Derived.Test.YtblmaokonhdjaaaGreatDoorPkPP4
import Derived.BigQuiet
import Derived.Deep.RegionHeld3
/- Layer 14, the document: Root, Check -/
namespace Go.Proofs.YtblmaokonhdjaaaGreatDoor
open Go.RowKit Go.Shelf
namespace Spn
set_option maxRecDepth 100000 in
set_option maxHeartbeats 4000000 in
theorem rroot14_range (n x y : Int) (nH nL : Nat) (hne : ¬ (n ≤ 1099511627776 ∧ runB n x y = true)) (aH aL : Option Addr) (cH cL : Nat) (w : World) :
    Calls Tryz.prog 28 #[rn n x y (.slice aH nH cH), .slice aL nL cL] w fun r w' => r = .returned (.tuple #[.string ⟨#[]⟩, .int .i64 140]) ∧ Below w.heap.size w w' := by
  have W1 := RnI.new w n x y (.slice aH nH cH)
  have b1 := (Below.refl w.heap.size w).alloc (Nat.le_refl _) (.cells #[.int .i64 n, .int .i64 x, .int .i64 y, .slice aH nH cH] 24)
  have b2' := (Below.refl _ (w.alloc (.cells #[.int .i64 n, .int .i64 x, .int .i64 y, .slice aH nH cH] 24))).alloc (Nat.le_refl _) (.cells #[.int .i64 x, .int .i64 y] 50)
  have S2 := SpI.new (w.alloc (.cells #[.int .i64 n, .int .i64 x, .int .i64 y, .slice aH nH cH] 24)) x y
  rw [size_alloc] at S2
  have W2 := W1.below b2'
  have b2 := b1.trans (b2'.mono b1.size)
  have k1 := W1.c1
  have k2 := W1.c2
  have l0 := W2.c0
  have l1 := S2.c0
  have l2 := S2.c1
  have HW := hid W2
  have HB := hid b2
  obtain ⟨q, hq⟩ : ∃ q, runB n x y = q := ⟨_, rfl⟩
  have i1 := fun w' => rrun14_is n x y q hq w'
  have hc : n < 1 ∨ (¬ n < 1 ∧ 1099511627776 < n) ∨ (¬ n < 1 ∧ ¬ 1099511627776 < n ∧ q = false) := by
    by_cases c1 : n < 1
    · exact .inl c1
    · by_cases c2 : 1099511627776 < n
      · exact .inr (.inl ⟨c1, c2⟩)
      · refine .inr (.inr ⟨c1, c2, ?_⟩)
        rw [hq] at hne
        cases q with
        | false => rfl
        | true => exact absurd ⟨by omega, rfl⟩ hne
  clear W1 b1 b2' S2 W2 b2 hne hq
  rcases hc with c1 | ⟨c1, c2⟩ | ⟨c1, c2, rfl⟩
  all_goals
    go_enter Tryz.func28, Tryz.ntmps28
    go_upto_region 3 with (go_at_call 60; (with_reducible refine (i1 _).mono ?_); rintro r w3 ⟨rfl, b3⟩)
    have B3 := hid (HB.out.trans (b3.mono HB.out.size))
    have m0 := (HW.out.below b3).c0
    clear b3 i1 k1 k2 l0 l1 l2
    go_wp2
    go_ret2
    exact ⟨rfl, B3.out⟩
theorem bl_drewN {B : Nat} {a w : World} (h : Below B a w) (n : Nat) : Below B a (w.drewN n) := ⟨h.os, h.tape, h.output, h.size, h.block⟩
set_option maxRecDepth 100000 in
set_option maxHeartbeats 8000000 in
theorem rroot14_form (N s e : Nat) (H L : List (List UInt8)) (hse : s < e) (hen : e ≤ N) (hN : N ≤ 1099511627776) (hH : H.length ≤ 9223372036854775807) (hL : L.length ≤ 9223372036854775807) (hne : ¬ (H.length = (Tree.runF N 0 N s e).length ∧ L.length = e - s ∧ L.length ≤ 4096 ∧ hsB8 H = true ∧ hsB8 L = true)) (aH aL : Option Addr) (cH cL : Nat) (w : World) (hAH : At w aH H) (hAL : At w aL L) :
    Calls Tryz.prog 28 #[rn (N : Int) (s : Int) (e : Int) (.slice aH H.length cH), .slice aL L.length cL] w fun r w' => r = .returned (.tuple #[.string ⟨#[]⟩, .int .i64 141]) ∧ Below w.heap.size w w' := by
  have W1 := RnI.new w (N : Int) (s : Int) (e : Int) (.slice aH H.length cH)
  have b1 := (Below.refl w.heap.size w).alloc (Nat.le_refl _) (.cells #[.int .i64 (N : Int), .int .i64 (s : Int), .int .i64 (e : Int), .slice aH H.length cH] 24)
  have b2' := (Below.refl _ (w.alloc (.cells #[.int .i64 (N : Int), .int .i64 (s : Int), .int .i64 (e : Int), .slice aH H.length cH] 24))).alloc (Nat.le_refl _) (.cells #[.int .i64 (s : Int), .int .i64 (e : Int)] 50)
  have S2 := SpI.new (w.alloc (.cells #[.int .i64 (N : Int), .int .i64 (s : Int), .int .i64 (e : Int), .slice aH H.length cH] 24)) (s : Int) (e : Int)
  rw [size_alloc] at S2
  have W2 := W1.below b2'
  have b2 := b1.trans (b2'.mono b1.size)
  have k1 := W1.c1
  have k2 := W1.c2
  have l0 := W2.c0
  have l1 := S2.c0
  have l2 := S2.c1
  have HW := hid W2
  have HS := hid S2
  have HB := hid b2
  have hq : runB (N : Int) (s : Int) (e : Int) = true := by unfold runB; simp only [decide_eq_true_eq]; omega
  have i1 := fun w' => rrun14_is (N : Int) (s : Int) (e : Int) true hq w'
  have c1 : ¬ (N : Int) < 1 := by omega
  have c2 : ¬ (1099511627776 : Int) < (N : Int) := by omega
  have i2 := fun w' => rtold14_any s e hse (by omega) N 0 N (Nat.le_refl _) (by omega) (by omega) w'
  rw [Nat.zero_add] at i2
  obtain ⟨T, hTl⟩ : ∃ T, (Tree.runF N 0 N s e).length = T := ⟨_, rfl⟩
  obtain ⟨d, hd⟩ : ∃ d, e - s = d := ⟨_, rfl⟩
  have hsub : IntKind.i64.wrap ((e : Int) - (s : Int)) = (d : Int) := by rw [IntKind.wrap_i64]; omega
  obtain ⟨qH, hqH⟩ : ∃ q, hsB8 H = q := ⟨_, rfl⟩
  obtain ⟨qL, hqL⟩ : ∃ q, hsB8 L = q := ⟨_, rfl⟩
  have i3 := hid fun (w' : World) (hb : Below w.heap.size w w') => rhashes14_is H qH hqH aH cH w' hH (hAH.below hb (Nat.le_refl _))
  have i4 := hid fun (w' : World) (hb : Below w.heap.size w w') => rhashes14_is L qL hqL aL cL w' hL (hAL.below hb (Nat.le_refl _))
  have I2 : Hid (∀ w' : World, Calls Tryz.prog 34 #[sg (s : Int) (e : Int), .int .i64 0, .int .i64 (N : Int)] w' fun r w'' => ∃ a c, r = .returned (.slice a T c) ∧ Below w'.heap.size w' w'') := fun w' => (i2 w').mono fun r w'' ⟨v, g1, g2, _, g4⟩ => by
    obtain ⟨a, c, hh, _⟩ := OwnM.shape g2
    exact ⟨a, c, by rw [g1, hh, hTl], g4⟩
  rw [hTl, hd, hqH, hqL] at hne
  have HTl := hid hTl
  clear W1 b1 b2' S2 W2 b2 hq i2 hqH hqL hAH hAL hTl
  generalize H.length = nH at *
  generalize L.length = nL at *
  have hc : (nL ≠ d) ∨ (nL = d ∧ 4096 < nL) ∨ (nL = d ∧ nL ≤ 4096 ∧ nH ≠ T) ∨ (nL = d ∧ nL ≤ 4096 ∧ nH = T ∧ qH = false) ∨ (nL = d ∧ nL ≤ 4096 ∧ nH = T ∧ qH = true ∧ qL = false) := by
    by_cases g1 : nL = d
    · by_cases g2 : nL ≤ 4096
      · by_cases g3 : nH = T
        · cases qH with
          | false => exact .inr (.inr (.inr (.inl ⟨g1, g2, g3, rfl⟩)))
          | true =>
            cases qL with
            | false => exact .inr (.inr (.inr (.inr ⟨g1, g2, g3, rfl, rfl⟩)))
            | true => exact absurd ⟨g3, g1, g2, rfl, rfl⟩ hne
        · exact .inr (.inr (.inl ⟨g1, g2, g3⟩))
      · exact .inr (.inl ⟨g1, by omega⟩)
    · exact .inl g1
  clear hne hd hse hen hN
  go_enter Tryz.func28, Tryz.ntmps28
  go_upto_region 3 with (go_at_call 60; (with_reducible refine (i1 _).mono ?_); rintro r w3 ⟨rfl, b3⟩)
  have B3 := hid (HB.out.trans (b3.mono HB.out.size))
  have W3 := HW.out.below b3
  have S3 := HS.out.below b3
  have m0 := W3.c0
  have m3 := W3.c3
  have n0 := S3.c0
  have n1 := S3.c1
  have i3' := i3.out w3 B3.out
  have i4' := i4.out w3 B3.out
  have MK : Hid (∀ w', Below w3.heap.size w3 w' → (w'.cell? ⟨w.heap.size, 0, none⟩ = some (.int .i64 (N : Int)) ∧ w'.cell? ⟨w.heap.size, 3, none⟩ = some (.slice aH nH cH)) ∧ w'.cell? ⟨w.heap.size + 1, 0, none⟩ = some (.int .i64 (s : Int)) ∧ w'.cell? ⟨w.heap.size + 1, 1, none⟩ = some (.int .i64 (e : Int))) := fun w' hb => ⟨⟨(W3.below hb).c0, (W3.below hb).c3⟩, (S3.below hb).c0, (S3.below hb).c1⟩
  have X0 := MK.out w3 (Below.refl _ _)
  clear b3 i1 k1 k2 l0 l1 l2 W3 S3 i3 i4 HW HS
  go_upto_region 7 with (first
    | (go_at_call 61; (with_reducible refine i3'.mono ?_); rintro r w9 ⟨rfl, hw9⟩; replace hw9 := hw9.symm; subst hw9; clear i3')
    | (go_at_call 61; (with_reducible refine i4'.mono ?_); rintro r w9 ⟨rfl, hw9⟩; replace hw9 := hw9.symm; subst hw9; clear i4'))
  clear m0 m3 n0 n1
  rcases hc with g1 | ⟨rfl, g2⟩ | ⟨rfl, g2, g3⟩ | ⟨rfl, g2, rfl, rfl⟩ | ⟨rfl, g2, rfl, rfl, rfl⟩
  · have u1 : ((nL : Int) != (d : Int)) = true := by simp; omega
    obtain ⟨⟨m0, m3⟩, n0, n1⟩ := X0
    clear g1
    go_quiet (fail)
    go_wp2
    go_ret2
    exact ⟨rfl, bl_drewN B3.out _⟩
  · have u1 : ((nL : Int) != (nL : Int)) = false := by simp
    have u2 : decide ((4096 : Int) < (nL : Int)) = true := decide_eq_true (by omega)
    obtain ⟨⟨m0, m3⟩, n0, n1⟩ := X0
    clear g2
    go_quiet (fail)
    go_wp2
    go_ret2
    exact ⟨rfl, bl_drewN B3.out _⟩
  · have u1 : ((nL : Int) != (nL : Int)) = false := by simp
    have u2 : decide ((4096 : Int) < (nL : Int)) = false := decide_eq_false (by omega)
    have u3 : ((nH : Int) != (T : Int)) = true := by simp; omega
    clear g2 g3
    refine wp_region_noPanic ?_
    refine wp_region_held_drew (S := (fun W => (W.cell? ⟨w.heap.size, 0, none⟩ = some (.int .i64 (N : Int)) ∧ W.cell? ⟨w.heap.size, 3, none⟩ = some (.slice aH nH cH)) ∧ W.cell? ⟨w.heap.size + 1, 0, none⟩ = some (.int .i64 (s : Int)) ∧ W.cell? ⟨w.heap.size + 1, 1, none⟩ = some (.int .i64 (e : Int)))) (by kernel_rfl) X0 (fun hHeld => ?_)
    refine wpAnyH_take (i := 0) (oi := ⟨some 37, _, _, _, _, _⟩) (v := ?va0) rfl (by kernel_rfl) (by kernel_rfl) (by kernel_rfl) (fun _ _ _ h => h) (Or.inl ⟨by rfl, ?hya0⟩) (by assumption) ?resta0
    case hya0 => (intro w hSw; (try dsimp only at hSw); go_simp <;> (try with_reducible rfl))
    try simp only [Act.put, List.setIfInBounds_toArray, List.set_cons_zero, List.set_cons_succ]
    refine wpAnyH_take (i := 1) (oi := ⟨some 38, _, _, _, _, _⟩) (v := ?va1) rfl (by kernel_rfl) (by kernel_rfl) (by kernel_rfl) (fun _ _ _ h => h) (Or.inl ⟨by rfl, ?hya1⟩) (by assumption) ?resta1
    case hya1 => (intro w hSw; (try dsimp only at hSw); go_simp <;> (try with_reducible rfl))
    try simp only [Act.put, List.setIfInBounds_toArray, List.set_cons_zero, List.set_cons_succ]
    refine wpAnyH_take (i := 2) (oi := ⟨some 39, _, _, _, _, _⟩) (v := ?va2) rfl (by kernel_rfl) (by kernel_rfl) (by kernel_rfl) (fun _ _ _ h => h) (Or.inl ⟨by rfl, ?hya2⟩) (by assumption) ?resta2
    case hya2 => (intro w hSw; (try dsimp only at hSw); go_simp <;> (try with_reducible rfl))
    try simp only [Act.put, List.setIfInBounds_toArray, List.set_cons_zero, List.set_cons_succ]
    refine wpAnyH_take (i := 3) (oi := ⟨some 40, _, _, _, _, _⟩) (v := ?va3) rfl (by kernel_rfl) (by kernel_rfl) (by kernel_rfl) (fun _ _ _ h => h) (Or.inl ⟨by rfl, ?hya3⟩) (by assumption) ?resta3
    case hya3 => (intro w hSw; (try dsimp only at hSw); go_simp <;> (try with_reducible rfl))
    try simp only [Act.put, List.setIfInBounds_toArray, List.set_cons_zero, List.set_cons_succ]
    refine wpAnyH_take (i := 4) (oi := ⟨some 41, _, _, _, _, _⟩) (v := ?va4) rfl (by kernel_rfl) (by kernel_rfl) (by kernel_rfl) (fun _ _ _ h => h) (Or.inl ⟨by rfl, ?hya4⟩) (by assumption) ?resta4
    case hya4 => (intro w hSw; (try dsimp only at hSw); go_simp <;> (try with_reducible rfl))
    try simp only [Act.put, List.setIfInBounds_toArray, List.set_cons_zero, List.set_cons_succ]
    refine wpAnyH_take (i := 5) (oi := ⟨some 42, _, _, _, _, _⟩) (v := ?va5) rfl (by kernel_rfl) (by kernel_rfl) (by kernel_rfl) (fun _ _ _ h => h) (Or.inl ⟨by rfl, ?hya5⟩) (by assumption) ?resta5
    case hya5 => (intro w hSw; (try dsimp only at hSw); go_simp <;> (try with_reducible rfl))
    try simp only [Act.put, List.setIfInBounds_toArray, List.set_cons_zero, List.set_cons_succ]
    refine wpAnyH_take (i := 6) (oi := ⟨some 43, _, _, _, _, _⟩) (v := ?va6) rfl (by kernel_rfl) (by kernel_rfl) (by kernel_rfl) (fun _ _ _ h => h) (Or.inl ⟨by rfl, ?hya6⟩) (by assumption) ?resta6
    case hya6 => (intro w hSw; (try dsimp only at hSw); go_simp <;> (try with_reducible rfl))
    try simp only [Act.put, List.setIfInBounds_toArray, List.set_cons_zero, List.set_cons_succ]
    refine wpAnyH_take (i := 7) (oi := ⟨some 44, _, _, _, _, _⟩) (v := ?va7) rfl (by kernel_rfl) (by kernel_rfl) (by kernel_rfl) (fun _ _ _ h => h) (Or.inl ⟨by rfl, ?hya7⟩) (by assumption) ?resta7
    case hya7 => (intro w hSw; (try dsimp only at hSw); go_simp <;> (try with_reducible rfl))
    try simp only [Act.put, List.setIfInBounds_toArray, List.set_cons_zero, List.set_cons_succ]
    refine wpAnyH_take (i := 8) (oi := ⟨some 45, _, _, _, _, _⟩) (v := ?va8) rfl (by kernel_rfl) (by kernel_rfl) (by kernel_rfl) (fun _ _ _ h => h) (Or.inl ⟨by rfl, ?hya8⟩) (by assumption) ?resta8
    case hya8 => (intro w hSw; (try dsimp only at hSw); go_simp <;> (try with_reducible rfl))
    try simp only [Act.put, List.setIfInBounds_toArray, List.set_cons_zero, List.set_cons_succ]
    refine wpAnyH_take (i := 9) (oi := ⟨some 46, _, _, _, _, _⟩) (v := ?va9) rfl (by kernel_rfl) (by kernel_rfl) (by kernel_rfl) (fun _ _ _ h => h) (Or.inl ⟨by rfl, ?hya9⟩) (by assumption) ?resta9
    case hya9 => (intro w hSw; (try dsimp only at hSw); go_simp <;> (try with_reducible rfl))
    try simp only [Act.put, List.setIfInBounds_toArray, List.set_cons_zero, List.set_cons_succ]
    refine wpAnyH_take (i := 10) (oi := ⟨some 47, _, _, _, _, _⟩) (v := ?va10) rfl (by kernel_rfl) (by kernel_rfl) (by kernel_rfl) (fun _ _ _ h => h) (Or.inl ⟨by rfl, ?hya10⟩) (by assumption) ?resta10
    case hya10 => (intro w hSw; (try dsimp only at hSw); go_simp <;> (try with_reducible rfl))
    try simp only [Act.put, List.setIfInBounds_toArray, List.set_cons_zero, List.set_cons_succ]
    refine wpAnyH_take (i := 11) (oi := ⟨some 48, _, _, _, _, _⟩) (v := ?va11) rfl (by kernel_rfl) (by kernel_rfl) (by kernel_rfl) (fun _ _ _ h => h) (Or.inl ⟨by rfl, ?hya11⟩) (by assumption) ?resta11
    case hya11 => (intro w hSw; (try dsimp only at hSw); go_simp <;> (try with_reducible rfl))
    try simp only [Act.put, List.setIfInBounds_toArray, List.set_cons_zero, List.set_cons_succ]
    refine wpAnyH_take (i := 12) (oi := ⟨some 49, _, _, _, _, _⟩) (v := ?va12) rfl (by kernel_rfl) (by kernel_rfl) (by kernel_rfl) (fun _ _ _ h => h) (Or.inl ⟨by rfl, ?hya12⟩) (by assumption) ?resta12
    case hya12 => (intro w hSw; (try dsimp only at hSw); go_simp <;> (try with_reducible rfl))
    try simp only [Act.put, List.setIfInBounds_toArray, List.set_cons_zero, List.set_cons_succ]
    refine wpAnyH_take (i := 13) (oi := ⟨some 50, _, _, _, _, _⟩) (v := ?va13) rfl (by kernel_rfl) (by kernel_rfl) (by kernel_rfl) (fun _ _ _ h => h) (Or.inl ⟨by rfl, ?hya13⟩) (by assumption) ?resta13
    case hya13 => (intro w hSw; (try dsimp only at hSw); go_simp <;> (try with_reducible rfl))
    try simp only [Act.put, List.setIfInBounds_toArray, List.set_cons_zero, List.set_cons_succ]
    refine wpAnyH_take (i := 14) (oi := ⟨some 51, _, _, _, _, _⟩) (v := ?va14) rfl (by kernel_rfl) (by kernel_rfl) (by kernel_rfl) (fun _ _ _ h => h) (Or.inl ⟨by rfl, ?hya14⟩) (by assumption) ?resta14
    case hya14 => (intro w hSw; (try dsimp only at hSw); go_simp <;> (try with_reducible rfl))
    try simp only [Act.put, List.setIfInBounds_toArray, List.set_cons_zero, List.set_cons_succ]
    refine wpAnyH_take (i := 15) (oi := ⟨some 52, _, _, _, _, _⟩) (v := ?va15) rfl (by kernel_rfl) (by kernel_rfl) (by kernel_rfl) (fun _ _ _ h => h) (Or.inl ⟨by rfl, ?hya15⟩) (by assumption) ?resta15
    case hya15 => (intro w hSw; (try dsimp only at hSw); go_simp <;> (try with_reducible rfl))
    try simp only [Act.put, List.setIfInBounds_toArray, List.set_cons_zero, List.set_cons_succ]
    refine wpAnyH_take (i := 16) (oi := ⟨some 53, _, _, _, _, _⟩) (v := ?va16) rfl (by kernel_rfl) (by kernel_rfl) (by kernel_rfl) (fun _ _ _ h => h) (Or.inl ⟨by rfl, ?hya16⟩) (by assumption) ?resta16
    case hya16 => (intro w hSw; (try dsimp only at hSw); go_simp <;> (try with_reducible rfl))
    try simp only [Act.put, List.setIfInBounds_toArray, List.set_cons_zero, List.set_cons_succ]
    refine wpAnyH_take (i := 17) (oi := ⟨some 54, _, _, _, _, _⟩) (v := ?va17) rfl (by kernel_rfl) (by kernel_rfl) (by kernel_rfl) (fun _ _ _ h => h) (Or.inl ⟨by rfl, ?hya17⟩) (by assumption) ?resta17
    case hya17 => (intro w hSw; (try dsimp only at hSw); go_simp <;> (try with_reducible rfl))
    try simp only [Act.put, List.setIfInBounds_toArray, List.set_cons_zero, List.set_cons_succ]
    refine wpAnyH_take (i := 18) (oi := ⟨some 55, _, _, _, _, _⟩) (v := ?va18) rfl (by kernel_rfl) (by kernel_rfl) (by kernel_rfl) (fun _ _ _ h => h) (Or.inl ⟨by rfl, ?hya18⟩) (by assumption) ?resta18
    case hya18 => (intro w hSw; (try dsimp only at hSw); go_simp <;> (try with_reducible rfl))
    try simp only [Act.put, List.setIfInBounds_toArray, List.set_cons_zero, List.set_cons_succ]
    refine wpAnyH_take (i := 19) (oi := ⟨some 56, _, _, _, _, _⟩) (v := ?va19) rfl (by kernel_rfl) (by kernel_rfl) (by kernel_rfl) (fun _ _ _ h => h) (Or.inl ⟨by rfl, ?hya19⟩) (by assumption) ?resta19
    case hya19 => (intro w hSw; (try dsimp only at hSw); go_simp <;> (try with_reducible rfl))
    try simp only [Act.put, List.setIfInBounds_toArray, List.set_cons_zero, List.set_cons_succ]
    refine wpAnyH_ready (rs := [20]) (by kernel_rfl) (by simp) ?_
    refine AllReadyH.cons (o := ⟨some 57, _, _, _, _, _⟩) rfl (fun K hK => ?_) AllReadyH.nil
    go_simp
    go_at_call 34
    refine (I2.out _).mono ?_
    rintro r w5 ⟨a5, c5, rfl, b5⟩
    have B5 := hid ((Below.refl w3.heap.size w3).drew.trans (b5.mono (Nat.le_refl _)))
    have X5 := MK.out _ B5.out
    clear b5
    clear hHeld
    refine hK.out _ _ ?hSa20 (fun hHeld => ?resta20)
    case hSa20 => exact X5
    clear hK K
    try simp only [Act.put, List.setIfInBounds_toArray, List.set_cons_zero, List.set_cons_succ]
    refine wpAnyH_take (i := 21) (oi := ⟨some 58, _, _, _, _, _⟩) (v := ?va21) rfl (by kernel_rfl) (by kernel_rfl) (by kernel_rfl) (fun _ _ _ h => h) (Or.inl ⟨by rfl, ?hya21⟩) (by assumption) ?resta21
    case hya21 => (intro w hSw; (try dsimp only at hSw); go_simp <;> (try with_reducible rfl))
    try simp only [Act.put, List.setIfInBounds_toArray, List.set_cons_zero, List.set_cons_succ]
    refine wpAnyH_take (i := 22) (oi := ⟨some 59, _, _, _, _, _⟩) (v := ?va22) rfl (by kernel_rfl) (by kernel_rfl) (by kernel_rfl) (fun _ _ _ h => h) (Or.inl ⟨by rfl, ?hya22⟩) (by assumption) ?resta22
    case hya22 => (intro w hSw; (try dsimp only at hSw); go_simp <;> (try with_reducible rfl))
    try simp only [Act.put, List.setIfInBounds_toArray, List.set_cons_zero, List.set_cons_succ]
    refine wpAnyH_take (i := 23) (oi := ⟨some 60, _, _, _, _, _⟩) (v := ?va23) rfl (by kernel_rfl) (by kernel_rfl) (by kernel_rfl) (fun _ _ _ h => h) (Or.inl ⟨by rfl, ?hya23⟩) (by assumption) ?resta23
    case hya23 => (intro w hSw; (try dsimp only at hSw); go_simp <;> (try with_reducible rfl))
    try simp only [Act.put, List.setIfInBounds_toArray, List.set_cons_zero, List.set_cons_succ]
    refine wpAnyH_take (i := 24) (oi := ⟨some 61, _, _, _, _, _⟩) (v := ?va24) rfl (by kernel_rfl) (by kernel_rfl) (by kernel_rfl) (fun _ _ _ h => h) (Or.inl ⟨by rfl, ?hya24⟩) (by assumption) ?resta24
    case hya24 => (intro w hSw; (try dsimp only at hSw); go_simp <;> (try with_reducible rfl))
    try simp only [Act.put, List.setIfInBounds_toArray, List.set_cons_zero, List.set_cons_succ]
    refine wpAnyH_take (i := 25) (oi := ⟨some 62, _, _, _, _, _⟩) (v := undef) rfl (by kernel_rfl) (by kernel_rfl) (by kernel_rfl) (fun _ _ _ h => h) (Or.inr ⟨by rfl, rfl⟩) (by assumption) ?resta25
    try simp only [Act.put, List.setIfInBounds_toArray, List.set_cons_zero, List.set_cons_succ]
    refine wpAnyH_take (i := 26) (oi := ⟨some 63, _, _, _, _, _⟩) (v := undef) rfl (by kernel_rfl) (by kernel_rfl) (by kernel_rfl) (fun _ _ _ h => h) (Or.inr ⟨by rfl, rfl⟩) (by assumption) ?resta26
    try simp only [Act.put, List.setIfInBounds_toArray, List.set_cons_zero, List.set_cons_succ]
    refine wpAnyH_take (i := 27) (oi := ⟨some 64, _, _, _, _, _⟩) (v := ?va27) rfl (by kernel_rfl) (by kernel_rfl) (by kernel_rfl) (fun _ _ _ h => h) (Or.inl ⟨by rfl, ?hya27⟩) (by assumption) ?resta27
    case hya27 => (intro w hSw; (try dsimp only at hSw); go_simp <;> (try with_reducible rfl))
    try simp only [Act.put, List.setIfInBounds_toArray, List.set_cons_zero, List.set_cons_succ]
    refine wpAnyH_take (i := 28) (oi := ⟨some 65, _, _, _, _, _⟩) (v := ?va28) rfl (by kernel_rfl) (by kernel_rfl) (by kernel_rfl) (fun _ _ _ h => h) (Or.inl ⟨by rfl, ?hya28⟩) (by assumption) ?resta28
    case hya28 => (intro w hSw; (try dsimp only at hSw); go_simp <;> (try with_reducible rfl))
    try simp only [Act.put, List.setIfInBounds_toArray, List.set_cons_zero, List.set_cons_succ]
    refine wpAnyH_take (i := 29) (oi := ⟨some 66, _, _, _, _, _⟩) (v := undef) rfl (by kernel_rfl) (by kernel_rfl) (by kernel_rfl) (fun _ _ _ h => h) (Or.inr ⟨by rfl, rfl⟩) (by assumption) ?resta29
    try simp only [Act.put, List.setIfInBounds_toArray, List.set_cons_zero, List.set_cons_succ]
    refine wpAnyH_take (i := 30) (oi := ⟨some 67, _, _, _, _, _⟩) (v := undef) rfl (by kernel_rfl) (by kernel_rfl) (by kernel_rfl) (fun _ _ _ h => h) (Or.inr ⟨by rfl, rfl⟩) (by assumption) ?resta30
    try simp only [Act.put, List.setIfInBounds_toArray, List.set_cons_zero, List.set_cons_succ]
    refine wpAnyH_take (i := 31) (oi := ⟨some 68, _, _, _, _, _⟩) (v := ?va31) rfl (by kernel_rfl) (by kernel_rfl) (by kernel_rfl) (fun _ _ _ h => h) (Or.inl ⟨by rfl, ?hya31⟩) (by assumption) ?resta31
    case hya31 => (intro w hSw; (try dsimp only at hSw); go_simp <;> (try with_reducible rfl))
    try simp only [Act.put, List.setIfInBounds_toArray, List.set_cons_zero, List.set_cons_succ]
    refine wpAnyH_done (by kernel_rfl) ?_ _
    refine NoPanic.normal ?_
    clear hHeld
    go_wp2
    go_ret2
    exact ⟨rfl, B3.out.trans (B5.out.mono B3.out.size)⟩
  · have u1 : ((nL : Int) != (nL : Int)) = false := by simp
    have u2 : decide ((4096 : Int) < (nL : Int)) = false := decide_eq_false (by omega)
    have u3 : ((nH : Int) != (nH : Int)) = false := by simp
    clear g2
    refine wp_region_noPanic ?_
    refine wp_region_held_drew (S := (fun W => (W.cell? ⟨w.heap.size, 0, none⟩ = some (.int .i64 (N : Int)) ∧ W.cell? ⟨w.heap.size, 3, none⟩ = some (.slice aH nH cH)) ∧ W.cell? ⟨w.heap.size + 1, 0, none⟩ = some (.int .i64 (s : Int)) ∧ W.cell? ⟨w.heap.size + 1, 1, none⟩ = some (.int .i64 (e : Int)))) (by kernel_rfl) X0 (fun hHeld => ?_)
    refine wpAnyH_take (i := 0) (oi := ⟨some 37, _, _, _, _, _⟩) (v := ?vb0) rfl (by kernel_rfl) (by kernel_rfl) (by kernel_rfl) (fun _ _ _ h => h) (Or.inl ⟨by rfl, ?hyb0⟩) (by assumption) ?restb0
    case hyb0 => (intro w hSw; (try dsimp only at hSw); go_simp <;> (try with_reducible rfl))
    try simp only [Act.put, List.setIfInBounds_toArray, List.set_cons_zero, List.set_cons_succ]
    refine wpAnyH_take (i := 1) (oi := ⟨some 38, _, _, _, _, _⟩) (v := ?vb1) rfl (by kernel_rfl) (by kernel_rfl) (by kernel_rfl) (fun _ _ _ h => h) (Or.inl ⟨by rfl, ?hyb1⟩) (by assumption) ?restb1
    case hyb1 => (intro w hSw; (try dsimp only at hSw); go_simp <;> (try with_reducible rfl))
    try simp only [Act.put, List.setIfInBounds_toArray, List.set_cons_zero, List.set_cons_succ]
    refine wpAnyH_take (i := 2) (oi := ⟨some 39, _, _, _, _, _⟩) (v := ?vb2) rfl (by kernel_rfl) (by kernel_rfl) (by kernel_rfl) (fun _ _ _ h => h) (Or.inl ⟨by rfl, ?hyb2⟩) (by assumption) ?restb2
    case hyb2 => (intro w hSw; (try dsimp only at hSw); go_simp <;> (try with_reducible rfl))
    try simp only [Act.put, List.setIfInBounds_toArray, List.set_cons_zero, List.set_cons_succ]
    refine wpAnyH_take (i := 3) (oi := ⟨some 40, _, _, _, _, _⟩) (v := ?vb3) rfl (by kernel_rfl) (by kernel_rfl) (by kernel_rfl) (fun _ _ _ h => h) (Or.inl ⟨by rfl, ?hyb3⟩) (by assumption) ?restb3
    case hyb3 => (intro w hSw; (try dsimp only at hSw); go_simp <;> (try with_reducible rfl))
    try simp only [Act.put, List.setIfInBounds_toArray, List.set_cons_zero, List.set_cons_succ]
    refine wpAnyH_take (i := 4) (oi := ⟨some 41, _, _, _, _, _⟩) (v := ?vb4) rfl (by kernel_rfl) (by kernel_rfl) (by kernel_rfl) (fun _ _ _ h => h) (Or.inl ⟨by rfl, ?hyb4⟩) (by assumption) ?restb4
    case hyb4 => (intro w hSw; (try dsimp only at hSw); go_simp <;> (try with_reducible rfl))
    try simp only [Act.put, List.setIfInBounds_toArray, List.set_cons_zero, List.set_cons_succ]
    refine wpAnyH_take (i := 5) (oi := ⟨some 42, _, _, _, _, _⟩) (v := ?vb5) rfl (by kernel_rfl) (by kernel_rfl) (by kernel_rfl) (fun _ _ _ h => h) (Or.inl ⟨by rfl, ?hyb5⟩) (by assumption) ?restb5
    case hyb5 => (intro w hSw; (try dsimp only at hSw); go_simp <;> (try with_reducible rfl))
    try simp only [Act.put, List.setIfInBounds_toArray, List.set_cons_zero, List.set_cons_succ]
    refine wpAnyH_take (i := 6) (oi := ⟨some 43, _, _, _, _, _⟩) (v := ?vb6) rfl (by kernel_rfl) (by kernel_rfl) (by kernel_rfl) (fun _ _ _ h => h) (Or.inl ⟨by rfl, ?hyb6⟩) (by assumption) ?restb6
    case hyb6 => (intro w hSw; (try dsimp only at hSw); go_simp <;> (try with_reducible rfl))
    try simp only [Act.put, List.setIfInBounds_toArray, List.set_cons_zero, List.set_cons_succ]
    refine wpAnyH_take (i := 7) (oi := ⟨some 44, _, _, _, _, _⟩) (v := ?vb7) rfl (by kernel_rfl) (by kernel_rfl) (by kernel_rfl) (fun _ _ _ h => h) (Or.inl ⟨by rfl, ?hyb7⟩) (by assumption) ?restb7
    case hyb7 => (intro w hSw; (try dsimp only at hSw); go_simp <;> (try with_reducible rfl))
    try simp only [Act.put, List.setIfInBounds_toArray, List.set_cons_zero, List.set_cons_succ]
    refine wpAnyH_take (i := 8) (oi := ⟨some 45, _, _, _, _, _⟩) (v := ?vb8) rfl (by kernel_rfl) (by kernel_rfl) (by kernel_rfl) (fun _ _ _ h => h) (Or.inl ⟨by rfl, ?hyb8⟩) (by assumption) ?restb8
    case hyb8 => (intro w hSw; (try dsimp only at hSw); go_simp <;> (try with_reducible rfl))
    try simp only [Act.put, List.setIfInBounds_toArray, List.set_cons_zero, List.set_cons_succ]
    refine wpAnyH_take (i := 9) (oi := ⟨some 46, _, _, _, _, _⟩) (v := ?vb9) rfl (by kernel_rfl) (by kernel_rfl) (by kernel_rfl) (fun _ _ _ h => h) (Or.inl ⟨by rfl, ?hyb9⟩) (by assumption) ?restb9
    case hyb9 => (intro w hSw; (try dsimp only at hSw); go_simp <;> (try with_reducible rfl))
    try simp only [Act.put, List.setIfInBounds_toArray, List.set_cons_zero, List.set_cons_succ]
    refine wpAnyH_take (i := 10) (oi := ⟨some 47, _, _, _, _, _⟩) (v := ?vb10) rfl (by kernel_rfl) (by kernel_rfl) (by kernel_rfl) (fun _ _ _ h => h) (Or.inl ⟨by rfl, ?hyb10⟩) (by assumption) ?restb10
    case hyb10 => (intro w hSw; (try dsimp only at hSw); go_simp <;> (try with_reducible rfl))
    try simp only [Act.put, List.setIfInBounds_toArray, List.set_cons_zero, List.set_cons_succ]
    refine wpAnyH_take (i := 11) (oi := ⟨some 48, _, _, _, _, _⟩) (v := ?vb11) rfl (by kernel_rfl) (by kernel_rfl) (by kernel_rfl) (fun _ _ _ h => h) (Or.inl ⟨by rfl, ?hyb11⟩) (by assumption) ?restb11
    case hyb11 => (intro w hSw; (try dsimp only at hSw); go_simp <;> (try with_reducible rfl))
    try simp only [Act.put, List.setIfInBounds_toArray, List.set_cons_zero, List.set_cons_succ]
    refine wpAnyH_take (i := 12) (oi := ⟨some 49, _, _, _, _, _⟩) (v := ?vb12) rfl (by kernel_rfl) (by kernel_rfl) (by kernel_rfl) (fun _ _ _ h => h) (Or.inl ⟨by rfl, ?hyb12⟩) (by assumption) ?restb12
    case hyb12 => (intro w hSw; (try dsimp only at hSw); go_simp <;> (try with_reducible rfl))
    try simp only [Act.put, List.setIfInBounds_toArray, List.set_cons_zero, List.set_cons_succ]
    refine wpAnyH_take (i := 13) (oi := ⟨some 50, _, _, _, _, _⟩) (v := ?vb13) rfl (by kernel_rfl) (by kernel_rfl) (by kernel_rfl) (fun _ _ _ h => h) (Or.inl ⟨by rfl, ?hyb13⟩) (by assumption) ?restb13
    case hyb13 => (intro w hSw; (try dsimp only at hSw); go_simp <;> (try with_reducible rfl))
    try simp only [Act.put, List.setIfInBounds_toArray, List.set_cons_zero, List.set_cons_succ]
    refine wpAnyH_take (i := 14) (oi := ⟨some 51, _, _, _, _, _⟩) (v := ?vb14) rfl (by kernel_rfl) (by kernel_rfl) (by kernel_rfl) (fun _ _ _ h => h) (Or.inl ⟨by rfl, ?hyb14⟩) (by assumption) ?restb14
    case hyb14 => (intro w hSw; (try dsimp only at hSw); go_simp <;> (try with_reducible rfl))
    try simp only [Act.put, List.setIfInBounds_toArray, List.set_cons_zero, List.set_cons_succ]
    refine wpAnyH_take (i := 15) (oi := ⟨some 52, _, _, _, _, _⟩) (v := ?vb15) rfl (by kernel_rfl) (by kernel_rfl) (by kernel_rfl) (fun _ _ _ h => h) (Or.inl ⟨by rfl, ?hyb15⟩) (by assumption) ?restb15
    case hyb15 => (intro w hSw; (try dsimp only at hSw); go_simp <;> (try with_reducible rfl))
    try simp only [Act.put, List.setIfInBounds_toArray, List.set_cons_zero, List.set_cons_succ]
    refine wpAnyH_take (i := 16) (oi := ⟨some 53, _, _, _, _, _⟩) (v := ?vb16) rfl (by kernel_rfl) (by kernel_rfl) (by kernel_rfl) (fun _ _ _ h => h) (Or.inl ⟨by rfl, ?hyb16⟩) (by assumption) ?restb16
    case hyb16 => (intro w hSw; (try dsimp only at hSw); go_simp <;> (try with_reducible rfl))
    try simp only [Act.put, List.setIfInBounds_toArray, List.set_cons_zero, List.set_cons_succ]
    refine wpAnyH_take (i := 17) (oi := ⟨some 54, _, _, _, _, _⟩) (v := ?vb17) rfl (by kernel_rfl) (by kernel_rfl) (by kernel_rfl) (fun _ _ _ h => h) (Or.inl ⟨by rfl, ?hyb17⟩) (by assumption) ?restb17
    case hyb17 => (intro w hSw; (try dsimp only at hSw); go_simp <;> (try with_reducible rfl))
    try simp only [Act.put, List.setIfInBounds_toArray, List.set_cons_zero, List.set_cons_succ]
    refine wpAnyH_take (i := 18) (oi := ⟨some 55, _, _, _, _, _⟩) (v := ?vb18) rfl (by kernel_rfl) (by kernel_rfl) (by kernel_rfl) (fun _ _ _ h => h) (Or.inl ⟨by rfl, ?hyb18⟩) (by assumption) ?restb18
    case hyb18 => (intro w hSw; (try dsimp only at hSw); go_simp <;> (try with_reducible rfl))
    try simp only [Act.put, List.setIfInBounds_toArray, List.set_cons_zero, List.set_cons_succ]
    refine wpAnyH_take (i := 19) (oi := ⟨some 56, _, _, _, _, _⟩) (v := ?vb19) rfl (by kernel_rfl) (by kernel_rfl) (by kernel_rfl) (fun _ _ _ h => h) (Or.inl ⟨by rfl, ?hyb19⟩) (by assumption) ?restb19
    case hyb19 => (intro w hSw; (try dsimp only at hSw); go_simp <;> (try with_reducible rfl))
    try simp only [Act.put, List.setIfInBounds_toArray, List.set_cons_zero, List.set_cons_succ]
    refine wpAnyH_ready (rs := [20]) (by kernel_rfl) (by simp) ?_
    refine AllReadyH.cons (o := ⟨some 57, _, _, _, _, _⟩) rfl (fun K hK => ?_) AllReadyH.nil
    go_simp
    go_at_call 34
    refine (I2.out _).mono ?_
    rintro r w5 ⟨a5, c5, rfl, b5⟩
    have B5 := hid ((Below.refl w3.heap.size w3).drew.trans (b5.mono (Nat.le_refl _)))
    have X5 := MK.out _ B5.out
    clear b5
    clear hHeld
    refine hK.out _ _ ?hSb20 (fun hHeld => ?restb20)
    case hSb20 => exact X5
    clear hK K
    try simp only [Act.put, List.setIfInBounds_toArray, List.set_cons_zero, List.set_cons_succ]
    refine wpAnyH_take (i := 21) (oi := ⟨some 58, _, _, _, _, _⟩) (v := ?vb21) rfl (by kernel_rfl) (by kernel_rfl) (by kernel_rfl) (fun _ _ _ h => h) (Or.inl ⟨by rfl, ?hyb21⟩) (by assumption) ?restb21
    case hyb21 => (intro w hSw; (try dsimp only at hSw); go_simp <;> (try with_reducible rfl))
    try simp only [Act.put, List.setIfInBounds_toArray, List.set_cons_zero, List.set_cons_succ]
    refine wpAnyH_take (i := 22) (oi := ⟨some 59, _, _, _, _, _⟩) (v := ?vb22) rfl (by kernel_rfl) (by kernel_rfl) (by kernel_rfl) (fun _ _ _ h => h) (Or.inl ⟨by rfl, ?hyb22⟩) (by assumption) ?restb22
    case hyb22 => (intro w hSw; (try dsimp only at hSw); go_simp <;> (try with_reducible rfl))
    try simp only [Act.put, List.setIfInBounds_toArray, List.set_cons_zero, List.set_cons_succ]
    refine wpAnyH_take (i := 23) (oi := ⟨some 60, _, _, _, _, _⟩) (v := ?vb23) rfl (by kernel_rfl) (by kernel_rfl) (by kernel_rfl) (fun _ _ _ h => h) (Or.inl ⟨by rfl, ?hyb23⟩) (by assumption) ?restb23
    case hyb23 => (intro w hSw; (try dsimp only at hSw); go_simp <;> (try with_reducible rfl))
    try simp only [Act.put, List.setIfInBounds_toArray, List.set_cons_zero, List.set_cons_succ]
    refine wpAnyH_take (i := 24) (oi := ⟨some 61, _, _, _, _, _⟩) (v := ?vb24) rfl (by kernel_rfl) (by kernel_rfl) (by kernel_rfl) (fun _ _ _ h => h) (Or.inl ⟨by rfl, ?hyb24⟩) (by assumption) ?restb24
    case hyb24 => (intro w hSw; (try dsimp only at hSw); go_simp <;> (try with_reducible rfl))
    try simp only [Act.put, List.setIfInBounds_toArray, List.set_cons_zero, List.set_cons_succ]
    refine wpAnyH_take (i := 25) (oi := ⟨some 62, _, _, _, _, _⟩) (v := ?vb25) rfl (by kernel_rfl) (by kernel_rfl) (by kernel_rfl) (fun _ _ _ h => h) (Or.inl ⟨by rfl, ?hyb25⟩) (by assumption) ?restb25
    case hyb25 => (intro w hSw; (try dsimp only at hSw); go_simp <;> (try with_reducible rfl))
    try simp only [Act.put, List.setIfInBounds_toArray, List.set_cons_zero, List.set_cons_succ]
    refine wpAnyH_take (i := 26) (oi := ⟨some 63, _, _, _, _, _⟩) (v := ?vb26) rfl (by kernel_rfl) (by kernel_rfl) (by kernel_rfl) (fun _ _ _ h => h) (Or.inl ⟨by rfl, ?hyb26⟩) (by assumption) ?restb26
    case hyb26 => (intro w hSw; (try dsimp only at hSw); go_simp <;> (try with_reducible rfl))
    try simp only [Act.put, List.setIfInBounds_toArray, List.set_cons_zero, List.set_cons_succ]
    refine wpAnyH_take (i := 27) (oi := ⟨some 64, _, _, _, _, _⟩) (v := ?vb27) rfl (by kernel_rfl) (by kernel_rfl) (by kernel_rfl) (fun _ _ _ h => h) (Or.inl ⟨by rfl, ?hyb27⟩) (by assumption) ?restb27
    case hyb27 => (intro w hSw; (try dsimp only at hSw); go_simp <;> (try with_reducible rfl))
    try simp only [Act.put, List.setIfInBounds_toArray, List.set_cons_zero, List.set_cons_succ]
    refine wpAnyH_take (i := 28) (oi := ⟨some 65, _, _, _, _, _⟩) (v := ?vb28) rfl (by kernel_rfl) (by kernel_rfl) (by kernel_rfl) (fun _ _ _ h => h) (Or.inl ⟨by rfl, ?hyb28⟩) (by assumption) ?restb28
    case hyb28 => (intro w hSw; (try dsimp only at hSw); go_simp <;> (try with_reducible rfl))
    try simp only [Act.put, List.setIfInBounds_toArray, List.set_cons_zero, List.set_cons_succ]
    refine wpAnyH_take (i := 29) (oi := ⟨some 66, _, _, _, _, _⟩) (v := undef) rfl (by kernel_rfl) (by kernel_rfl) (by kernel_rfl) (fun _ _ _ h => h) (Or.inr ⟨by rfl, rfl⟩) (by assumption) ?restb29
    try simp only [Act.put, List.setIfInBounds_toArray, List.set_cons_zero, List.set_cons_succ]
    refine wpAnyH_take (i := 30) (oi := ⟨some 67, _, _, _, _, _⟩) (v := undef) rfl (by kernel_rfl) (by kernel_rfl) (by kernel_rfl) (fun _ _ _ h => h) (Or.inr ⟨by rfl, rfl⟩) (by assumption) ?restb30
    try simp only [Act.put, List.setIfInBounds_toArray, List.set_cons_zero, List.set_cons_succ]
    refine wpAnyH_take (i := 31) (oi := ⟨some 68, _, _, _, _, _⟩) (v := ?vb31) rfl (by kernel_rfl) (by kernel_rfl) (by kernel_rfl) (fun _ _ _ h => h) (Or.inl ⟨by rfl, ?hyb31⟩) (by assumption) ?restb31
    case hyb31 => (intro w hSw; (try dsimp only at hSw); go_simp <;> (try with_reducible rfl))
    try simp only [Act.put, List.setIfInBounds_toArray, List.set_cons_zero, List.set_cons_succ]
    refine wpAnyH_done (by kernel_rfl) ?_ _
    refine NoPanic.normal ?_
    clear hHeld
    go_wp2
    go_ret2
    exact ⟨rfl, B3.out.trans (B5.out.mono B3.out.size)⟩
  · have u1 : ((nL : Int) != (nL : Int)) = false := by simp
    have u2 : decide ((4096 : Int) < (nL : Int)) = false := decide_eq_false (by omega)
    have u3 : ((nH : Int) != (nH : Int)) = false := by simp
    clear g2
    go_region_held3 (fun W => (W.cell? ⟨w.heap.size, 0, none⟩ = some (.int .i64 (N : Int)) ∧ W.cell? ⟨w.heap.size, 3, none⟩ = some (.slice aH nH cH)) ∧ W.cell? ⟨w.heap.size + 1, 0, none⟩ = some (.int .i64 (s : Int)) ∧ W.cell? ⟨w.heap.size + 1, 1, none⟩ = some (.int .i64 (e : Int))) (first | exact X0 | exact X5)
      (first | (go_at_call 34; (refine (I2.out _).mono ?_); rintro r w5 ⟨a5, c5, rfl, b5⟩; have B5 := hid ((Below.refl w3.heap.size w3).drew.trans (b5.mono (Nat.le_refl _))); have X5 := MK.out _ B5.out; clear b5))
    go_wp2
    go_ret2
    exact ⟨rfl, B3.out.trans (B5.out.mono B3.out.size)⟩
set_option maxRecDepth 100000 in
set_option maxHeartbeats 8000000 in
theorem rroot14_ok (N s e : Nat) (H L : List (List UInt8)) (val : Nat × Nat → List UInt8) (V : Val (rix s e) N H L val) (hse : s < e) (hen : e ≤ N) (hN : N ≤ 1099511627776) (hH : H.length ≤ 9223372036854775807) (hL : L.length ≤ 9223372036854775807) (h1 : H.length = (Tree.runF N 0 N s e).length) (h2 : L.length = e - s) (h3 : L.length ≤ 4096) (h4 : hsB8 H = true) (h5 : hsB8 L = true) (aH aL : Option Addr) (cH cL : Nat) (qc1 : H.length ≤ cH) (qc2 : cH ≤ 9223372036854775807) (qc3 : L.length ≤ cL) (qc4 : cL ≤ 9223372036854775807) (w : World) (hAH : At w aH H) (hAL : At w aL L) :
    Calls Tryz.prog 28 #[rn (N : Int) (s : Int) (e : Int) (.slice aH H.length cH), .slice aL L.length cL] w fun r w' => r = .returned (.tuple #[sv (val (0, N)), .int .i64 0]) ∧ Below w.heap.size w w' := by
  have W1 := RnI.new w (N : Int) (s : Int) (e : Int) (.slice aH H.length cH)
  have b1 := (Below.refl w.heap.size w).alloc (Nat.le_refl _) (.cells #[.int .i64 (N : Int), .int .i64 (s : Int), .int .i64 (e : Int), .slice aH H.length cH] 24)
  have b2' := (Below.refl _ (w.alloc (.cells #[.int .i64 (N : Int), .int .i64 (s : Int), .int .i64 (e : Int), .slice aH H.length cH] 24))).alloc (Nat.le_refl _) (.cells #[.int .i64 (s : Int), .int .i64 (e : Int)] 50)
  have S2 := SpI.new (w.alloc (.cells #[.int .i64 (N : Int), .int .i64 (s : Int), .int .i64 (e : Int), .slice aH H.length cH] 24)) (s : Int) (e : Int)
  rw [size_alloc] at S2
  have W2 := W1.below b2'
  have b2 := b1.trans (b2'.mono b1.size)
  have k1 := W1.c1
  have k2 := W1.c2
  have l0 := W2.c0
  have l1 := S2.c0
  have l2 := S2.c1
  have HW := hid W2
  have HS := hid S2
  have HB := hid b2
  have hq : runB (N : Int) (s : Int) (e : Int) = true := by unfold runB; simp only [decide_eq_true_eq]; omega
  have i1 := fun w' => rrun14_is (N : Int) (s : Int) (e : Int) true hq w'
  have c1 : ¬ (N : Int) < 1 := by omega
  have c2 : ¬ (1099511627776 : Int) < (N : Int) := by omega
  have i2 := fun w' => rtold14_any s e hse (by omega) N 0 N (Nat.le_refl _) (by omega) (by omega) w'
  rw [Nat.zero_add] at i2
  obtain ⟨T, hTl⟩ : ∃ T, (Tree.runF N 0 N s e).length = T := ⟨_, rfl⟩
  obtain ⟨d, hd⟩ : ∃ d, e - s = d := ⟨_, rfl⟩
  have hsub : IntKind.i64.wrap ((e : Int) - (s : Int)) = (d : Int) := by rw [IntKind.wrap_i64]; omega
  obtain ⟨qH, hqH⟩ : ∃ q, hsB8 H = q := ⟨_, rfl⟩
  obtain ⟨qL, hqL⟩ : ∃ q, hsB8 L = q := ⟨_, rfl⟩
  have i3 := hid fun (w' : World) (hb : Below w.heap.size w w') => rhashes14_is H qH hqH aH cH w' hH (hAH.below hb (Nat.le_refl _))
  have i4 := hid fun (w' : World) (hb : Below w.heap.size w w') => rhashes14_is L qL hqL aL cL w' hL (hAL.below hb (Nat.le_refl _))
  have I2 : Hid (∀ w' : World, Calls Tryz.prog 34 #[sg (s : Int) (e : Int), .int .i64 0, .int .i64 (N : Int)] w' fun r w'' => ∃ a c, r = .returned (.slice a T c) ∧ Below w'.heap.size w' w'') := fun w' => (i2 w').mono fun r w'' ⟨v, g1, g2, _, g4⟩ => by
    obtain ⟨a, c, hh, _⟩ := OwnM.shape g2
    exact ⟨a, c, by rw [g1, hh, hTl], g4⟩
  rw [hTl] at h1
  rw [hd] at h2
  rw [hqH] at h4
  rw [hqL] at h5
  subst h4 h5
  have hv : ∀ b m, 2 ≤ m → ¬ (b + m ≤ s ∨ e ≤ b) → val (b, b + m) = Tree.nd (val (b, b + Tree.sp m)) (val (b + Tree.sp m, b + m)) := fun b m g1 g2 => val_node V hse b m g1 (by omega) (by omega)
  have VH := val_told V hse (by omega)
  have VL : L = (lwi s e 0 N).map fun i => val (i, i + 1) := by rw [lwi_all hen]; exact V.l
  have IH : Hid (∀ (w1 : World) (_hb : Below w.heap.size w w1), Calls Tryz.prog 62 #[.pointer (some ⟨w1.heap.size, 0, none⟩), sg (s : Int) (e : Int), .int .i64 0, .int .i64 (N : Int)] (w1.alloc (.cells #[.slice aH H.length cH, .slice aL L.length cL] 122)) fun r w' => r = .returned (sv (val (0, N))) ∧ Keep (fun k => k = w1.heap.size) (w1.alloc (.cells #[.slice aH H.length cH, .slice aL L.length cL] 122)) w') := fun w1 hb => by
    have hW : Wk w (w1.alloc (.cells #[.slice aH H.length cH, .slice aL L.length cL] 122)) w1.heap.size H L := ⟨⟨aH, cH, aL, cL, heap_alloc_new w1 _, qc1, qc2, qc3, qc4, hAH, hAL⟩⟩
    have hW2 : Wk w (w1.alloc (.cells #[.slice aH H.length cH, .slice aL L.length cL] 122)) w1.heap.size ((Tree.runF N 0 N s e).map val ++ []) ((lwi s e 0 N).map (fun i => val (i, i + 1)) ++ []) := by
      rw [List.append_nil, List.append_nil, ← VH, ← VL]; exact hW
    have := rhash14_any w w1.heap.size hb.size val s e hv N 0 N _ [] [] (by omega) (Nat.le_refl _) (by omega) (hb.alloc hb.size _) hW2
    rw [Nat.zero_add] at this
    exact this.mono fun r w' ⟨g1, _, g3⟩ => ⟨g1, g3⟩
  have HTl := hid hTl
  clear W1 b1 b2' S2 W2 b2 hq i2 hqH hqL hAH hAL hTl hv VH VL V qc1 qc2 qc3 qc4
  generalize H.length = nH at *
  generalize L.length = nL at *
  subst h1 h2
  have u1 : ((nL : Int) != (nL : Int)) = false := by simp
  have u2 : decide ((4096 : Int) < (nL : Int)) = false := decide_eq_false (by omega)
  have u3 : ((nH : Int) != (nH : Int)) = false := by simp
  clear hd hse hen hN h3
  generalize hR : val (0, N) = R at *
  rw [show sv R = Value.string ⟨R.toArray⟩ from rfl] at *
  clear hR
  go_enter Tryz.func28, Tryz.ntmps28
  go_upto_region 3 with (go_at_call 60; (with_reducible refine (i1 _).mono ?_); rintro r w3 ⟨rfl, b3⟩)
  have B3 := hid (HB.out.trans (b3.mono HB.out.size))
  have W3 := HW.out.below b3
  have S3 := HS.out.below b3
  have m0 := W3.c0
  have m3 := W3.c3
  have n0 := S3.c0
  have n1 := S3.c1
  have i3' := i3.out w3 B3.out
  have i4' := i4.out w3 B3.out
  have MK : Hid (∀ w', Below w3.heap.size w3 w' → (w'.cell? ⟨w.heap.size, 0, none⟩ = some (.int .i64 (N : Int)) ∧ w'.cell? ⟨w.heap.size, 3, none⟩ = some (.slice aH nH cH)) ∧ w'.cell? ⟨w.heap.size + 1, 0, none⟩ = some (.int .i64 (s : Int)) ∧ w'.cell? ⟨w.heap.size + 1, 1, none⟩ = some (.int .i64 (e : Int))) := fun w' hb => ⟨⟨(W3.below hb).c0, (W3.below hb).c3⟩, (S3.below hb).c0, (S3.below hb).c1⟩
  have X0 := MK.out w3 (Below.refl _ _)
  clear b3 i1 k1 k2 l0 l1 l2 W3 S3 i3 i4 HW HS
  go_upto_region 7 with (first
    | (go_at_call 61; (with_reducible refine i3'.mono ?_); rintro r w9 ⟨rfl, hw9⟩; replace hw9 := hw9.symm; subst hw9; clear i3')
    | (go_at_call 61; (with_reducible refine i4'.mono ?_); rintro r w9 ⟨rfl, hw9⟩; replace hw9 := hw9.symm; subst hw9; clear i4'))
  clear m0 m3 n0 n1
  go_region_held3 (fun W => (W.cell? ⟨w.heap.size, 0, none⟩ = some (.int .i64 (N : Int)) ∧ W.cell? ⟨w.heap.size, 3, none⟩ = some (.slice aH nH cH)) ∧ W.cell? ⟨w.heap.size + 1, 0, none⟩ = some (.int .i64 (s : Int)) ∧ W.cell? ⟨w.heap.size + 1, 1, none⟩ = some (.int .i64 (e : Int))) (first | exact X0 | exact X5)
    (first | (go_at_call 34; (refine (I2.out _).mono ?_); rintro r w5 ⟨a5, c5, rfl, b5⟩; have B5 := hid ((Below.refl w3.heap.size w3).drew.trans (b5.mono (Nat.le_refl _))); have X5 := MK.out _ B5.out; clear b5))
  obtain ⟨⟨m0, m3⟩, n0, n1⟩ := X5
  have B6 := hid (B3.out.trans (B5.out.mono B3.out.size))
  have iH := IH.out w5 B6.out
  have b6 := (Below.refl w5.heap.size w5).alloc (Nat.le_refl _) (.cells #[.slice aH nH cH, .slice aL nL cL] 122)
  have B6a := hid b6
  have X6 := MK.out _ (B5.out.trans (b6.mono B5.out.size))
  obtain ⟨⟨r0, r3⟩, p0, p1⟩ := X6
  clear b6 X0 IH MK I2 B5
  go_wp2_with (go_at_call 62; (with_reducible refine iH.mono ?_); rintro r w7 ⟨rfl, k7⟩; have K7 := hid k7; clear k7)
  go_ret2
  refine ⟨rfl, ?_⟩
  have g := B6.out.trans (B6a.out.mono B6.out.size)
  exact ⟨K7.out.os.trans g.os, K7.out.tape.trans g.tape, K7.out.output.trans g.output, Nat.le_trans g.size K7.out.size, fun k hk => (K7.out.block k (Nat.lt_of_lt_of_le hk g.size) fun e => by have := B6.out.size; omega).trans (g.block k hk)⟩
theorem rroot14_any {n x y : Int} {H L : List (List UInt8)} {t : List UInt8} (ht : rotO n x y H L t) (hH : H.length ≤ 9223372036854775807) (hL : L.length ≤ 9223372036854775807) (aH aL : Option Addr) (cH cL : Nat) (qc1 : H.length ≤ cH) (qc2 : cH ≤ 9223372036854775807) (qc3 : L.length ≤ cL) (qc4 : cL ≤ 9223372036854775807) (w : World) (hAH : At w aH H) (hAL : At w aL L) :
    Calls Tryz.prog 28 #[rn n x y (.slice aH H.length cH), .slice aL L.length cL] w fun r w' => r = .returned (.tuple #[sv t, .int .i64 (rotE n x y H L)]) ∧ Below w.heap.size w w' := by
  rcases ht with ⟨h, rfl⟩ | ⟨h, val, V, rfl⟩
  · by_cases c1 : n ≤ 1099511627776 ∧ runB n x y = true
    · have hq := c1.2
      unfold runB at hq
      simp only [decide_eq_true_eq] at hq
      obtain ⟨N, rfl⟩ : ∃ N : Nat, n = (N : Int) := ⟨n.toNat, by omega⟩
      obtain ⟨s, rfl⟩ : ∃ s : Nat, x = (s : Int) := ⟨x.toNat, by omega⟩
      obtain ⟨e, rfl⟩ : ∃ e : Nat, y = (e : Int) := ⟨y.toNat, by omega⟩
      have h2 : ¬ (H.length = (Tree.runF N 0 N s e).length ∧ L.length = e - s ∧ L.length ≤ 4096 ∧ hsB8 H = true ∧ hsB8 L = true) := fun g => h (by unfold rotE; rw [if_pos c1, if_pos ⟨g.1, by omega, g.2.2⟩])
      have he : rotE (N : Int) (s : Int) (e : Int) H L = 141 := by
        unfold rotE
        rw [if_pos c1, if_neg fun g => h2 ⟨g.1, by omega, g.2.2⟩]
      rw [he]
      exact rroot14_form N s e H L (by omega) (by omega) (by omega) hH hL h2 aH aL cH cL w hAH hAL
    · have he : rotE n x y H L = 140 := by unfold rotE; rw [if_neg c1]
      rw [he]
      exact rroot14_range n x y H.length L.length c1 aH aL cH cL w
  · rw [h]
    obtain ⟨n', x', y', rfl, rfl, rfl, h1, h2, h3, h4, h5, h6, h7, h8⟩ := rotE_zero h
    simp only [Int.toNat_natCast] at V ⊢
    exact rroot14_ok n' x' y' H L val V h1 h2 h3 hH hL h4 h5 h6 h7 h8 aH aL cH cL qc1 qc2 qc3 qc4 w hAH hAL
set_option maxRecDepth 100000 in
set_option maxHeartbeats 4000000 in
theorem rcheck14_any {n x y : Int} {H L : List (List UInt8)} {t : List UInt8} (ht : rotO n x y H L t) (rt : List UInt8) (hH : H.length ≤ 9223372036854775807) (hL : L.length ≤ 9223372036854775807) (aH aL : Option Addr) (cH cL : Nat) (qc1 : H.length ≤ cH) (qc2 : cH ≤ 9223372036854775807) (qc3 : L.length ≤ cL) (qc4 : cL ≤ 9223372036854775807) (w : World) (hAH : At w aH H) (hAL : At w aL L) :
    Calls Tryz.prog 32 #[rn n x y (.slice aH H.length cH), .slice aL L.length cL, sv rt] w fun r w' => r = .returned (.int .i64 (chkO (rotE n x y H L) t rt)) ∧ Below w.heap.size w w' := by
  have W1 := RnI.new w n x y (.slice aH H.length cH)
  have b1 := (Below.refl w.heap.size w).alloc (Nat.le_refl _) (.cells #[.int .i64 n, .int .i64 x, .int .i64 y, .slice aH H.length cH] 24)
  have i1 := rroot14_any ht hH hL aH aL cH cL qc1 qc2 qc3 qc4 _ (hAH.below b1 (Nat.le_refl _)) (hAL.below b1 (Nat.le_refl _))
  have k0 := W1.c0
  have k1 := W1.c1
  have k2 := W1.c2
  have k3 := W1.c3
  have HB := hid b1
  rw [show sv t = Value.string ⟨t.toArray⟩ from rfl] at i1
  rw [show sv rt = Value.string ⟨rt.toArray⟩ from rfl]
  generalize rotE n x y H L = e at *
  generalize H.length = nH at *
  generalize L.length = nL at *
  clear W1 b1 hAH hAL ht qc1 qc2 qc3 qc4
  by_cases h0 : e = 0
  · subst h0
    by_cases h1 : t = rt
    · subst h1
      have hr : Hid (chkO 0 t t = 0) := by unfold Hid chkO; rw [if_pos rfl, if_pos rfl]
      have htt : ((ByteArray.mk t.toArray).toList == (ByteArray.mk t.toArray).toList) = true := by simp
      rw [hr.out]
      go_enter Tryz.func32, Tryz.ntmps32
      go_wp2_with (go_at_call 28; (with_reducible refine i1.mono ?_); rintro r w2 ⟨rfl, b2⟩; have B2 := hid (HB.out.trans (b2.mono HB.out.size)); clear b2)
      go_ret
      exact ⟨rfl, B2.out⟩
    · have hr : Hid (chkO 0 t rt = 142) := by unfold Hid chkO; rw [if_pos rfl, if_neg h1]
      have htt : ((ByteArray.mk t.toArray).toList == (ByteArray.mk rt.toArray).toList) = false := by simpa using h1
      have htt' : (t == rt) = false := by simpa using h1
      rw [hr.out]
      clear h1
      go_enter Tryz.func32, Tryz.ntmps32
      go_wp2_with (go_at_call 28; (with_reducible refine i1.mono ?_); rintro r w2 ⟨rfl, b2⟩; have B2 := hid (HB.out.trans (b2.mono HB.out.size)); clear b2)
      go_ret
      exact ⟨rfl, B2.out⟩
  · have hr : Hid (chkO e t rt = e) := by unfold Hid chkO; rw [if_neg h0]
    have h1 : (e != 0) = true := by simpa using h0
    rw [hr.out]
    go_enter Tryz.func32, Tryz.ntmps32
    go_wp2_with (go_at_call 28; (with_reducible refine i1.mono ?_); rintro r w2 ⟨rfl, b2⟩; have B2 := hid (HB.out.trans (b2.mono HB.out.size)); clear b2)
    go_ret
    exact ⟨rfl, B2.out⟩
end Spn
end Go.Proofs.YtblmaokonhdjaaaGreatDoor
