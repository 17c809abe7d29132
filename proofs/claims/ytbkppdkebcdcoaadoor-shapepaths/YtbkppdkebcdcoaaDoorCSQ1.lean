import Derived.Test.YtbkppdkebcdcoaaDoorCSL7
import Derived.Test.YtbkppdkebcdcoaaDoorCSP28
import Derived.Test.YtbkppdkebcdcoaaDoorCFN1
namespace Go.Proofs.YtbkppdkebcdcoaaDoor
open Go.RowKit Go.Shelf
set_option maxRecDepth 100000 in
set_option maxHeartbeats 4000000 in
theorem rleft_at (b e m : Nat) (h2 : 2 ≤ e - b) (he : e ≤ 1099511627776) (hm : Hid (m = b + Tree.sp (e - b))) (w : World) :
    Calls Tryd.prog 47 #[sg b e] w fun r w' => r = .returned (sg b m) ∧ Below w.heap.size w w' := by
  have i1 := fun w' => rMiddle_at b e m h2 he hm w'
  have S0 := SpI.new w b e
  have B0 := hid (((Below.refl w.heap.size w).alloc (Nat.le_refl _) (.cells #[Value.int .i64 (b : Int), .int .i64 (e : Int)] 25)).alloc (by rw [size_alloc]; omega) (.cells #[Value.int .i64 0, .int .i64 0] 25))
  have R1 := SpI.new (w.alloc (.cells #[Value.int .i64 (b : Int), .int .i64 (e : Int)] 25)) 0 0
  have S1 := S0.below ((Below.refl _ _).alloc (Nat.le_refl _) (.cells #[Value.int .i64 0, .int .i64 0] 25))
  rw [size_alloc] at R1
  have c0 := S1.c0
  have c1 := S1.c1
  have R1 := hid R1
  have S1 := hid S1
  clear S0
  go_enter Tryd.func47, Tryd.ntmps47
  go_wp2
  generalize hw2 : (w.alloc (.cells #[Value.int .i64 (b : Int), .int .i64 (e : Int)] 25)).alloc (.cells #[Value.int .i64 0, .int .i64 0] 25) = w2 at *
  go_region_with (first | (go_at_call 42; refine (i1 _).mono ?_; rintro r w1 ⟨rfl, hw1'⟩; have hw1 := drewBelow8 hw1'; have T0 := S1.out.below hw1; have d0 := T0.c0; have d1 := T0.c1; have T1 := R1.out.below hw1; have g0 := T1.f0; have g1 := T1.f1; have e0 := T1.c0; have e1 := T1.c1; have B1 := hid (B0.out.trans (hw1.mono B0.out.size)); have T1 := hid T1))
  all_goals
    go_wp2_with fail
    have U := T1.out.two (b : Int) (m : Int)
    refine bodyPost_ret (v := sg b m) (results_cell_row rfl _ _ (w.heap.size + 1) 25 #[.int .i64 (b : Int), .int .i64 (m : Int)] (0, 0) _ rfl U Tryd.underlying25 rfl sizeSp8) rfl ⟨rfl, ?_⟩
    exact ((B1.out.setCell (p := ⟨w.heap.size + 1, 0, none⟩) (by show w.heap.size ≤ w.heap.size + 1; omega) _).setCell (p := ⟨w.heap.size + 1, 1, none⟩) (by show w.heap.size ≤ w.heap.size + 1; omega) _)
set_option maxRecDepth 100000 in
set_option maxHeartbeats 4000000 in
theorem rright_at (b e m : Nat) (h2 : 2 ≤ e - b) (he : e ≤ 1099511627776) (hm : Hid (m = b + Tree.sp (e - b))) (w : World) :
    Calls Tryd.prog 48 #[sg b e] w fun r w' => r = .returned (sg m e) ∧ Below w.heap.size w w' := by
  have i1 := fun w' => rMiddle_at b e m h2 he hm w'
  have S0 := SpI.new w b e
  have B0 := hid (((Below.refl w.heap.size w).alloc (Nat.le_refl _) (.cells #[Value.int .i64 (b : Int), .int .i64 (e : Int)] 25)).alloc (by rw [size_alloc]; omega) (.cells #[Value.int .i64 0, .int .i64 0] 25))
  have R1 := SpI.new (w.alloc (.cells #[Value.int .i64 (b : Int), .int .i64 (e : Int)] 25)) 0 0
  have S1 := S0.below ((Below.refl _ _).alloc (Nat.le_refl _) (.cells #[Value.int .i64 0, .int .i64 0] 25))
  rw [size_alloc] at R1
  have c0 := S1.c0
  have c1 := S1.c1
  have R1 := hid R1
  have S1 := hid S1
  clear S0
  go_enter Tryd.func48, Tryd.ntmps48
  go_wp2
  generalize hw2 : (w.alloc (.cells #[Value.int .i64 (b : Int), .int .i64 (e : Int)] 25)).alloc (.cells #[Value.int .i64 0, .int .i64 0] 25) = w2 at *
  go_region_with (first | (go_at_call 42; refine (i1 _).mono ?_; rintro r w1 ⟨rfl, hw1'⟩; have hw1 := drewBelow8 hw1'; have T0 := S1.out.below hw1; have d0 := T0.c0; have d1 := T0.c1; have T1 := R1.out.below hw1; have g0 := T1.f0; have g1 := T1.f1; have e0 := T1.c0; have e1 := T1.c1; have B1 := hid (B0.out.trans (hw1.mono B0.out.size)); have T1 := hid T1))
  all_goals
    go_wp2_with fail
    have U := T1.out.two (m : Int) (e : Int)
    refine bodyPost_ret (v := sg m e) (results_cell_row rfl _ _ (w.heap.size + 1) 25 #[.int .i64 (m : Int), .int .i64 (e : Int)] (0, 0) _ rfl U Tryd.underlying25 rfl sizeSp8) rfl ⟨rfl, ?_⟩
    exact ((B1.out.setCell (p := ⟨w.heap.size + 1, 0, none⟩) (by show w.heap.size ≤ w.heap.size + 1; omega) _).setCell (p := ⟨w.heap.size + 1, 1, none⟩) (by show w.heap.size ≤ w.heap.size + 1; omega) _)
set_option maxRecDepth 100000 in
set_option maxHeartbeats 2000000 in
theorem turned_any (L : List (Nat × Nat)) (a : Option Addr) (c : Nat) (w : World) (hl : L.length ≤ 1099511627776) (hA : AtP w a (pm L)) :
    Calls Tryd.prog 58 #[.slice a L.length c] w fun r w' => ∃ v, r = .returned v ∧ OwnP w' v L.reverse ∧ (∀ k, v.ownBlock = some k → w.heap.size ≤ k) ∧ Below w.heap.size w w' := by
  obtain ⟨n, hn⟩ : ∃ n, L.length = n := ⟨_, rfl⟩
  have HN := hid hn
  have HA := hid hA
  rw [hn] at hl ⊢
  clear hn hA
  go_enter Tryd.func58, Tryd.ntmps58
  go_wp2
  go_loopw [3, 4] (fun v i w' => ∃ J : Nat, J ≤ n ∧ i = .int .i64 ((J : Int) - 1) ∧ Hid (OwnP w' v (L.drop J).reverse) ∧ Hid (∀ k, v.ownBlock = some k → w.heap.size ≤ k) ∧ Hid (Below w.heap.size w w')) (fun _ i _ => (RowKit.intOf i + 1).toNat)
  case atStart => exact ⟨n, Nat.le_refl _, by first | rfl | go_num, by rw [List.drop_eq_nil_of_le (by rw [HN.out]; exact Nat.le_refl _)]; exact hid (OwnM.nil 2 _), hid (fun k hk => by cases hk), hid (Below.refl _ _)⟩
  case round =>
    obtain ⟨J, hJ, rfl, hO, hF, hB⟩ := hrel
    by_cases hJ0 : J = 0
    · subst hJ0
      have hO := hO.out
      rw [List.drop_zero] at hO
      go_wp2
      go_ret
      exact ⟨_, rfl, hO, hF.out, hB.out⟩
    · obtain ⟨j, rfl⟩ : ∃ j, J = j + 1 := ⟨J - 1, by omega⟩
      have hjl : j < L.length := by rw [HN.out]; omega
      obtain ⟨x, y, hxy⟩ : ∃ x y, L[j] = (x, y) := ⟨_, _, rfl⟩
      have e := List.getElem?_eq_getElem hjl
      rw [hxy] at e
      obtain ⟨g, rfl, hgl, c0, c1⟩ := HA.out j ((x : Int), (y : Int)) (by rw [List.getElem?_map, e]; rfl)
      rw [← hB.out.cell (p := ⟨g, j * 2, none⟩) hgl] at c0
      rw [← hB.out.cell (p := ⟨g, j * 2 + 1, none⟩) hgl] at c1
      obtain ⟨v', w3, hap, O3, G3⟩ := append_pair wr u3 (L.drop (j + 1)).reverse x y hO.out (by rw [List.length_reverse, List.length_drop, HN.out]; omega)
      have hrev : (L.drop (j + 1)).reverse ++ [(x, y)] = (L.drop j).reverse := by rw [List.drop_eq_getElem_cons hjl, hxy, List.reverse_cons]
      rw [hrev] at O3
      have O3 := hid O3
      have F3 : Hid (∀ k, v'.ownBlock = some k → w.heap.size ≤ k) := fun k hk => by
        rcases G3.alt with e1 | ⟨e1, _⟩
        · exact hF.out k (e1 ▸ hk)
        · exact Nat.le_trans hB.out.size (e1 k hk)
      have B3 := hid (hB.out.trans ⟨G3.os, G3.tape, G3.output, G3.size, fun k hk => G3.old k (Nat.lt_of_lt_of_le hk hB.out.size) (fun e' => by have := hF.out k e'; omega)⟩)
      have b1 : ((j + 1 : Nat) : Int) - 1 = (j : Int) := by omega
      have b2 : (j : Int) < (n : Int) := by omega
      have b3 : (0 : Int) ≤ (j : Int) := by omega
      rw [b1]
      clear hO hF hB G3 hrev hxy e
      go_wp2_with (at_builtin; go_must (refine Lib.wpList_append_run _ rfl _ _ 34 34 rfl _ _ rfl rfl _ _ hap ?_))
      exact ⟨⟨j, by omega, by go_num, O3, F3, B3⟩, by simp [RowKit.intOf]; try omega⟩
end Go.Proofs.YtbkppdkebcdcoaaDoor
