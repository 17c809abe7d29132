import Derived.Test.YtenklmjeeejfdaaGreatDoorPkI10
import Derived.Test.YtenklmjeeejfdaaGreatDoorPkI1
import Derived.Test.YtenklmjeeejfdaaGreatDoorPkCH0
import Derived.Test.YtenklmjeeejfdaaGreatDoorPkSP4
namespace Go.Proofs.YtenklmjeeejfdaaGreatDoor
open Go.RowKit Go.Shelf
set_option maxRecDepth 100000 in
set_option maxHeartbeats 4000000 in
theorem rleft_at (b e m : Nat) (h2 : 2 ≤ e - b) (he : e ≤ 1099511627776) (hm : Hid (m = b + Tree.sp (e - b))) (w : World) :
    Calls Tryz.prog 71 #[sg b e] w fun r w' => r = .returned (sg b m) ∧ Below w.heap.size w w' := by
  have i1 := fun w' => rMiddle_at b e m h2 he hm w'
  have S0 := SpI.new w b e
  have B0 := hid (((Below.refl w.heap.size w).alloc (Nat.le_refl _) (.cells #[Value.int .i64 (b : Int), .int .i64 (e : Int)] 56)).alloc (by rw [size_alloc]; omega) (.cells #[Value.int .i64 0, .int .i64 0] 56))
  have R1 := SpI.new (w.alloc (.cells #[Value.int .i64 (b : Int), .int .i64 (e : Int)] 56)) 0 0
  have S1 := S0.below ((Below.refl _ _).alloc (Nat.le_refl _) (.cells #[Value.int .i64 0, .int .i64 0] 56))
  rw [size_alloc] at R1
  have c0 := S1.c0
  have c1 := S1.c1
  have R1 := hid R1
  have S1 := hid S1
  clear S0
  go_enter Tryz.func71, Tryz.ntmps71
  go_wp2
  generalize hw2 : (w.alloc (.cells #[Value.int .i64 (b : Int), .int .i64 (e : Int)] 56)).alloc (.cells #[Value.int .i64 0, .int .i64 0] 56) = w2 at *
  go_region_with (first | (go_at_call 69; refine (i1 _).mono ?_; rintro r w1 ⟨rfl, hw1'⟩; have hw1 := drewBelow8 hw1'; have T0 := S1.out.below hw1; have d0 := T0.c0; have d1 := T0.c1; have T1 := R1.out.below hw1; have g0 := T1.f0; have g1 := T1.f1; have e0 := T1.c0; have e1 := T1.c1; have B1 := hid (B0.out.trans (hw1.mono B0.out.size)); have T1 := hid T1))
  all_goals
    go_wp2_with fail
    have U := T1.out.two (b : Int) (m : Int)
    refine bodyPost_ret (v := sg b m) (results_cell_row rfl _ _ (w.heap.size + 1) 56 #[.int .i64 (b : Int), .int .i64 (m : Int)] (0, 0) _ rfl U Tryz.underlying56 rfl sizeSp8) rfl ⟨rfl, ?_⟩
    exact ((B1.out.setCell (p := ⟨w.heap.size + 1, 0, none⟩) (by show w.heap.size ≤ w.heap.size + 1; omega) _).setCell (p := ⟨w.heap.size + 1, 1, none⟩) (by show w.heap.size ≤ w.heap.size + 1; omega) _)
set_option maxRecDepth 100000 in
set_option maxHeartbeats 4000000 in
theorem rright_at (b e m : Nat) (h2 : 2 ≤ e - b) (he : e ≤ 1099511627776) (hm : Hid (m = b + Tree.sp (e - b))) (w : World) :
    Calls Tryz.prog 70 #[sg b e] w fun r w' => r = .returned (sg m e) ∧ Below w.heap.size w w' := by
  have i1 := fun w' => rMiddle_at b e m h2 he hm w'
  have S0 := SpI.new w b e
  have B0 := hid (((Below.refl w.heap.size w).alloc (Nat.le_refl _) (.cells #[Value.int .i64 (b : Int), .int .i64 (e : Int)] 56)).alloc (by rw [size_alloc]; omega) (.cells #[Value.int .i64 0, .int .i64 0] 56))
  have R1 := SpI.new (w.alloc (.cells #[Value.int .i64 (b : Int), .int .i64 (e : Int)] 56)) 0 0
  have S1 := S0.below ((Below.refl _ _).alloc (Nat.le_refl _) (.cells #[Value.int .i64 0, .int .i64 0] 56))
  rw [size_alloc] at R1
  have c0 := S1.c0
  have c1 := S1.c1
  have R1 := hid R1
  have S1 := hid S1
  clear S0
  go_enter Tryz.func70, Tryz.ntmps70
  go_wp2
  generalize hw2 : (w.alloc (.cells #[Value.int .i64 (b : Int), .int .i64 (e : Int)] 56)).alloc (.cells #[Value.int .i64 0, .int .i64 0] 56) = w2 at *
  go_region_with (first | (go_at_call 69; refine (i1 _).mono ?_; rintro r w1 ⟨rfl, hw1'⟩; have hw1 := drewBelow8 hw1'; have T0 := S1.out.below hw1; have d0 := T0.c0; have d1 := T0.c1; have T1 := R1.out.below hw1; have g0 := T1.f0; have g1 := T1.f1; have e0 := T1.c0; have e1 := T1.c1; have B1 := hid (B0.out.trans (hw1.mono B0.out.size)); have T1 := hid T1))
  all_goals
    go_wp2_with fail
    have U := T1.out.two (m : Int) (e : Int)
    refine bodyPost_ret (v := sg m e) (results_cell_row rfl _ _ (w.heap.size + 1) 56 #[.int .i64 (m : Int), .int .i64 (e : Int)] (0, 0) _ rfl U Tryz.underlying56 rfl sizeSp8) rfl ⟨rfl, ?_⟩
    exact ((B1.out.setCell (p := ⟨w.heap.size + 1, 0, none⟩) (by show w.heap.size ≤ w.heap.size + 1; omega) _).setCell (p := ⟨w.heap.size + 1, 1, none⟩) (by show w.heap.size ≤ w.heap.size + 1; omega) _)
set_option maxRecDepth 100000 in
set_option maxHeartbeats 2000000 in
theorem turned_any (L : List (Nat × Nat)) (a : Option Addr) (c : Nat) (w : World) (hl : L.length ≤ 1099511627776) (hA : AtP w a (pm L)) :
    Calls Tryz.prog 72 #[.slice a L.length c] w fun r w' => ∃ v, r = .returned v ∧ OwnP w' v L.reverse ∧ (∀ k, v.ownBlock = some k → w.heap.size ≤ k) ∧ Below w.heap.size w w' := by
  obtain ⟨n, hn⟩ : ∃ n, L.length = n := ⟨_, rfl⟩
  have HN := hid hn
  have HA := hid hA
  rw [hn] at hl ⊢
  clear hn hA
  go_enter Tryz.func72, Tryz.ntmps72
  go_wp2
  go_loopw [3, 4] (fun v i w' => ∃ J : Nat, J ≤ n ∧ i = .int .i64 ((J : Int) - 1) ∧ Hid (OwnP w' v (L.drop J).reverse) ∧ Hid (∀ k, v.ownBlock = some k → w.heap.size ≤ k) ∧ Hid (Below w.heap.size w w')) (fun _ i _ => (RowKit.intOf i + 1).toNat)
  case atStart => exact ⟨n, Nat.le_refl _, by first | rfl | go_num, by rw [List.drop_eq_nil_of_le (by rw [HN.out]; exact Nat.le_refl _)]; exact hid (OwnM.nil 2 _), hid (fun k hk => by cases hk), hid (Below.refl _ _)⟩
  case round =>
    obtain ⟨J, hJ, rfl, hO, hF, hB⟩ := hrel
    by_cases hJ0 : J = 0
    · subst hJ0
      have hO := hO.out
      rw [List.drop_zero] at hO
      go_wp2
      go_ret
      exact ⟨_, rfl, hO, hF.out, hB.out⟩
    · obtain ⟨j, rfl⟩ : ∃ j, J = j + 1 := ⟨J - 1, by omega⟩
      have hjl : j < L.length := by rw [HN.out]; omega
      obtain ⟨x, y, hxy⟩ : ∃ x y, L[j] = (x, y) := ⟨_, _, rfl⟩
      have e := List.getElem?_eq_getElem hjl
      rw [hxy] at e
      obtain ⟨g, rfl, hgl, c0, c1⟩ := HA.out j ((x : Int), (y : Int)) (by rw [List.getElem?_map, e]; rfl)
      rw [← hB.out.cell (p := ⟨g, j * 2, none⟩) hgl] at c0
      rw [← hB.out.cell (p := ⟨g, j * 2 + 1, none⟩) hgl] at c1
      obtain ⟨v', w3, hap, O3, G3⟩ := append_pair wr u3 (L.drop (j + 1)).reverse x y hO.out (by rw [List.length_reverse, List.length_drop, HN.out]; omega)
      have hrev : (L.drop (j + 1)).reverse ++ [(x, y)] = (L.drop j).reverse := by rw [List.drop_eq_getElem_cons hjl, hxy, List.reverse_cons]
      rw [hrev] at O3
      have O3 := hid O3
      have F3 : Hid (∀ k, v'.ownBlock = some k → w.heap.size ≤ k) := fun k hk => by
        rcases G3.alt with e1 | ⟨e1, _⟩
        · exact hF.out k (e1 ▸ hk)
        · exact Nat.le_trans hB.out.size (e1 k hk)
      have B3 := hid (hB.out.trans ⟨G3.os, G3.tape, G3.output, G3.size, fun k hk => G3.old k (Nat.lt_of_lt_of_le hk hB.out.size) (fun e' => by have := hF.out k e'; omega)⟩)
      have b1 : ((j + 1 : Nat) : Int) - 1 = (j : Int) := by omega
      have b2 : (j : Int) < (n : Int) := by omega
      have b3 : (0 : Int) ≤ (j : Int) := by omega
      rw [b1]
      clear hO hF hB G3 hrev hxy e
      go_wp2_with (at_builtin; go_must (refine Lib.wpList_append_run _ rfl _ _ 36 36 rfl _ _ rfl rfl _ _ hap ?_))
      exact ⟨⟨j, by omega, by go_num, O3, F3, B3⟩, by simp [RowKit.intOf]; try omega⟩
end Go.Proofs.YtenklmjeeejfdaaGreatDoor

namespace Go.Proofs.YtenklmjeeejfdaaGreatDoor
open Go.RowKit Go.Shelf
theorem nodeOf_nd8 (l r : List UInt8) : (nodeOf l r).1 = Tree.nd l r := by
  unfold nodeOf Tree.nd
  split <;> rfl
set_option maxRecDepth 100000 in
set_option maxHeartbeats 1000000 in
theorem rFolds8_any {K : List Sub} {a : Option Addr} {c : Nat} (hl : (ksp K).length ≤ 9223372036854775800) : ∀ (f b n : Nat) (w : World), n ≤ f → 1 ≤ n → b + n ≤ 1099511627776 → AtQ w a (ksp K) →
    Calls Tryz.prog 49 #[.slice a (ksp K).length c, sg b (b + n : Nat)] w fun r w' => r = .returned (.bool (fdB f b n K)) ∧ Below w.heap.size w w' := by
  intro f
  induction f with
  | zero => intro b n w hf h1; omega
  | succ f ih =>
    intro b n w hf h1 hb hK
    obtain ⟨ee, hee⟩ : ∃ ee, b + n = ee := ⟨_, rfl⟩
    rw [fdB]
    rw [hee]
    have hen : ee - b = n := by omega
    have S0 := SpI.new w (b : Int) (ee : Int)
    have B0 := hid ((Below.refl w.heap.size w).alloc (Nat.le_refl _) (.cells #[.int .i64 (b : Int), .int .i64 (ee : Int)] 56))
    have c0 := S0.c0
    have c1 := S0.c1
    have AK := hid (fun w' (h : Below w.heap.size w w') => hK.below h (Nat.le_refl _))
    have HS := hid S0
    cases hF : fdF K (b : Int) (ee : Int) with
    | some q =>
      obtain ⟨i, h2, _, h3⟩ := fdF_at hF
      have i1 := stands8_at (ksp K) (b : Int) (ee : Int) a c (w.alloc (.cells #[.int .i64 (b : Int), .int .i64 (ee : Int)] 56)) hl (AK.out _ B0.out) i h2 h3
      rw [if_pos (by simp)]
      generalize (ksp K).length = m at *
      unfold sg at i1 ⊢
      have x0 : (0 : Int) ≤ (i : Int) := by omega
      clear hK ih AK hF h2 h3
      go_enter Tryz.func49, Tryz.ntmps49
      go_wp2_with (go_at_call 73; refine i1.mono ?_; rintro r w1 ⟨rfl, b1⟩)
      go_ret
      exact ⟨rfl, B0.out.trans (b1.mono B0.out.size)⟩
    | none =>
      have i1 := stands8_no (ksp K) (b : Int) (ee : Int) a c (w.alloc (.cells #[.int .i64 (b : Int), .int .i64 (ee : Int)] 56)) hl (AK.out _ B0.out) (fun j _ => fdF_no hF j)
      rw [if_neg (by simp)]
      have i2 : ∀ w' (v : Bool), v = decide (¬ (witS (b : Int) (ee : Int) K).length = 0) → Below w.heap.size w w' → Calls Tryz.prog 74 #[.slice a (ksp K).length c, sg b ee] w' fun r w'' => r = .returned (.bool v) ∧ Below w'.heap.size w' w'' := fun w' v hv hb' => by
        by_cases hw : (witS (b : Int) (ee : Int) K).length = 0
        · rw [hv, decide_eq_false (fun h => h hw)]
          exact within8_no (ksp K) (b : Int) (ee : Int) a c w' hl (AK.out _ hb') (fun j x y _ e => wit_no hw j x y e)
        · rw [hv, decide_eq_true hw]
          obtain ⟨i, x, y, h2, h3, h4⟩ := wit_at hw
          exact within8_at (ksp K) (b : Int) (ee : Int) a c w' hl (AK.out _ hb') i x y h2 h3 h4
      have i2f := fun w' => i2 w' false
      have i2t := fun w' => i2 w' true
      unfold sg at i1 i2f i2t ⊢
      by_cases hn2 : n < 2
      · rw [if_pos (.inl hn2)]
        obtain ⟨v, hv⟩ : ∃ v, v = decide (¬ (witS (b : Int) (ee : Int) K).length = 0) := ⟨_, rfl⟩
        have i3 := fun w' hb' => i2 w' v hv hb'
        unfold sg at i3
        generalize (ksp K).length = m at *
        have q1 : (ee : Int) - (b : Int) < 2 := by omega
        have q2 : IntKind.i64.wrap ((ee : Int) - (b : Int)) = (ee : Int) - (b : Int) := by rw [IntKind.wrap_i64]; omega
        clear hK ih AK hF hv i2 i2f i2t
        go_enter Tryz.func49, Tryz.ntmps49
        go_wp2_with (go_at_call 73; refine i1.mono ?_; rintro r w1 ⟨rfl, b1⟩; have B1 := hid (B0.out.trans (b1.mono B0.out.size)); have S1 := HS.out.below b1; have d0 := S1.c0; have d1 := S1.c1; clear b1)
        go_wp2_with (go_at_call 74; fail)
        refine (i3 _ B1.out).mono ?_
        rintro r w2 ⟨rfl, b2⟩
        have S2 := S1.below b2
        have e0 := S2.c0
        have e1 := S2.c1
        have B2 := hid (B1.out.trans (b2.mono B1.out.size))
        clear S1 S2 b2 d0 d1
        go_wp2
        go_ret
        exact ⟨rfl, B2.out⟩
      · have q1 : ¬ (ee : Int) - (b : Int) < 2 := by omega
        have q2 : IntKind.i64.wrap ((ee : Int) - (b : Int)) = (ee : Int) - (b : Int) := by rw [IntKind.wrap_i64]; omega
        by_cases hw : (witS (b : Int) (ee : Int) K).length = 0
        · rw [if_pos (.inr hw)]
          have i3 := fun w' hb' => i2f w' (by rw [decide_eq_false (fun h => h hw)]) hb'
          generalize (ksp K).length = m at *
          clear hK ih AK hF i2 i2f i2t hw
          go_enter Tryz.func49, Tryz.ntmps49
          go_wp2_with (go_at_call 73; refine i1.mono ?_; rintro r w1 ⟨rfl, b1⟩; have B1 := hid (B0.out.trans (b1.mono B0.out.size)); have S1 := HS.out.below b1; have d0 := S1.c0; have d1 := S1.c1; clear b1)
          go_wp2_with (go_at_call 74; fail)
          refine (i3 _ B1.out).mono ?_
          rintro r w2 ⟨rfl, b2⟩
          have S2 := S1.below b2
          have e0 := S2.c0
          have e1 := S2.c1
          have B2 := hid (B1.out.trans (b2.mono B1.out.size))
          clear S1 S2 b2 d0 d1
          go_wp2
          go_ret
          exact ⟨rfl, B2.out⟩
        · rw [if_neg (by omega)]
          have i3 := fun w' hb' => i2t w' (by rw [decide_eq_true hw]) hb'
          have s1 := Tree.sp_lt (n := n) (by omega)
          have s2 := Tree.sp_pos (n := n) (by omega)
          obtain ⟨mid, hmid⟩ : ∃ mid, b + Tree.sp n = mid := ⟨_, rfl⟩
          have hmh : Hid (mid = b + Tree.sp (ee - b)) := by rw [Hid, hen]; exact hmid.symm
          have iL := fun w' => rleft_at b ee mid (by omega) (by omega) hmh w'
          have iR := fun w' => rright_at b ee mid (by omega) (by omega) hmh w'
          have jL := fun w' (h : Below w.heap.size w w') => ih b (Tree.sp n) w' (by omega) (by omega) (by omega) (AK.out _ h)
          have jR := fun w' (h : Below w.heap.size w w') => ih (b + Tree.sp n) (n - Tree.sp n) w' (by omega) (by omega) (by omega) (AK.out _ h)
          rw [show b + Tree.sp n + (n - Tree.sp n) = ee by omega] at jR
          rw [hmid] at jL jR ⊢
          unfold sg at iL iR jL jR
          generalize fdB f b (Tree.sp n) K = vL at *
          generalize fdB f mid (n - Tree.sp n) K = vR at *
          generalize (ksp K).length = m at *
          clear hK ih AK hF i2 i2f i2t hw hmh
          have go1 : True := trivial
          cases vL with
          | false =>
            rw [Bool.false_and]
            go_enter Tryz.func49, Tryz.ntmps49
            go_wp2_with (go_at_call 73; refine i1.mono ?_; rintro r w1 ⟨rfl, b1⟩; have B1 := hid (B0.out.trans (b1.mono B0.out.size)); have S1 := HS.out.below b1; have d0 := S1.c0; have d1 := S1.c1; clear b1)
            go_wp2_with (go_at_call 74; fail)
            refine (i3 _ B1.out).mono ?_
            rintro r w2 ⟨rfl, b2⟩
            have S2 := S1.below b2
            have e0 := S2.c0
            have e1 := S2.c1
            have B2 := hid (B1.out.trans (b2.mono B1.out.size))
            clear S1 b2 d0 d1
            go_wp2_with (go_at_call 71; fail)
            refine (iL _).mono ?_
            rintro r w3 ⟨rfl, b3⟩
            have S3 := S2.below b3
            have B3 := hid (B2.out.trans (b3.mono B2.out.size))
            clear S2 b3 e0 e1
            go_wp2_with (go_at_call 49; fail)
            refine (jL _ B3.out).mono ?_
            rintro r w4 ⟨rfl, b4⟩
            have S4 := S3.below b4
            have e0 := S4.c0
            have e1 := S4.c1
            have B4 := hid (B3.out.trans (b4.mono B3.out.size))
            clear S3 b4
            go_wp2
            go_ret
            exact ⟨rfl, B4.out⟩
          | true =>
            rw [Bool.true_and]
            go_enter Tryz.func49, Tryz.ntmps49
            go_wp2_with (go_at_call 73; refine i1.mono ?_; rintro r w1 ⟨rfl, b1⟩; have B1 := hid (B0.out.trans (b1.mono B0.out.size)); have S1 := HS.out.below b1; have d0 := S1.c0; have d1 := S1.c1; clear b1)
            go_wp2_with (go_at_call 74; fail)
            refine (i3 _ B1.out).mono ?_
            rintro r w2 ⟨rfl, b2⟩
            have S2 := S1.below b2
            have e0 := S2.c0
            have e1 := S2.c1
            have B2 := hid (B1.out.trans (b2.mono B1.out.size))
            clear S1 b2 d0 d1
            go_wp2_with (go_at_call 71; fail)
            refine (iL _).mono ?_
            rintro r w3 ⟨rfl, b3⟩
            have S3 := S2.below b3
            have B3 := hid (B2.out.trans (b3.mono B2.out.size))
            clear S2 b3 e0 e1
            go_wp2_with (go_at_call 49; fail)
            refine (jL _ B3.out).mono ?_
            rintro r w4 ⟨rfl, b4⟩
            have S4 := S3.below b4
            have e0 := S4.c0
            have e1 := S4.c1
            have B4 := hid (B3.out.trans (b4.mono B3.out.size))
            clear S3 b4
            go_wp2_with (go_at_call 70; fail)
            refine (iR _).mono ?_
            rintro r w5 ⟨rfl, b5⟩
            have B5 := hid (B4.out.trans (b5.mono B4.out.size))
            clear b5
            go_wp2_with (go_at_call 49; fail)
            refine (jR _ B5.out).mono ?_
            rintro r w6 ⟨rfl, b6⟩
            go_wp2
            go_ret
            exact ⟨rfl, B5.out.trans (b6.mono B5.out.size)⟩
set_option maxRecDepth 100000 in
set_option maxHeartbeats 1000000 in
theorem rfolded8_any {K : List Sub} {H : List (List UInt8)} {a ah : Option Addr} {c ch : Nat} (hl : (ksp K).length ≤ 9223372036854775800) (hKH : ∀ (i : Nat) (q : Sub), K[i]? = some q → ∃ x, H[i]? = some x ∧ q.2 = ⟨x.toArray⟩) : ∀ (f b n : Nat) (w : World), n ≤ f → 1 ≤ n → b + n ≤ 1099511627776 → fdB f b n K = true → AtQ w a (ksp K) → At w ah H →
    Calls Tryz.prog 76 #[.slice a (ksp K).length c, .slice ah H.length ch, sg b (b + n : Nat)] w fun r w' => r = .returned (.string (fdH f b n K)) ∧ Below w.heap.size w w' := by
  intro f
  induction f with
  | zero => intro b n w hf h1; omega
  | succ f ih =>
    intro b n w hf h1 hb hfd hK hH
    obtain ⟨ee, hee⟩ : ∃ ee, b + n = ee := ⟨_, rfl⟩
    rw [fdB, hee] at hfd
    rw [fdH, hee]
    have hen : ee - b = n := by omega
    have S0 := SpI.new w (b : Int) (ee : Int)
    have B0 := hid ((Below.refl w.heap.size w).alloc (Nat.le_refl _) (.cells #[.int .i64 (b : Int), .int .i64 (ee : Int)] 56))
    have c0 := S0.c0
    have c1 := S0.c1
    have AK := hid (fun w' (h : Below w.heap.size w w') => hK.below h (Nat.le_refl _))
    have AH := hid (fun w' (h : Below w.heap.size w w') => hH.below h (Nat.le_refl _))
    have HS := hid S0
    cases hF : fdF K (b : Int) (ee : Int) with
    | some q =>
      obtain ⟨i, h2, h2', h3⟩ := fdF_at hF
      have i1 := stands8_at (ksp K) (b : Int) (ee : Int) a c (w.alloc (.cells #[.int .i64 (b : Int), .int .i64 (ee : Int)] 56)) hl (AK.out _ B0.out) i h2 h3
      obtain ⟨x, hx, hqx⟩ := hKH i q h2'
      have hil := (List.getElem?_eq_some_iff.1 hx).1
      have cH := hid (fun w' (h : Below w.heap.size w w') => (AH.out _ h) i x hx)
      show Calls _ _ _ _ fun r w' => r = .returned (.string q.2) ∧ _
      rw [hqx]
      generalize H.length = mh at *
      generalize (ksp K).length = m at *
      unfold sg at i1 ⊢
      have x0 : (0 : Int) ≤ (i : Int) := by omega
      have x1 : (i : Int) < (mh : Int) := by omega
      clear hK hH ih AK AH hF h2 h3 hx hqx h2' hfd hKH
      go_enter Tryz.func76, Tryz.ntmps76
      go_wp2_with (go_at_call 73; refine i1.mono ?_; rintro r w1 ⟨rfl, b1⟩; have B1 := hid (B0.out.trans (b1.mono B0.out.size)); obtain ⟨ya, hya, _, cx⟩ := cH.out _ B1.out; subst hya; rw [show sv x = Value.string ⟨x.toArray⟩ from rfl] at cx; clear b1)
      go_ret
      exact ⟨rfl, B1.out⟩
    | none =>
      rw [hF, if_neg (by simp)] at hfd
      have i1 := stands8_no (ksp K) (b : Int) (ee : Int) a c (w.alloc (.cells #[.int .i64 (b : Int), .int .i64 (ee : Int)] 56)) hl (AK.out _ B0.out) (fun j _ => fdF_no hF j)
      have hc : ¬ (n < 2 ∨ (witS (b : Int) (ee : Int) K).length = 0) := fun h => by rw [if_pos h] at hfd; cases hfd
      rw [if_neg hc, Bool.and_eq_true] at hfd
      have hn2 : 2 ≤ n := by omega
      have s1 := Tree.sp_lt hn2
      have s2 := Tree.sp_pos hn2
      obtain ⟨mid, hmid⟩ : ∃ mid, b + Tree.sp n = mid := ⟨_, rfl⟩
      have hmh : Hid (mid = b + Tree.sp (ee - b)) := by rw [Hid, hen]; exact hmid.symm
      have iL := fun w' => rleft_at b ee mid (by omega) (by omega) hmh w'
      have iR := fun w' => rright_at b ee mid (by omega) (by omega) hmh w'
      have jL := fun w' (h : Below w.heap.size w w') => ih b (Tree.sp n) w' (by omega) (by omega) (by omega) hfd.1 (AK.out _ h) (AH.out _ h)
      have jR := fun w' (h : Below w.heap.size w w') => ih (b + Tree.sp n) (n - Tree.sp n) w' (by omega) (by omega) (by omega) hfd.2 (AK.out _ h) (AH.out _ h)
      rw [show b + Tree.sp n + (n - Tree.sp n) = ee by omega] at jR
      rw [hmid] at jL jR
      show Calls _ _ _ _ fun r w' => r = .returned (.string ⟨(Tree.nd (fdH f b (Tree.sp n) K).data.toList (fdH f (b + Tree.sp n) (n - Tree.sp n) K).data.toList).toArray⟩) ∧ _
      rw [hmid]
      unfold sg at i1 iL iR jL jR ⊢
      generalize fdH f b (Tree.sp n) K = vL at *
      generalize fdH f mid (n - Tree.sp n) K = vR at *
      have iN := fun w' => rnode_any vL vR w'
      rw [nodeOf_nd8] at iN
      generalize Tree.nd vL.data.toList vR.data.toList = N at *
      generalize (nodeOf vL.data.toList vR.data.toList).2 = cN at *
      simp only [show sv N = Value.string ⟨N.toArray⟩ from rfl] at iN
      generalize H.length = mh at *
      generalize (ksp K).length = m at *
      clear hK hH ih AK AH hF hmh hfd hc hKH
      go_enter Tryz.func76, Tryz.ntmps76
      go_wp2_with (go_at_call 73; refine i1.mono ?_; rintro r w1 ⟨rfl, b1⟩; have B1 := hid (B0.out.trans (b1.mono B0.out.size)); have S1 := HS.out.below b1; have d0 := S1.c0; have d1 := S1.c1; clear b1)
      go_wp2_with (go_at_call 71; fail)
      refine (iL _).mono ?_
      rintro r w3 ⟨rfl, b3⟩
      have S3 := S1.below b3
      have B3 := hid (B1.out.trans (b3.mono B1.out.size))
      clear S1 b3 d0 d1
      go_wp2_with (go_at_call 76; fail)
      refine (jL _ B3.out).mono ?_
      rintro r w4 ⟨rfl, b4⟩
      have S4 := S3.below b4
      have e0 := S4.c0
      have e1 := S4.c1
      have B4 := hid (B3.out.trans (b4.mono B3.out.size))
      clear S3 b4
      go_wp2_with (go_at_call 70; fail)
      refine (iR _).mono ?_
      rintro r w5 ⟨rfl, b5⟩
      have B5 := hid (B4.out.trans (b5.mono B4.out.size))
      clear b5
      go_wp2_with (go_at_call 76; fail)
      refine (jR _ B5.out).mono ?_
      rintro r w6 ⟨rfl, b6⟩
      have B6 := hid (B5.out.trans (b6.mono B5.out.size))
      clear b6
      go_wp2_with (go_at_call 94; refine (iN _).mono ?_; rintro r w7 ⟨rfl, b7⟩)
      go_ret
      exact ⟨rfl, B6.out.trans (b7.mono B6.out.size)⟩
end Go.Proofs.YtenklmjeeejfdaaGreatDoor

namespace Go.Proofs.YtenklmjeeejfdaaGreatDoor
open Go.RowKit Go.Shelf
def spLn (w : World) (g : Nat) : Nat :=
  match w.cell? ⟨g, 0, none⟩, w.cell? ⟨g, 1, none⟩ with
  | some (.int _ b), some (.int _ e) => (e - b).toNat
  | _, _ => 0
theorem SpI.ln {w : World} {g : Nat} {b e : Int} (h : SpI w g b e) : spLn w g = (e - b).toNat := by unfold spLn; rw [h.c0, h.c1]
structure In2 (w w' : World) (b e : Int) (x y : Nat) : Prop where
  s0 : SpI w' w.heap.size b e
  s1 : SpI w' (w.heap.size + 1) x y
  bel : Below w.heap.size w w'
theorem In2.below {w w' w'' : World} {b e : Int} {x y : Nat} (h : In2 w w' b e x y) (hb : Below w'.heap.size w' w'') : In2 w w'' b e x y := ⟨h.s0.below hb, h.s1.below hb, h.bel.trans (hb.mono h.bel.size)⟩
theorem In2.set {w w' : World} {b e : Int} {x y : Nat} (h : In2 w w' b e x y) (x' y' : Nat) : In2 w ((w'.setCell ⟨w.heap.size + 1, 0, none⟩ (.int .i64 (x' : Int))).setCell ⟨w.heap.size + 1, 1, none⟩ (.int .i64 (y' : Int))) b e x' y' :=
  ⟨((heap_setCell_other _ ⟨w.heap.size + 1, 1, none⟩ w.heap.size _ (by show w.heap.size ≠ w.heap.size + 1; omega)).trans (heap_setCell_other _ ⟨w.heap.size + 1, 0, none⟩ w.heap.size _ (by show w.heap.size ≠ w.heap.size + 1; omega))).trans h.s0, h.s1.two _ _,
   (h.bel.setCell (p := ⟨w.heap.size + 1, 0, none⟩) (Nat.le_succ _) _).setCell (p := ⟨w.heap.size + 1, 1, none⟩) (Nat.le_succ _) _⟩
theorem insB_no {n b e : Int} (h : ¬ (1 ≤ n ∧ n ≤ 1099511627776 ∧ 0 ≤ b ∧ b < e ∧ e ≤ n)) : insB n b e = false := by
  unfold insB
  by_cases h1 : 1 ≤ n ∧ n ≤ 1099511627776 ∧ 0 ≤ b ∧ b < n ∧ 0 ≤ e
  · rw [decide_eq_true h1, Bool.true_and]
    cases hc : Tree.insF n.toNat 0 n.toNat b.toNat e.toNat with
    | false => rfl
    | true =>
      have := Tree.insF_in _ _ _ _ _ hc (by omega)
      omega
  · rw [decide_eq_false h1, Bool.false_and]
set_option maxRecDepth 100000 in
set_option maxHeartbeats 4000000 in
theorem rInside8_ok (N B E : Nat) (h1 : B < E) (h2 : E ≤ N) (h3 : N ≤ 1099511627776) (R : Bool) (hR : Hid (Tree.insF N 0 N B E = R)) (w : World) :
    Calls Tryz.prog 75 #[.int .i64 (N : Int), sg B E] w fun r w' => r = .returned (.bool R) ∧ Below w.heap.size w w' := by
  have S0 := SpI.new w (B : Int) (E : Int)
  have c0 := S0.c0
  have c1 := S0.c1
  have b0 := (Below.refl w.heap.size w).alloc (Nat.le_refl _) (.cells #[.int .i64 (B : Int), .int .i64 (E : Int)] 56)
  have z0 := size_alloc w (.cells #[.int .i64 (B : Int), .int .i64 (E : Int)] 56)
  have S1 := SpI.new (w.alloc (.cells #[.int .i64 (B : Int), .int .i64 (E : Int)] 56)) 0 (N : Int)
  rw [z0] at S1
  have b1 := b0.alloc (by omega) (.cells #[.int .i64 0, .int .i64 (N : Int)] 56)
  have D0 : Hid (In2 w ((w.alloc (.cells #[.int .i64 (B : Int), .int .i64 (E : Int)] 56)).alloc (.cells #[.int .i64 0, .int .i64 (N : Int)] 56)) (B : Int) (E : Int) 0 (0 + N)) := ⟨S0.below ((Below.refl _ _).alloc (Nat.le_refl _) _), by rw [Nat.zero_add]; exact S1, b1⟩
  have a1 : ¬ (N : Int) < 1 := by omega
  have a2 : ¬ 1099511627776 < (N : Int) := by omega
  have a3 : ¬ (B : Int) < 0 := by omega
  have a4 : ¬ (E : Int) ≤ (B : Int) := by omega
  have a5 : ¬ (N : Int) < (E : Int) := by omega
  clear S0 S1 b0 b1
  unfold sg
  go_enter Tryz.func75, Tryz.ntmps75
  go_wp2
  generalize (w.alloc (.cells #[.int .i64 (B : Int), .int .i64 (E : Int)] 56)).alloc (.cells #[.int .i64 0, .int .i64 (N : Int)] 56) = wA at *
  clear c0 c1 z0
  go_loopw [6] (fun _ w' => ∃ (x k f : Nat), 1 ≤ k ∧ k ≤ f ∧ x + k ≤ N ∧ Hid (In2 w w' (B : Int) (E : Int) x (x + k)) ∧ Hid (Tree.insF f x k B E = R)) (fun _ w' => spLn w' (w.heap.size + 1))
  case atStart => exact ⟨0, N, N, by omega, Nat.le_refl _, by omega, D0, hR⟩
  case round =>
    clear D0 hR
    obtain ⟨x, k, f, hk1, hkf, hxN, hD, hE⟩ := hrel
    obtain ⟨f, rfl⟩ : ∃ f', f = f' + 1 := ⟨f - 1, by omega⟩
    have c0 := hD.out.s0.c0
    have c1 := hD.out.s0.c1
    have d0 := hD.out.s1.c0
    have d1 := hD.out.s1.c1
    have g0 := hD.out.s1.f0
    have g1 := hD.out.s1.f1
    have hln := hD.out.s1.ln
    have hE := hE.out
    rw [Tree.insF] at hE
    by_cases hq : B = x ∧ E = x + k
    · rw [if_pos hq] at hE
      subst hE
      obtain ⟨rfl, rfl⟩ := hq
      have HB := hid hD.out.bel
      clear hD
      go_wp2
      go_ret
      exact ⟨rfl, HB.out⟩
    · rw [if_neg hq] at hE
      obtain ⟨ee, hee⟩ : ∃ ee, x + k = ee := ⟨_, rfl⟩
      rw [hee] at hD d1 hln hq
      have hcase : (¬ (x : Int) = (B : Int)) ∨ (((x : Int) = (B : Int)) = True ∧ ¬ (ee : Int) = (E : Int)) := by
        by_cases e1 : (x : Int) = (B : Int)
        · exact .inr ⟨eq_true e1, by omega⟩
        · exact .inl e1
      rcases hcase with hne | ⟨hne, hne2⟩
      all_goals
        by_cases hk2 : k < 2
        · rw [if_pos hk2] at hE
          subst hE
          have q1 : (ee : Int) - (x : Int) < 2 := by omega
          have q2 : IntKind.i64.wrap ((ee : Int) - (x : Int)) = (ee : Int) - (x : Int) := by rw [IntKind.wrap_i64]; omega
          have HB := hid hD.out.bel
          clear hD
          go_wp2
          go_ret
          exact ⟨rfl, HB.out⟩
        · rw [if_neg hk2] at hE
          have q1 : ¬ (ee : Int) - (x : Int) < 2 := by omega
          have q2 : IntKind.i64.wrap ((ee : Int) - (x : Int)) = (ee : Int) - (x : Int) := by rw [IntKind.wrap_i64]; omega
          have s1 := Tree.sp_lt (n := k) (by omega)
          have s2 := Tree.sp_pos (n := k) (by omega)
          obtain ⟨mid, hmid⟩ : ∃ mid, x + Tree.sp k = mid := ⟨_, rfl⟩
          have hmh : Hid (mid = x + Tree.sp (ee - x)) := by rw [Hid, show ee - x = k by omega]; exact hmid.symm
          have i1 := fun w' => rMiddle_at x ee mid (by omega) (by omega) hmh w'
          have i2 := fun w' => rleft_at x ee mid (by omega) (by omega) hmh w'
          have i3 := fun w' => rright_at x ee mid (by omega) (by omega) hmh w'
          unfold sg at i1 i2 i3
          rw [hmid] at hE
          by_cases t1 : E ≤ mid
          · have t1' : (E : Int) ≤ (mid : Int) := by omega
            rw [if_pos t1] at hE
            have HE := hid hE
            have hsum : x + Tree.sp k = mid := hmid
            have HD := hD
            clear hD hE hmh
            go_wp2_with (go_at_call 69; fail)
            refine (i1 _).mono ?_
            rintro r wa ⟨rfl, ba⟩
            have HDa := hid (HD.out.below ba)
            have c0 := HDa.out.s0.c0
            have c1 := HDa.out.s0.c1
            have d0 := HDa.out.s1.c0
            have d1 := HDa.out.s1.c1
            clear ba HD g0 g1
            go_wp2_with (go_at_call 71; fail)
            refine (i2 _).mono ?_
            rintro r wb ⟨rfl, bb⟩
            have HDb := HDa.out.below bb
            have d0 := HDb.s1.c0
            have d1 := HDb.s1.c1
            have g0 := HDb.s1.f0
            have g1 := HDb.s1.f1
            have HDf := hid (HDb.set x mid)
            have hln2 := HDf.out.s1.ln
            clear bb HDa HDb
            go_wp2
            refine ⟨⟨x, Tree.sp k, f, by omega, by omega, by omega, by rw [hsum]; exact HDf, HE⟩, ?_⟩
            rw [hln, hln2]
            omega
          · have t1' : ¬ (E : Int) ≤ (mid : Int) := by omega
            rw [if_neg t1] at hE
            by_cases t2 : mid ≤ B
            · have t2' : (mid : Int) ≤ (B : Int) := by omega
              rw [if_pos t2] at hE
              have HE := hid hE
              have hsum : mid + (k - Tree.sp k) = ee := by omega
              have HD := hD
              clear hD hE hmh
              go_wp2_with (go_at_call 69; fail)
              refine (i1 _).mono ?_
              rintro r wa ⟨rfl, ba⟩
              have HDa := hid (HD.out.below ba)
              have c0 := HDa.out.s0.c0
              have c1 := HDa.out.s0.c1
              have d0 := HDa.out.s1.c0
              have d1 := HDa.out.s1.c1
              clear ba HD g0 g1
              go_wp2_with (go_at_call 70; fail)
              refine (i3 _).mono ?_
              rintro r wb ⟨rfl, bb⟩
              have HDb := HDa.out.below bb
              have d0 := HDb.s1.c0
              have d1 := HDb.s1.c1
              have g0 := HDb.s1.f0
              have g1 := HDb.s1.f1
              have HDf := hid (HDb.set mid ee)
              have hln2 := HDf.out.s1.ln
              clear bb HDa HDb
              go_wp2
              refine ⟨⟨mid, k - Tree.sp k, f, by omega, by omega, by omega, by rw [hsum]; exact HDf, HE⟩, ?_⟩
              rw [hln, hln2]
              omega
            · have t2' : ¬ (mid : Int) ≤ (B : Int) := by omega
              rw [if_neg t2] at hE
              subst hE
              have HD := hD
              clear hD hmh
              go_wp2_with (go_at_call 69; fail)
              refine (i1 _).mono ?_
              rintro r wa ⟨rfl, ba⟩
              have HDa := hid (HD.out.below ba)
              have c0 := HDa.out.s0.c0
              have c1 := HDa.out.s0.c1
              have HB := hid HDa.out.bel
              clear ba HD g0 g1 HDa
              go_wp2
              go_ret
              exact ⟨rfl, HB.out⟩
set_option maxRecDepth 100000 in
set_option maxHeartbeats 4000000 in
theorem rInside8_any (n b e : Int) (w : World) : Calls Tryz.prog 75 #[.int .i64 n, sg b e] w fun r w' => r = .returned (.bool (insB n b e)) ∧ Below w.heap.size w w' := by
  by_cases hc : 1 ≤ n ∧ n ≤ 1099511627776 ∧ 0 ≤ b ∧ b < e ∧ e ≤ n
  · obtain ⟨N, rfl⟩ : ∃ N : Nat, n = (N : Int) := ⟨n.toNat, by omega⟩
    obtain ⟨B, rfl⟩ : ∃ B : Nat, b = (B : Int) := ⟨b.toNat, by omega⟩
    obtain ⟨E, rfl⟩ : ∃ E : Nat, e = (E : Int) := ⟨e.toNat, by omega⟩
    have e1 : insB (N : Int) (B : Int) (E : Int) = Tree.insF N 0 N B E := by
      unfold insB
      rw [decide_eq_true (show 1 ≤ (N : Int) ∧ (N : Int) ≤ 1099511627776 ∧ 0 ≤ (B : Int) ∧ (B : Int) < (N : Int) ∧ 0 ≤ (E : Int) from ⟨hc.1, hc.2.1, hc.2.2.1, by omega, by omega⟩), Bool.true_and, Int.toNat_natCast, Int.toNat_natCast, Int.toNat_natCast]
    exact rInside8_ok N B E (by omega) (by omega) (by omega) _ (hid e1.symm) w
  · rw [insB_no hc]
    have S0 := SpI.new w b e
    have c0 := S0.c0
    have c1 := S0.c1
    have HB := hid ((Below.refl w.heap.size w).alloc (Nat.le_refl _) (.cells #[.int .i64 b, .int .i64 e] 56))
    clear S0
    unfold sg
    by_cases h1 : n < 1
    · go_enter Tryz.func75, Tryz.ntmps75
      go_wp2
      go_ret
      exact ⟨rfl, HB.out⟩
    · by_cases h2 : 1099511627776 < n
      · go_enter Tryz.func75, Tryz.ntmps75
        go_wp2
        go_ret
        exact ⟨rfl, HB.out⟩
      · by_cases h3 : b < 0
        · go_enter Tryz.func75, Tryz.ntmps75
          go_wp2
          go_ret
          exact ⟨rfl, HB.out⟩
        · by_cases h4 : e ≤ b
          · go_enter Tryz.func75, Tryz.ntmps75
            go_wp2
            go_ret
            exact ⟨rfl, HB.out⟩
          · have h5 : n < e := by omega
            go_enter Tryz.func75, Tryz.ntmps75
            go_wp2
            go_ret
            exact ⟨rfl, HB.out⟩
end Go.Proofs.YtenklmjeeejfdaaGreatDoor
