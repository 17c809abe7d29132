import Derived.Test.YtjcapdkibbjmiaaGreatDoorPkCL2
import Derived.Test.YtjcapdkibbjmiaaGreatDoorPkFR1
import Derived.Test.YtjcapdkibbjmiaaGreatDoorPkCP2c
import Derived.Test.YtjcapdkibbjmiaaGreatDoorPkSP4
import Derived.Test.YtjcapdkibbjmiaaGreatDoorPkCP4
namespace Go.Proofs.YtjcapdkibbjmiaaGreatDoor
open Go.RowKit Go.Shelf
set_option maxRecDepth 100000 in
set_option maxHeartbeats 4000000 in
theorem rleft_at (b e m : Nat) (h2 : 2 ≤ e - b) (he : e ≤ 1099511627776) (hm : Hid (m = b + Tree.sp (e - b))) (w : World) :
    Calls Tryz.prog 92 #[sg b e] w fun r w' => r = .returned (sg b m) ∧ Below w.heap.size w w' := by
  have i1 := fun w' => rMiddle_at b e m h2 he hm w'
  have S0 := SpI.new w b e
  have B0 := hid (((Below.refl w.heap.size w).alloc (Nat.le_refl _) (.cells #[Value.int .i64 (b : Int), .int .i64 (e : Int)] 60)).alloc (by rw [size_alloc]; omega) (.cells #[Value.int .i64 0, .int .i64 0] 60))
  have R1 := SpI.new (w.alloc (.cells #[Value.int .i64 (b : Int), .int .i64 (e : Int)] 60)) 0 0
  have S1 := S0.below ((Below.refl _ _).alloc (Nat.le_refl _) (.cells #[Value.int .i64 0, .int .i64 0] 60))
  rw [size_alloc] at R1
  have c0 := S1.c0
  have c1 := S1.c1
  have R1 := hid R1
  have S1 := hid S1
  clear S0
  go_enter Tryz.func92, Tryz.ntmps92
  go_wp2
  generalize hw2 : (w.alloc (.cells #[Value.int .i64 (b : Int), .int .i64 (e : Int)] 60)).alloc (.cells #[Value.int .i64 0, .int .i64 0] 60) = w2 at *
  go_region_with (first | (go_at_call 90; refine (i1 _).mono ?_; rintro r w1 ⟨rfl, hw1'⟩; have hw1 := drewBelow8 hw1'; have T0 := S1.out.below hw1; have d0 := T0.c0; have d1 := T0.c1; have T1 := R1.out.below hw1; have g0 := T1.f0; have g1 := T1.f1; have e0 := T1.c0; have e1 := T1.c1; have B1 := hid (B0.out.trans (hw1.mono B0.out.size)); have T1 := hid T1))
  all_goals
    go_wp2_with fail
    have U := T1.out.two (b : Int) (m : Int)
    refine bodyPost_ret (v := sg b m) (results_cell_row rfl _ _ (w.heap.size + 1) 60 #[.int .i64 (b : Int), .int .i64 (m : Int)] (0, 0) _ rfl U Tryz.underlying60 rfl sizeSp8) rfl ⟨rfl, ?_⟩
    exact ((B1.out.setCell (p := ⟨w.heap.size + 1, 0, none⟩) (by show w.heap.size ≤ w.heap.size + 1; omega) _).setCell (p := ⟨w.heap.size + 1, 1, none⟩) (by show w.heap.size ≤ w.heap.size + 1; omega) _)
set_option maxRecDepth 100000 in
set_option maxHeartbeats 4000000 in
theorem rright_at (b e m : Nat) (h2 : 2 ≤ e - b) (he : e ≤ 1099511627776) (hm : Hid (m = b + Tree.sp (e - b))) (w : World) :
    Calls Tryz.prog 91 #[sg b e] w fun r w' => r = .returned (sg m e) ∧ Below w.heap.size w w' := by
  have i1 := fun w' => rMiddle_at b e m h2 he hm w'
  have S0 := SpI.new w b e
  have B0 := hid (((Below.refl w.heap.size w).alloc (Nat.le_refl _) (.cells #[Value.int .i64 (b : Int), .int .i64 (e : Int)] 60)).alloc (by rw [size_alloc]; omega) (.cells #[Value.int .i64 0, .int .i64 0] 60))
  have R1 := SpI.new (w.alloc (.cells #[Value.int .i64 (b : Int), .int .i64 (e : Int)] 60)) 0 0
  have S1 := S0.below ((Below.refl _ _).alloc (Nat.le_refl _) (.cells #[Value.int .i64 0, .int .i64 0] 60))
  rw [size_alloc] at R1
  have c0 := S1.c0
  have c1 := S1.c1
  have R1 := hid R1
  have S1 := hid S1
  clear S0
  go_enter Tryz.func91, Tryz.ntmps91
  go_wp2
  generalize hw2 : (w.alloc (.cells #[Value.int .i64 (b : Int), .int .i64 (e : Int)] 60)).alloc (.cells #[Value.int .i64 0, .int .i64 0] 60) = w2 at *
  go_region_with (first | (go_at_call 90; refine (i1 _).mono ?_; rintro r w1 ⟨rfl, hw1'⟩; have hw1 := drewBelow8 hw1'; have T0 := S1.out.below hw1; have d0 := T0.c0; have d1 := T0.c1; have T1 := R1.out.below hw1; have g0 := T1.f0; have g1 := T1.f1; have e0 := T1.c0; have e1 := T1.c1; have B1 := hid (B0.out.trans (hw1.mono B0.out.size)); have T1 := hid T1))
  all_goals
    go_wp2_with fail
    have U := T1.out.two (m : Int) (e : Int)
    refine bodyPost_ret (v := sg m e) (results_cell_row rfl _ _ (w.heap.size + 1) 60 #[.int .i64 (m : Int), .int .i64 (e : Int)] (0, 0) _ rfl U Tryz.underlying60 rfl sizeSp8) rfl ⟨rfl, ?_⟩
    exact ((B1.out.setCell (p := ⟨w.heap.size + 1, 0, none⟩) (by show w.heap.size ≤ w.heap.size + 1; omega) _).setCell (p := ⟨w.heap.size + 1, 1, none⟩) (by show w.heap.size ≤ w.heap.size + 1; omega) _)
set_option maxRecDepth 100000 in
set_option maxHeartbeats 2000000 in
theorem turned_any (L : List (Nat × Nat)) (a : Option Addr) (c : Nat) (w : World) (hl : L.length ≤ 1099511627776) (hA : AtP w a (pm L)) :
    Calls Tryz.prog 93 #[.slice a L.length c] w fun r w' => ∃ v, r = .returned v ∧ OwnP w' v L.reverse ∧ (∀ k, v.ownBlock = some k → w.heap.size ≤ k) ∧ Below w.heap.size w w' := by
  obtain ⟨n, hn⟩ : ∃ n, L.length = n := ⟨_, rfl⟩
  have HN := hid hn
  have HA := hid hA
  rw [hn] at hl ⊢
  clear hn hA
  go_enter Tryz.func93, Tryz.ntmps93
  go_wp2
  go_loopw [3, 4] (fun v i w' => ∃ J : Nat, J ≤ n ∧ i = .int .i64 ((J : Int) - 1) ∧ Hid (OwnP w' v (L.drop J).reverse) ∧ Hid (∀ k, v.ownBlock = some k → w.heap.size ≤ k) ∧ Hid (Below w.heap.size w w')) (fun _ i _ => (RowKit.intOf i + 1).toNat)
  case atStart => exact ⟨n, Nat.le_refl _, by first | rfl | go_num, by rw [List.drop_eq_nil_of_le (by rw [HN.out]; exact Nat.le_refl _)]; exact hid (OwnM.nil 2 _), hid (fun k hk => by cases hk), hid (Below.refl _ _)⟩
  case round =>
    obtain ⟨J, hJ, rfl, hO, hF, hB⟩ := hrel
    by_cases hJ0 : J = 0
    · subst hJ0
      have hO := hO.out
      rw [List.drop_zero] at hO
      go_wp2
      go_ret
      exact ⟨_, rfl, hO, hF.out, hB.out⟩
    · obtain ⟨j, rfl⟩ : ∃ j, J = j + 1 := ⟨J - 1, by omega⟩
      have hjl : j < L.length := by rw [HN.out]; omega
      obtain ⟨x, y, hxy⟩ : ∃ x y, L[j] = (x, y) := ⟨_, _, rfl⟩
      have e := List.getElem?_eq_getElem hjl
      rw [hxy] at e
      obtain ⟨g, rfl, hgl, c0, c1⟩ := HA.out j ((x : Int), (y : Int)) (by rw [List.getElem?_map, e]; rfl)
      rw [← hB.out.cell (p := ⟨g, j * 2, none⟩) hgl] at c0
      rw [← hB.out.cell (p := ⟨g, j * 2 + 1, none⟩) hgl] at c1
      obtain ⟨v', w3, hap, O3, G3⟩ := append_pair wr u3 (L.drop (j + 1)).reverse x y hO.out (by rw [List.length_reverse, List.length_drop, HN.out]; omega)
      have hrev : (L.drop (j + 1)).reverse ++ [(x, y)] = (L.drop j).reverse := by rw [List.drop_eq_getElem_cons hjl, hxy, List.reverse_cons]
      rw [hrev] at O3
      have O3 := hid O3
      have F3 : Hid (∀ k, v'.ownBlock = some k → w.heap.size ≤ k) := fun k hk => by
        rcases G3.alt with e1 | ⟨e1, _⟩
        · exact hF.out k (e1 ▸ hk)
        · exact Nat.le_trans hB.out.size (e1 k hk)
      have B3 := hid (hB.out.trans ⟨G3.os, G3.tape, G3.output, G3.size, fun k hk => G3.old k (Nat.lt_of_lt_of_le hk hB.out.size) (fun e' => by have := hF.out k e'; omega)⟩)
      have b1 : ((j + 1 : Nat) : Int) - 1 = (j : Int) := by omega
      have b2 : (j : Int) < (n : Int) := by omega
      have b3 : (0 : Int) ≤ (j : Int) := by omega
      rw [b1]
      clear hO hF hB G3 hrev hxy e
      go_wp2_with (at_builtin; go_must (refine Lib.wpList_append_run _ rfl _ _ 47 47 rfl _ _ rfl rfl _ _ hap ?_))
      exact ⟨⟨j, by omega, by go_num, O3, F3, B3⟩, by simp [RowKit.intOf]; try omega⟩
end Go.Proofs.YtjcapdkibbjmiaaGreatDoor

namespace Go.Proofs.YtjcapdkibbjmiaaGreatDoor
open Go.RowKit Go.Shelf
set_option maxRecDepth 100000 in
set_option maxHeartbeats 1000000 in
theorem rFolds8_any {K : List Sub} {a : Option Addr} {c : Nat} (hl : (ksp K).length ≤ 9223372036854775800) : ∀ (f b n : Nat) (w : World), n ≤ f → 1 ≤ n → b + n ≤ 1099511627776 → AtQ w a (ksp K) →
    Calls Tryz.prog 69 #[.slice a (ksp K).length c, sg b (b + n : Nat)] w fun r w' => r = .returned (.bool (fdB f b n K)) ∧ Below w.heap.size w w' := by
  intro f
  induction f with
  | zero => intro b n w hf h1; omega
  | succ f ih =>
    intro b n w hf h1 hb hK
    obtain ⟨ee, hee⟩ : ∃ ee, b + n = ee := ⟨_, rfl⟩
    rw [fdB]
    rw [hee]
    have hen : ee - b = n := by omega
    have S0 := SpI.new w (b : Int) (ee : Int)
    have B0 := hid ((Below.refl w.heap.size w).alloc (Nat.le_refl _) (.cells #[.int .i64 (b : Int), .int .i64 (ee : Int)] 60))
    have c0 := S0.c0
    have c1 := S0.c1
    have AK := hid (fun w' (h : Below w.heap.size w w') => hK.below h (Nat.le_refl _))
    have HS := hid S0
    cases hF : fdF K (b : Int) (ee : Int) with
    | some q =>
      obtain ⟨i, h2, _, h3⟩ := fdF_at hF
      have i1 := stands8_at (ksp K) (b : Int) (ee : Int) a c (w.alloc (.cells #[.int .i64 (b : Int), .int .i64 (ee : Int)] 60)) hl (AK.out _ B0.out) i h2 h3
      rw [if_pos (by simp)]
      generalize (ksp K).length = m at *
      unfold sg at i1 ⊢
      have x0 : (0 : Int) ≤ (i : Int) := by omega
      clear hK ih AK hF h2 h3
      go_enter Tryz.func69, Tryz.ntmps69
      go_wp2_with (go_at_call 94; refine i1.mono ?_; rintro r w1 ⟨rfl, b1⟩)
      go_ret
      exact ⟨rfl, B0.out.trans (b1.mono B0.out.size)⟩
    | none =>
      have i1 := stands8_no (ksp K) (b : Int) (ee : Int) a c (w.alloc (.cells #[.int .i64 (b : Int), .int .i64 (ee : Int)] 60)) hl (AK.out _ B0.out) (fun j _ => fdF_no hF j)
      rw [if_neg (by simp)]
      have i2 : ∀ w' (v : Bool), v = decide (¬ (witS (b : Int) (ee : Int) K).length = 0) → Below w.heap.size w w' → Calls Tryz.prog 95 #[.slice a (ksp K).length c, sg b ee] w' fun r w'' => r = .returned (.bool v) ∧ Below w'.heap.size w' w'' := fun w' v hv hb' => by
        by_cases hw : (witS (b : Int) (ee : Int) K).length = 0
        · rw [hv, decide_eq_false (fun h => h hw)]
          exact within8_no (ksp K) (b : Int) (ee : Int) a c w' hl (AK.out _ hb') (fun j x y _ e => wit_no hw j x y e)
        · rw [hv, decide_eq_true hw]
          obtain ⟨i, x, y, h2, h3, h4⟩ := wit_at hw
          exact within8_at (ksp K) (b : Int) (ee : Int) a c w' hl (AK.out _ hb') i x y h2 h3 h4
      have i2f := fun w' => i2 w' false
      have i2t := fun w' => i2 w' true
      unfold sg at i1 i2f i2t ⊢
      by_cases hn2 : n < 2
      · rw [if_pos (.inl hn2)]
        obtain ⟨v, hv⟩ : ∃ v, v = decide (¬ (witS (b : Int) (ee : Int) K).length = 0) := ⟨_, rfl⟩
        have i3 := fun w' hb' => i2 w' v hv hb'
        unfold sg at i3
        generalize (ksp K).length = m at *
        have q1 : (ee : Int) - (b : Int) < 2 := by omega
        have q2 : IntKind.i64.wrap ((ee : Int) - (b : Int)) = (ee : Int) - (b : Int) := by rw [IntKind.wrap_i64]; omega
        clear hK ih AK hF hv i2 i2f i2t
        go_enter Tryz.func69, Tryz.ntmps69
        go_wp2_with (go_at_call 94; refine i1.mono ?_; rintro r w1 ⟨rfl, b1⟩; have B1 := hid (B0.out.trans (b1.mono B0.out.size)); have S1 := HS.out.below b1; have d0 := S1.c0; have d1 := S1.c1; clear b1)
        go_wp2_with (go_at_call 95; fail)
        refine (i3 _ B1.out).mono ?_
        rintro r w2 ⟨rfl, b2⟩
        have S2 := S1.below b2
        have e0 := S2.c0
        have e1 := S2.c1
        have B2 := hid (B1.out.trans (b2.mono B1.out.size))
        clear S1 S2 b2 d0 d1
        go_wp2
        go_ret
        exact ⟨rfl, B2.out⟩
      · have q1 : ¬ (ee : Int) - (b : Int) < 2 := by omega
        have q2 : IntKind.i64.wrap ((ee : Int) - (b : Int)) = (ee : Int) - (b : Int) := by rw [IntKind.wrap_i64]; omega
        by_cases hw : (witS (b : Int) (ee : Int) K).length = 0
        · rw [if_pos (.inr hw)]
          have i3 := fun w' hb' => i2f w' (by rw [decide_eq_false (fun h => h hw)]) hb'
          generalize (ksp K).length = m at *
          clear hK ih AK hF i2 i2f i2t hw
          go_enter Tryz.func69, Tryz.ntmps69
          go_wp2_with (go_at_call 94; refine i1.mono ?_; rintro r w1 ⟨rfl, b1⟩; have B1 := hid (B0.out.trans (b1.mono B0.out.size)); have S1 := HS.out.below b1; have d0 := S1.c0; have d1 := S1.c1; clear b1)
          go_wp2_with (go_at_call 95; fail)
          refine (i3 _ B1.out).mono ?_
          rintro r w2 ⟨rfl, b2⟩
          have S2 := S1.below b2
          have e0 := S2.c0
          have e1 := S2.c1
          have B2 := hid (B1.out.trans (b2.mono B1.out.size))
          clear S1 S2 b2 d0 d1
          go_wp2
          go_ret
          exact ⟨rfl, B2.out⟩
        · rw [if_neg (by omega)]
          have i3 := fun w' hb' => i2t w' (by rw [decide_eq_true hw]) hb'
          have s1 := Tree.sp_lt (n := n) (by omega)
          have s2 := Tree.sp_pos (n := n) (by omega)
          obtain ⟨mid, hmid⟩ : ∃ mid, b + Tree.sp n = mid := ⟨_, rfl⟩
          have hmh : Hid (mid = b + Tree.sp (ee - b)) := by rw [Hid, hen]; exact hmid.symm
          have iL := fun w' => rleft_at b ee mid (by omega) (by omega) hmh w'
          have iR := fun w' => rright_at b ee mid (by omega) (by omega) hmh w'
          have jL := fun w' (h : Below w.heap.size w w') => ih b (Tree.sp n) w' (by omega) (by omega) (by omega) (AK.out _ h)
          have jR := fun w' (h : Below w.heap.size w w') => ih (b + Tree.sp n) (n - Tree.sp n) w' (by omega) (by omega) (by omega) (AK.out _ h)
          rw [show b + Tree.sp n + (n - Tree.sp n) = ee by omega] at jR
          rw [hmid] at jL jR ⊢
          unfold sg at iL iR jL jR
          generalize fdB f b (Tree.sp n) K = vL at *
          generalize fdB f mid (n - Tree.sp n) K = vR at *
          generalize (ksp K).length = m at *
          clear hK ih AK hF i2 i2f i2t hw hmh
          have go1 : True := trivial
          cases vL with
          | false =>
            rw [Bool.false_and]
            go_enter Tryz.func69, Tryz.ntmps69
            go_wp2_with (go_at_call 94; refine i1.mono ?_; rintro r w1 ⟨rfl, b1⟩; have B1 := hid (B0.out.trans (b1.mono B0.out.size)); have S1 := HS.out.below b1; have d0 := S1.c0; have d1 := S1.c1; clear b1)
            go_wp2_with (go_at_call 95; fail)
            refine (i3 _ B1.out).mono ?_
            rintro r w2 ⟨rfl, b2⟩
            have S2 := S1.below b2
            have e0 := S2.c0
            have e1 := S2.c1
            have B2 := hid (B1.out.trans (b2.mono B1.out.size))
            clear S1 b2 d0 d1
            go_wp2_with (go_at_call 92; fail)
            refine (iL _).mono ?_
            rintro r w3 ⟨rfl, b3⟩
            have S3 := S2.below b3
            have B3 := hid (B2.out.trans (b3.mono B2.out.size))
            clear S2 b3 e0 e1
            go_wp2_with (go_at_call 69; fail)
            refine (jL _ B3.out).mono ?_
            rintro r w4 ⟨rfl, b4⟩
            have S4 := S3.below b4
            have e0 := S4.c0
            have e1 := S4.c1
            have B4 := hid (B3.out.trans (b4.mono B3.out.size))
            clear S3 b4
            go_wp2
            go_ret
            exact ⟨rfl, B4.out⟩
          | true =>
            rw [Bool.true_and]
            go_enter Tryz.func69, Tryz.ntmps69
            go_wp2_with (go_at_call 94; refine i1.mono ?_; rintro r w1 ⟨rfl, b1⟩; have B1 := hid (B0.out.trans (b1.mono B0.out.size)); have S1 := HS.out.below b1; have d0 := S1.c0; have d1 := S1.c1; clear b1)
            go_wp2_with (go_at_call 95; fail)
            refine (i3 _ B1.out).mono ?_
            rintro r w2 ⟨rfl, b2⟩
            have S2 := S1.below b2
            have e0 := S2.c0
            have e1 := S2.c1
            have B2 := hid (B1.out.trans (b2.mono B1.out.size))
            clear S1 b2 d0 d1
            go_wp2_with (go_at_call 92; fail)
            refine (iL _).mono ?_
            rintro r w3 ⟨rfl, b3⟩
            have S3 := S2.below b3
            have B3 := hid (B2.out.trans (b3.mono B2.out.size))
            clear S2 b3 e0 e1
            go_wp2_with (go_at_call 69; fail)
            refine (jL _ B3.out).mono ?_
            rintro r w4 ⟨rfl, b4⟩
            have S4 := S3.below b4
            have e0 := S4.c0
            have e1 := S4.c1
            have B4 := hid (B3.out.trans (b4.mono B3.out.size))
            clear S3 b4
            go_wp2_with (go_at_call 91; fail)
            refine (iR _).mono ?_
            rintro r w5 ⟨rfl, b5⟩
            have B5 := hid (B4.out.trans (b5.mono B4.out.size))
            clear b5
            go_wp2_with (go_at_call 69; fail)
            refine (jR _ B5.out).mono ?_
            rintro r w6 ⟨rfl, b6⟩
            go_wp2
            go_ret
            exact ⟨rfl, B5.out.trans (b6.mono B5.out.size)⟩
end Go.Proofs.YtjcapdkibbjmiaaGreatDoor

namespace Go.Proofs.YtjcapdkibbjmiaaGreatDoor
open Go.RowKit Go.Shelf
theorem ksp_prd : ∀ (K : List (Int × Int)) (H : List ByteArray), K.length = H.length → ksp (prd K H) = K
  | [], [], _ => rfl
  | k :: K, h :: H, e => by
    have ih := ksp_prd K H (by simpa using e)
    unfold ksp at ih ⊢
    rw [prd, List.map_cons, ih]
  | [], _ :: _, e => by simp at e
  | _ :: _, [], e => by simp at e
end Go.Proofs.YtjcapdkibbjmiaaGreatDoor

namespace Go.Proofs.YtjcapdkibbjmiaaGreatDoor
open Go.RowKit Go.Shelf
def slLen : Value → Nat
  | .slice _ n _ => n
  | _ => 0
theorem OwnM.slLen {m : Nat} {w : World} {v : Value} {n : Nat} {cs : List Value} (h : OwnM m w v n cs) : slLen v = n := by
  obtain ⟨a, c, e, _, _⟩ := h.shape
  rw [e]; rfl
structure Dn (w w' : World) (v : Value) (b e : Nat) (l : List (Nat × Nat)) : Prop where
  sp : SpI w' w.heap.size b e
  ow : OwnP w' v l
  nw : ∀ k, v.ownBlock = some k → w.heap.size < k
  bel : Below w.heap.size w w'
theorem Dn.below {w w' w'' : World} {v : Value} {b e : Nat} {l : List (Nat × Nat)} (h : Dn w w' v b e l) (hb : Below w'.heap.size w' w'') : Dn w w'' v b e l :=
  ⟨h.sp.below hb, h.ow.below hb, h.nw, h.bel.trans (hb.mono h.bel.size)⟩
theorem Dn.grow {w w' w'' : World} {v v' : Value} {b e : Nat} {l l' : List (Nat × Nat)} (h : Dn w w' v b e l) (hg : Grow w' w'' v v') (ho : OwnP w'' v' l') : Dn w w'' v' b e l' :=
  ⟨(hg.old _ (lt_of_heap h.sp) (fun e => by have := h.nw _ e; omega)).trans h.sp, ho, fun k hk => by
    rcases hg.alt with e1 | ⟨e1, _⟩
    · exact h.nw k (e1 ▸ hk)
    · have := e1 k hk; have := lt_of_heap h.sp; omega,
   h.bel.trans ⟨hg.os, hg.tape, hg.output, hg.size, fun k hk => hg.old k (Nat.lt_of_lt_of_le hk h.bel.size) (fun e => by have := h.nw k e; omega)⟩⟩
theorem Dn.set {w w' : World} {v : Value} {b e : Nat} {l : List (Nat × Nat)} (h : Dn w w' v b e l) (b' e' : Nat) : Dn w ((w'.setCell ⟨w.heap.size, 0, none⟩ (.int .i64 (b' : Int))).setCell ⟨w.heap.size, 1, none⟩ (.int .i64 (e' : Int))) v b' e' l :=
  ⟨h.sp.two _ _, h.ow.kept (by simp [World.setCell]) (fun g hg => by
    have hne : g ≠ w.heap.size := by have := h.nw g hg; omega
    rw [heap_setCell_other _ ⟨w.heap.size, 1, none⟩ g _ hne, heap_setCell_other _ ⟨w.heap.size, 0, none⟩ g _ hne]), h.nw,
   (h.bel.setCell (p := ⟨w.heap.size, 0, none⟩) (Nat.le_refl _) _).setCell (p := ⟨w.heap.size, 1, none⟩) (Nat.le_refl _) _⟩
end Go.Proofs.YtjcapdkibbjmiaaGreatDoor

namespace Go.Proofs.YtjcapdkibbjmiaaGreatDoor
open Go.RowKit Go.Shelf
set_option maxRecDepth 100000 in
set_option maxHeartbeats 1000000 in
theorem rProof8_ok (N idx : Nat) (h0 : 1 ≤ idx) (h1 : idx < N) (h2 : N ≤ 1099511627776) (w : World) :
    Calls Tryz.prog 68 #[.int .i64 (idx : Int), .int .i64 (N : Int)] w (SpP w 0 (Tree.prfF N 0 N idx)) := by
  have S0 := SpI.new w 0 (N : Int)
  have B0 := (Below.refl _ w).alloc (Nat.le_refl _) (.cells #[.int .i64 0, .int .i64 (N : Int)] 60)
  have D0 : Dn w (w.alloc (.cells #[.int .i64 0, .int .i64 (N : Int)] 60)) (.slice none 0 0) 0 (0 + N) [] := ⟨by rw [Nat.zero_add]; exact S0, OwnM.nil 2 _, (fun k hk => by cases hk), B0⟩
  have HD := hid D0
  obtain ⟨R, hR⟩ : ∃ R, Tree.prfF N 0 N idx = R := ⟨_, rfl⟩
  have HR := hid hR
  rw [hR]
  clear S0 B0 D0 hR
  have a1 : ¬ (N : Int) < 1 := by omega
  have a2 : ¬ 1099511627776 < (N : Int) := by omega
  have a3 : ¬ (idx : Int) < 0 := by omega
  have a4 : ¬ (N : Int) ≤ (idx : Int) := by omega
  have a5 : (idx : Int) < (N : Int) := by omega
  go_enter Tryz.func68, Tryz.ntmps68
  go_wp2
  go_loopw [6] (fun v w' => ∃ (b m f : Nat) (l : List (Nat × Nat)), m ≤ f ∧ 1 ≤ m ∧ b < idx ∧ idx ≤ b + m ∧ b + m ≤ N ∧ l.length + m ≤ N ∧ Hid (Dn w w' v b (b + m) l) ∧ Hid (R = Tree.prfF f b m idx ++ l.reverse)) (fun v _ => N - slLen v)
  case atStart => exact ⟨0, N, N, [], Nat.le_refl _, by omega, by omega, by omega, by omega, by simp, HD, by rw [Hid, List.reverse_nil, List.append_nil]; exact HR.out.symm⟩
  case round =>
    clear HD HR
    obtain ⟨b, m, f, l, hmf, hm1, hb1, hb2, hbN, hlN, hD, hE⟩ := hrel
    have hsl := hD.out.ow.slLen
    obtain ⟨va, vc, hva, _, _⟩ := hD.out.ow.shape
    subst hva
    have c0 := hD.out.sp.c0
    have c1 := hD.out.sp.c1
    have g0 := hD.out.sp.f0
    have g1 := hD.out.sp.f1
    by_cases hm2 : b + m ≠ idx
    · have hm2 : 2 ≤ m := by omega
      obtain ⟨f, rfl⟩ : ∃ f', f = f' + 1 := ⟨f - 1, by omega⟩
      have s1 := Tree.sp_lt hm2
      have s2 := Tree.sp_pos hm2
      obtain ⟨mid, hmid⟩ : ∃ mid, b + Tree.sp m = mid := ⟨_, rfl⟩
      have hmh : Hid (mid = b + Tree.sp (b + m - b)) := by rw [Hid, Nat.add_sub_cancel_left]; exact hmid.symm
      have i1 := fun w' => rMiddle_at b (b + m) mid (by omega) (by omega) hmh w'
      have i2 := fun w' => rleft_at b (b + m) mid (by omega) (by omega) hmh w'
      have i3 := fun w' => rright_at b (b + m) mid (by omega) (by omega) hmh w'
      have hE := hE.out
      rw [Tree.prfF] at hE
      rw [if_neg (by omega)] at hE
      have HD := hD
      clear hD hmh
      obtain ⟨ee, hee⟩ : ∃ ee, b + m = ee := ⟨_, rfl⟩
      rw [hee] at HD i1 i2 i3 c1
      have q1 : ¬ (ee : Int) = (idx : Int) := by omega
      by_cases ht : idx ≤ mid
      · have t1 : (idx : Int) ≤ (mid : Int) := by omega
        rw [if_pos (by omega)] at hE
        have hE2 : R = Tree.prfF f b (Tree.sp m) idx ++ (l ++ [(mid, ee)]).reverse := by rw [List.reverse_append, List.reverse_singleton, hE, hmid, hee, List.append_assoc]
        have HE := hid hE2
        have hsum : b + (Tree.sp m) = mid := by omega
        clear hE hE2
        go_wp2_with (go_at_call 90; fail)
        refine (i1 _).mono ?_
        rintro r wa ⟨rfl, ba⟩
        have HDa := hid (HD.out.below ba)
        have e0 := HDa.out.sp.c0
        have e1 := HDa.out.sp.c1
        clear ba c0 c1 g0 g1 HD
        go_wp2_with (go_at_call 91; fail)
        refine (i3 _).mono ?_
        rintro r wb ⟨rfl, bb⟩
        have HDb := HDa.out.below bb
        obtain ⟨v', wc, hap, Oc, Gc⟩ := append_pair wb _ l mid ee HDb.ow (by omega)
        have HDc := hid (HDb.grow Gc Oc)
        have k0 := HDc.out.sp.c0
        have k1 := HDc.out.sp.c1
        clear bb HDb HDa Oc Gc e0 e1
        rw [show sg mid ee = Value.agg #[.int .i64 (mid : Int), .int .i64 (ee : Int)] from rfl]
        go_wp2_with (first
          | (go_at_call 92; fail)
          | (at_builtin; go_must (refine Lib.wpList_append_run _ rfl _ _ 47 47 rfl _ _ rfl rfl _ _ hap ?_)))
        refine (i2 _).mono ?_
        rintro r wd ⟨rfl, bd⟩
        have HDd := HDc.out.below bd
        have n0 := HDd.sp.c0
        have n1 := HDd.sp.c1
        have m0 := HDd.sp.f0
        have m1 := HDd.sp.f1
        have HDf := HDd.set b mid
        have HDf := hid HDf
        have hsl2 := HDd.ow.slLen
        clear bd HDc HDd k0 k1
        rw [show sg b mid = Value.agg #[.int .i64 (b : Int), .int .i64 (mid : Int)] from rfl]
        go_wp2
        refine ⟨⟨b, (Tree.sp m), f, l ++ [(mid, ee)], by omega, by omega, by omega, by omega, by omega, by rw [List.length_append]; simp; omega, by rw [hsum]; exact HDf, HE⟩, ?_⟩
        rw [hsl2, hsl, List.length_append]
        simp
        omega
      · have t1 : ¬ (idx : Int) ≤ (mid : Int) := by omega
        rw [if_neg (by omega)] at hE
        have hE2 : R = Tree.prfF f mid (m - Tree.sp m) idx ++ (l ++ [(b, mid)]).reverse := by rw [List.reverse_append, List.reverse_singleton, hE, hmid, List.append_assoc]
        have HE := hid hE2
        have hsum : mid + (m - Tree.sp m) = ee := by omega
        clear hE hE2
        go_wp2_with (go_at_call 90; fail)
        refine (i1 _).mono ?_
        rintro r wa ⟨rfl, ba⟩
        have HDa := hid (HD.out.below ba)
        have e0 := HDa.out.sp.c0
        have e1 := HDa.out.sp.c1
        clear ba c0 c1 g0 g1 HD
        go_wp2_with (go_at_call 92; fail)
        refine (i2 _).mono ?_
        rintro r wb ⟨rfl, bb⟩
        have HDb := HDa.out.below bb
        obtain ⟨v', wc, hap, Oc, Gc⟩ := append_pair wb _ l b mid HDb.ow (by omega)
        have HDc := hid (HDb.grow Gc Oc)
        have k0 := HDc.out.sp.c0
        have k1 := HDc.out.sp.c1
        clear bb HDb HDa Oc Gc e0 e1
        rw [show sg b mid = Value.agg #[.int .i64 (b : Int), .int .i64 (mid : Int)] from rfl]
        go_wp2_with (first
          | (go_at_call 91; fail)
          | (at_builtin; go_must (refine Lib.wpList_append_run _ rfl _ _ 47 47 rfl _ _ rfl rfl _ _ hap ?_)))
        refine (i3 _).mono ?_
        rintro r wd ⟨rfl, bd⟩
        have HDd := HDc.out.below bd
        have n0 := HDd.sp.c0
        have n1 := HDd.sp.c1
        have m0 := HDd.sp.f0
        have m1 := HDd.sp.f1
        have HDf := HDd.set mid ee
        have HDf := hid HDf
        have hsl2 := HDd.ow.slLen
        clear bd HDc HDd k0 k1
        rw [show sg mid ee = Value.agg #[.int .i64 (mid : Int), .int .i64 (ee : Int)] from rfl]
        go_wp2
        refine ⟨⟨mid, (m - Tree.sp m), f, l ++ [(b, mid)], by omega, by omega, by omega, by omega, by omega, by rw [List.length_append]; simp; omega, by rw [hsum]; exact HDf, HE⟩, ?_⟩
        rw [hsl2, hsl, List.length_append]
        simp
        omega
    · have hm3 : b + m = idx := Classical.not_not.1 hm2
      obtain ⟨f, rfl⟩ : ∃ f', f = f' + 1 := ⟨f - 1, by omega⟩
      have hE := hE.out
      rw [Tree.prfF, if_pos hm3] at hE
      rw [hm3] at c1
      by_cases hb0 : b = 0
      · subst hb0
        rw [if_pos rfl, List.nil_append] at hE
        have i4 := turned_any l va vc wr (by omega) (OwnP.atP hD.out.ow)
        have HB := hid hD.out.bel
        subst hE
        clear hD
        go_wp2_with (first
          | (go_at_call 93; refine i4.mono ?_; rintro r wt ⟨vt, rfl, Ot, Ft, bt⟩; have HO := hid Ot; have HF := hid Ft; have HB2 := hid (HB.out.trans (bt.mono HB.out.size)); have hbs := HB.out.size; clear Ot Ft bt))
        refine bodyPost_ret (results_tmp2 rfl _ _ _) rfl ?_
        exact ⟨HB2.out, vt, rfl, HO.out, fun k hk => Nat.le_trans hbs (HF.out k hk)⟩
      · rw [if_neg hb0] at hE
        have b1 : (0 : Int) < (b : Int) := by omega
        obtain ⟨v', wc, hap, Oc, Gc⟩ := append_pair wr _ l b idx hD.out.ow (by omega)
        have HDc := hD.out.grow Gc Oc
        obtain ⟨va', vc', hva', _, _⟩ := HDc.ow.shape
        subst hva'
        have hE2 : R = (l ++ [(b, idx)]).reverse := by rw [List.reverse_append, List.reverse_singleton, hE, hm3]
        have i4 := turned_any (l ++ [(b, idx)]) va' vc' wc (by rw [List.length_append]; simp; omega) (OwnP.atP HDc.ow)
        have HB := hid HDc.bel
        have hln : (l ++ [(b, idx)]).length = l.length + 1 := by simp
        rw [hln] at i4 hap
        subst hE2
        clear hD HDc Oc Gc hE
        go_wp2_with (first
          | (go_at_call 93; refine i4.mono ?_; rintro r wt ⟨vt, rfl, Ot, Ft, bt⟩; have HO := hid Ot; have HF := hid Ft; have HB2 := hid (HB.out.trans (bt.mono HB.out.size)); have hbs := HB.out.size; clear Ot Ft bt)
          | (at_builtin; go_must (refine Lib.wpList_append_run _ rfl _ _ 47 47 rfl _ _ rfl rfl _ _ hap ?_)))
        refine bodyPost_ret (results_tmp2 rfl _ _ _) rfl ?_
        exact ⟨HB2.out, vt, rfl, HO.out, fun k hk => Nat.le_trans hbs (HF.out k hk)⟩
end Go.Proofs.YtjcapdkibbjmiaaGreatDoor
