import Derived.Test.YtejdecfpegpgcaaDoorCSK4
import Derived.Test.YtejdecfpegpgcaaDoorCSP4
namespace Go.Proofs.YtejdecfpegpgcaaDoor
open Go.RowKit Go.Shelf
/-- how many leaves the span in a block has -/
def spLn (w : World) (g : Nat) : Nat :=
  match w.cell? ⟨g, 0, none⟩, w.cell? ⟨g, 1, none⟩ with
  | some (.int _ b), some (.int _ e) => (e - b).toNat
  | _, _ => 0
theorem SpI.ln {w : World} {g : Nat} {b e : Int} (h : SpI w g b e) : spLn w g = (e - b).toNat := by unfold spLn; rw [h.c0, h.c1]
/-- the span that is asked of, and the one that is gone into -/
structure In2 (w w' : World) (b e : Int) (x y : Nat) : Prop where
  s0 : SpI w' w.heap.size b e
  s1 : SpI w' (w.heap.size + 1) x y
  bel : Below w.heap.size w w'
theorem In2.below {w w' w'' : World} {b e : Int} {x y : Nat} (h : In2 w w' b e x y) (hb : Below w'.heap.size w' w'') : In2 w w'' b e x y := ⟨h.s0.below hb, h.s1.below hb, h.bel.trans (hb.mono h.bel.size)⟩
theorem In2.set {w w' : World} {b e : Int} {x y : Nat} (h : In2 w w' b e x y) (x' y' : Nat) : In2 w ((w'.setCell ⟨w.heap.size + 1, 0, none⟩ (.int .i64 (x' : Int))).setCell ⟨w.heap.size + 1, 1, none⟩ (.int .i64 (y' : Int))) b e x' y' :=
  ⟨((heap_setCell_other _ ⟨w.heap.size + 1, 1, none⟩ w.heap.size _ (by show w.heap.size ≠ w.heap.size + 1; omega)).trans (heap_setCell_other _ ⟨w.heap.size + 1, 0, none⟩ w.heap.size _ (by show w.heap.size ≠ w.heap.size + 1; omega))).trans h.s0, h.s1.two _ _,
   (h.bel.setCell (p := ⟨w.heap.size + 1, 0, none⟩) (Nat.le_succ _) _).setCell (p := ⟨w.heap.size + 1, 1, none⟩) (Nat.le_succ _) _⟩
theorem insB_no {n b e : Int} (h : ¬ (1 ≤ n ∧ n ≤ 1099511627776 ∧ 0 ≤ b ∧ b < e ∧ e ≤ n)) : insB n b e = false := by
  unfold insB
  by_cases h1 : 1 ≤ n ∧ n ≤ 1099511627776 ∧ 0 ≤ b ∧ b < n ∧ 0 ≤ e
  · rw [decide_eq_true h1, Bool.true_and]
    cases hc : Tree.insF n.toNat 0 n.toNat b.toNat e.toNat with
    | false => rfl
    | true =>
      have := Tree.insF_in _ _ _ _ _ hc (by omega)
      omega
  · rw [decide_eq_false h1, Bool.false_and]
set_option maxRecDepth 100000 in
set_option maxHeartbeats 4000000 in
theorem rInside8_ok (N B E : Nat) (h1 : B < E) (h2 : E ≤ N) (h3 : N ≤ 1099511627776) (R : Bool) (hR : Hid (Tree.insF N 0 N B E = R)) (w : World) :
    Calls Tryd.prog 16 #[.int .i64 (N : Int), sg B E] w fun r w' => r = .returned (.bool R) ∧ Below w.heap.size w w' := by
  have S0 := SpI.new w (B : Int) (E : Int)
  have c0 := S0.c0
  have c1 := S0.c1
  have b0 := (Below.refl w.heap.size w).alloc (Nat.le_refl _) (.cells #[.int .i64 (B : Int), .int .i64 (E : Int)] 25)
  have z0 := size_alloc w (.cells #[.int .i64 (B : Int), .int .i64 (E : Int)] 25)
  have S1 := SpI.new (w.alloc (.cells #[.int .i64 (B : Int), .int .i64 (E : Int)] 25)) 0 (N : Int)
  rw [z0] at S1
  have b1 := b0.alloc (by omega) (.cells #[.int .i64 0, .int .i64 (N : Int)] 25)
  have D0 : Hid (In2 w ((w.alloc (.cells #[.int .i64 (B : Int), .int .i64 (E : Int)] 25)).alloc (.cells #[.int .i64 0, .int .i64 (N : Int)] 25)) (B : Int) (E : Int) 0 (0 + N)) := ⟨S0.below ((Below.refl _ _).alloc (Nat.le_refl _) _), by rw [Nat.zero_add]; exact S1, b1⟩
  have a1 : ¬ (N : Int) < 1 := by omega
  have a2 : ¬ 1099511627776 < (N : Int) := by omega
  have a3 : ¬ (B : Int) < 0 := by omega
  have a4 : ¬ (E : Int) ≤ (B : Int) := by omega
  have a5 : ¬ (N : Int) < (E : Int) := by omega
  clear S0 S1 b0 b1
  unfold sg
  go_enter Tryd.func16, Tryd.ntmps16
  go_wp2
  generalize (w.alloc (.cells #[.int .i64 (B : Int), .int .i64 (E : Int)] 25)).alloc (.cells #[.int .i64 0, .int .i64 (N : Int)] 25) = wA at *
  clear c0 c1 z0
  go_loopw [6] (fun _ w' => ∃ (x k f : Nat), 1 ≤ k ∧ k ≤ f ∧ x + k ≤ N ∧ Hid (In2 w w' (B : Int) (E : Int) x (x + k)) ∧ Hid (Tree.insF f x k B E = R)) (fun _ w' => spLn w' (w.heap.size + 1))
  case atStart => exact ⟨0, N, N, by omega, Nat.le_refl _, by omega, D0, hR⟩
  case round =>
    clear D0 hR
    obtain ⟨x, k, f, hk1, hkf, hxN, hD, hE⟩ := hrel
    obtain ⟨f, rfl⟩ : ∃ f', f = f' + 1 := ⟨f - 1, by omega⟩
    have c0 := hD.out.s0.c0
    have c1 := hD.out.s0.c1
    have d0 := hD.out.s1.c0
    have d1 := hD.out.s1.c1
    have g0 := hD.out.s1.f0
    have g1 := hD.out.s1.f1
    have hln := hD.out.s1.ln
    have hE := hE.out
    rw [Tree.insF] at hE
    by_cases hq : B = x ∧ E = x + k
    · rw [if_pos hq] at hE
      subst hE
      obtain ⟨rfl, rfl⟩ := hq
      have HB := hid hD.out.bel
      clear hD
      go_wp2
      go_ret
      exact ⟨rfl, HB.out⟩
    · rw [if_neg hq] at hE
      obtain ⟨ee, hee⟩ : ∃ ee, x + k = ee := ⟨_, rfl⟩
      rw [hee] at hD d1 hln hq
      have hcase : (¬ (x : Int) = (B : Int)) ∨ (((x : Int) = (B : Int)) = True ∧ ¬ (ee : Int) = (E : Int)) := by
        by_cases e1 : (x : Int) = (B : Int)
        · exact .inr ⟨eq_true e1, by omega⟩
        · exact .inl e1
      rcases hcase with hne | ⟨hne, hne2⟩
      all_goals
        by_cases hk2 : k < 2
        · rw [if_pos hk2] at hE
          subst hE
          have q1 : (ee : Int) - (x : Int) < 2 := by omega
          have q2 : IntKind.i64.wrap ((ee : Int) - (x : Int)) = (ee : Int) - (x : Int) := by rw [IntKind.wrap_i64]; omega
          have HB := hid hD.out.bel
          clear hD
          go_wp2
          go_ret
          exact ⟨rfl, HB.out⟩
        · rw [if_neg hk2] at hE
          have q1 : ¬ (ee : Int) - (x : Int) < 2 := by omega
          have q2 : IntKind.i64.wrap ((ee : Int) - (x : Int)) = (ee : Int) - (x : Int) := by rw [IntKind.wrap_i64]; omega
          have s1 := Tree.sp_lt (n := k) (by omega)
          have s2 := Tree.sp_pos (n := k) (by omega)
          obtain ⟨mid, hmid⟩ : ∃ mid, x + Tree.sp k = mid := ⟨_, rfl⟩
          have hmh : Hid (mid = x + Tree.sp (ee - x)) := by rw [Hid, show ee - x = k by omega]; exact hmid.symm
          have i1 := fun w' => rMiddle_at x ee mid (by omega) (by omega) hmh w'
          have i2 := fun w' => rleft_at x ee mid (by omega) (by omega) hmh w'
          have i3 := fun w' => rright_at x ee mid (by omega) (by omega) hmh w'
          unfold sg at i1 i2 i3
          rw [hmid] at hE
          by_cases t1 : E ≤ mid
          · have t1' : (E : Int) ≤ (mid : Int) := by omega
            rw [if_pos t1] at hE
            have HE := hid hE
            have hsum : x + Tree.sp k = mid := hmid
            have HD := hD
            clear hD hE hmh
            go_wp2_with (go_at_call 42; fail)
            refine (i1 _).mono ?_
            rintro r wa ⟨rfl, ba⟩
            have HDa := hid (HD.out.below ba)
            have c0 := HDa.out.s0.c0
            have c1 := HDa.out.s0.c1
            have d0 := HDa.out.s1.c0
            have d1 := HDa.out.s1.c1
            clear ba HD g0 g1
            go_wp2_with (go_at_call 47; fail)
            refine (i2 _).mono ?_
            rintro r wb ⟨rfl, bb⟩
            have HDb := HDa.out.below bb
            have d0 := HDb.s1.c0
            have d1 := HDb.s1.c1
            have g0 := HDb.s1.f0
            have g1 := HDb.s1.f1
            have HDf := hid (HDb.set x mid)
            have hln2 := HDf.out.s1.ln
            clear bb HDa HDb
            go_wp2
            refine ⟨⟨x, Tree.sp k, f, by omega, by omega, by omega, by rw [hsum]; exact HDf, HE⟩, ?_⟩
            rw [hln, hln2]
            omega
          · have t1' : ¬ (E : Int) ≤ (mid : Int) := by omega
            rw [if_neg t1] at hE
            by_cases t2 : mid ≤ B
            · have t2' : (mid : Int) ≤ (B : Int) := by omega
              rw [if_pos t2] at hE
              have HE := hid hE
              have hsum : mid + (k - Tree.sp k) = ee := by omega
              have HD := hD
              clear hD hE hmh
              go_wp2_with (go_at_call 42; fail)
              refine (i1 _).mono ?_
              rintro r wa ⟨rfl, ba⟩
              have HDa := hid (HD.out.below ba)
              have c0 := HDa.out.s0.c0
              have c1 := HDa.out.s0.c1
              have d0 := HDa.out.s1.c0
              have d1 := HDa.out.s1.c1
              clear ba HD g0 g1
              go_wp2_with (go_at_call 48; fail)
              refine (i3 _).mono ?_
              rintro r wb ⟨rfl, bb⟩
              have HDb := HDa.out.below bb
              have d0 := HDb.s1.c0
              have d1 := HDb.s1.c1
              have g0 := HDb.s1.f0
              have g1 := HDb.s1.f1
              have HDf := hid (HDb.set mid ee)
              have hln2 := HDf.out.s1.ln
              clear bb HDa HDb
              go_wp2
              refine ⟨⟨mid, k - Tree.sp k, f, by omega, by omega, by omega, by rw [hsum]; exact HDf, HE⟩, ?_⟩
              rw [hln, hln2]
              omega
            · have t2' : ¬ (mid : Int) ≤ (B : Int) := by omega
              rw [if_neg t2] at hE
              subst hE
              have HD := hD
              clear hD hmh
              go_wp2_with (go_at_call 42; fail)
              refine (i1 _).mono ?_
              rintro r wa ⟨rfl, ba⟩
              have HDa := hid (HD.out.below ba)
              have c0 := HDa.out.s0.c0
              have c1 := HDa.out.s0.c1
              have HB := hid HDa.out.bel
              clear ba HD g0 g1 HDa
              go_wp2
              go_ret
              exact ⟨rfl, HB.out⟩
set_option maxRecDepth 100000 in
set_option maxHeartbeats 4000000 in
theorem rInside8_any (n b e : Int) (w : World) : Calls Tryd.prog 16 #[.int .i64 n, sg b e] w fun r w' => r = .returned (.bool (insB n b e)) ∧ Below w.heap.size w w' := by
  by_cases hc : 1 ≤ n ∧ n ≤ 1099511627776 ∧ 0 ≤ b ∧ b < e ∧ e ≤ n
  · obtain ⟨N, rfl⟩ : ∃ N : Nat, n = (N : Int) := ⟨n.toNat, by omega⟩
    obtain ⟨B, rfl⟩ : ∃ B : Nat, b = (B : Int) := ⟨b.toNat, by omega⟩
    obtain ⟨E, rfl⟩ : ∃ E : Nat, e = (E : Int) := ⟨e.toNat, by omega⟩
    have e1 : insB (N : Int) (B : Int) (E : Int) = Tree.insF N 0 N B E := by
      unfold insB
      rw [decide_eq_true (show 1 ≤ (N : Int) ∧ (N : Int) ≤ 1099511627776 ∧ 0 ≤ (B : Int) ∧ (B : Int) < (N : Int) ∧ 0 ≤ (E : Int) from ⟨hc.1, hc.2.1, hc.2.2.1, by omega, by omega⟩), Bool.true_and, Int.toNat_natCast, Int.toNat_natCast, Int.toNat_natCast]
    exact rInside8_ok N B E (by omega) (by omega) (by omega) _ (hid e1.symm) w
  · rw [insB_no hc]
    have S0 := SpI.new w b e
    have c0 := S0.c0
    have c1 := S0.c1
    have HB := hid ((Below.refl w.heap.size w).alloc (Nat.le_refl _) (.cells #[.int .i64 b, .int .i64 e] 25))
    clear S0
    unfold sg
    by_cases h1 : n < 1
    · go_enter Tryd.func16, Tryd.ntmps16
      go_wp2
      go_ret
      exact ⟨rfl, HB.out⟩
    · by_cases h2 : 1099511627776 < n
      · go_enter Tryd.func16, Tryd.ntmps16
        go_wp2
        go_ret
        exact ⟨rfl, HB.out⟩
      · by_cases h3 : b < 0
        · go_enter Tryd.func16, Tryd.ntmps16
          go_wp2
          go_ret
          exact ⟨rfl, HB.out⟩
        · by_cases h4 : e ≤ b
          · go_enter Tryd.func16, Tryd.ntmps16
            go_wp2
            go_ret
            exact ⟨rfl, HB.out⟩
          · have h5 : n < e := by omega
            go_enter Tryd.func16, Tryd.ntmps16
            go_wp2
            go_ret
            exact ⟨rfl, HB.out⟩
end Go.Proofs.YtejdecfpegpgcaaDoor
