import Derived.Test.YtblmaokonhdjaaaGreatDoorPkPL12
import Derived.Test.YtblmaokonhdjaaaGreatDoorPkO46
import Derived.Test.YtblmaokonhdjaaaGreatDoorPkFN6
import Derived.Test.YtblmaokonhdjaaaGreatDoorPkO9
/- Layer 14, the law: run (SpanRight) -/
namespace Go.Proofs.YtblmaokonhdjaaaGreatDoor
open Go.RowKit Go.Shelf
namespace Spn
theorem pk_natR (c : Int) (k : Nat) (h : 0 < k) : ∃ p : Nat, pk c (k : Int) = (p : Int) ∧ p < k := ⟨(pk c k).toNat, by have := pk_nonneg c k (by omega); omega, by have := pk_lt c k (by omega); have := pk_nonneg c k (by omega); omega⟩
theorem RnI.set3' {w : World} {g : Nat} {n x y : Int} {v : Value} (h : RnI w g n x y v) (v' : Value) : RnI (w.setCell ⟨g, 3, none⟩ v') g n x y v' := heap_setCell_same w g 3 _ _ _ h
theorem RnI.set2' {w : World} {g : Nat} {n x y : Int} {v : Value} (h : RnI w g n x y v) (y' : Int) : RnI (w.setCell ⟨g, 2, none⟩ (.int .i64 y')) g n x y' v := heap_setCell_same w g 2 _ _ _ h
/-- what run gives -/
structure Rg (w w' : World) (v u : Value) (H L : List (List UInt8)) : Prop where
  oh : OwnM 1 w' v H.length (svs H)
  ol : OwnM 1 w' u L.length (svs L)
  h1 : H.length ≤ 100
  l1 : 1 ≤ L.length
  l2 : L.length ≤ 400
  fh : ∀ k, v.ownBlock = some k → w.heap.size ≤ k
  fl : ∀ k, u.ownBlock = some k → w.heap.size ≤ k
  ne : ∀ k, v.ownBlock = some k → u.ownBlock ≠ some k
  bl : Below w.heap.size w w'
set_option maxRecDepth 100000 in
set_option maxHeartbeats 8000000 in
theorem run14L_any (sz at' mn c : Int) (w : World) (s1 : -9223372036854775808 ≤ sz) (s2 : sz ≤ 9223372036854775807) (t1 : -9223372036854775808 ≤ at') (t2 : at' ≤ 9223372036854775807) (m1 : -9223372036854775808 ≤ mn) (m2 : mn ≤ 9223372036854775807) :
    Calls Tryz.prog 8 #[.int .i64 sz, .int .i64 at', .int .i64 mn, .int .i64 c] w fun r w' => ∃ (n x y : Int) (v u : Value) (H L : List (List UInt8)), r = .returned (.tuple #[rn n x y v, u]) ∧ Rg w w' v u H L := by
  obtain ⟨p, hp, hp'⟩ := pk_natR sz 1099511627776 (by omega)
  have j1 := fun w' => pick_any sz 1099511627776 s1 s2 (by omega) (by omega) w'
  rw [show ((1099511627776 : Nat) : Int) = 1099511627776 from rfl] at hp
  rw [hp] at j1
  obtain ⟨n, hn⟩ : ∃ n : Nat, n = p + 1 := ⟨_, rfl⟩
  have hnw : IntKind.i64.wrap (1 + (p : Int)) = (n : Int) := by rw [IntKind.wrap_i64]; omega
  obtain ⟨b, hb, hb'⟩ := pk_natR at' n (by omega)
  have j2 := fun w' => pick_any at' n t1 t2 (by omega) (by omega) w'
  rw [hb] at j2
  obtain ⟨d0, hd0⟩ : ∃ d0 : Nat, n - b = d0 := ⟨_, rfl⟩
  have hdw : IntKind.i64.wrap ((n : Int) - (b : Int)) = (d0 : Int) := by rw [IntKind.wrap_i64]; omega
  obtain ⟨d, hd⟩ : ∃ d : Nat, min 300 d0 = d := ⟨_, rfl⟩
  have hmin : min (300 : Int) (d0 : Int) = (d : Int) := by omega
  obtain ⟨x, hx, hx'⟩ := pk_natR mn d (by omega)
  have j3 := fun w' => pick_any mn d m1 m2 (by omega) (by omega) w'
  rw [hx] at j3
  obtain ⟨m, hm⟩ : ∃ m : Nat, m = x + 1 := ⟨_, rfl⟩
  have hmw : IntKind.i64.wrap (1 + (x : Int)) = (m : Int) := by rw [IntKind.wrap_i64]; omega
  obtain ⟨e, he⟩ : ∃ e : Nat, e = b + m := ⟨_, rfl⟩
  have hew : IntKind.i64.wrap ((b : Int) + (m : Int)) = (e : Int) := by rw [IntKind.wrap_i64]; omega
  have hm1 : 1 ≤ m := by omega
  have hm3 : m ≤ 300 := by omega
  have hen : e ≤ n := by omega
  have hbe : b < e := by omega
  have hn40 : n ≤ 1099511627776 := by omega
  have i2 := fun w' => rtold14_any b e hbe (by omega) n 0 n (Nat.le_refl _) (by omega) (by omega) w'
  rw [Nat.zero_add] at i2
  obtain ⟨T, hTl⟩ : ∃ T, (Tree.runF n 0 n b e).length = T := ⟨_, rfl⟩
  have hT81 : T ≤ 81 := by rw [← hTl]; exact told_len (by omega) hn40
  have I2 : Hid (∀ w' : World, Calls Tryz.prog 34 #[sg (b : Int) (e : Int), .int .i64 0, .int .i64 (n : Int)] w' fun r w'' => ∃ a c, r = .returned (.slice a T c) ∧ Below w'.heap.size w' w'') := fun w' => (i2 w').mono fun r w'' ⟨v, g1, g2, _, g4⟩ => by
    obtain ⟨a, c, hh, _⟩ := OwnM.shape g2
    exact ⟨a, c, by rw [g1, hh, hTl], g4⟩
  obtain ⟨q0, hq0⟩ : ∃ q0, w.heap.size = q0 := ⟨_, rfl⟩
  obtain ⟨w1, hw1⟩ : ∃ w1, w.alloc (.cells #[.int .i64 0, .int .i64 0, .int .i64 0, .slice none 0 0] 24) = w1 := ⟨_, rfl⟩
  have b1 : Below w.heap.size w w1 := by rw [← hw1]; exact (Below.refl _ _).alloc (Nat.le_refl _) _
  have Z1 : RnI w1 q0 0 0 0 (.slice none 0 0) := by rw [← hw1, ← hq0]; exact RnI.new w 0 0 0 _
  obtain ⟨q1, hq1⟩ : ∃ q1, q0 + 1 = q1 := ⟨_, rfl⟩
  have s1' : w1.heap.size = q1 := by rw [← hw1, size_alloc, hq0, hq1]
  obtain ⟨w4, hw4⟩ : ∃ w4, w1.alloc (.cells #[.int .i64 (n : Int), .int .i64 (b : Int), .int .i64 (e : Int), .slice none 0 0] 24) = w4 := ⟨_, rfl⟩
  have b4' : Below w1.heap.size w1 w4 := by rw [← hw4]; exact (Below.refl _ _).alloc (Nat.le_refl _) _
  have R4 : Hid (RnI w4 q1 (n : Int) (b : Int) (e : Int) (.slice none 0 0)) := by unfold Hid; rw [← hw4, ← s1']; exact RnI.new w1 _ _ _ _
  have Z4 := hid (Z1.below b4')
  have B4 := hid (b1.trans (b4'.mono b1.size))
  have z4 : q1 < w4.heap.size := lt_of_heap R4.out
  have zq : q0 < q1 := by omega
  have HQ0 := hid hq0
  have HQ1 := hid hq1
  have HW1 := hid hw1
  have HW4 := hid hw4
  clear hp hp' hn hb hb' hd0 hd hx hx' hm he hTl i2 hq0 hq1 hw1 b1 Z1 s1' hw4 b4'
  go_enter Tryz.func8, Tryz.ntmps8
  go_upto_region 5 with (go_at_call 9; (first
        | ((with_reducible refine (j1 _).mono ?_); rintro r w4' ⟨rfl, h0⟩; have h0 := h0.symm; subst h0)
        | ((with_reducible refine (j2 _).mono ?_); rintro r w4' ⟨rfl, h0⟩; have h0 := h0.symm; subst h0)
        | ((with_reducible refine (j3 _).mono ?_); rintro r w4' ⟨rfl, h0⟩; have h0 := h0.symm; subst h0)))
  rw [HW1.out, HQ0.out, HQ1.out, HW4.out]
  clear j1 j2 j3 HW1 HW4 hnw hdw hmin hmw hew
  go_wp2
  go_loopw [13] (fun i w' => ∃ (j : Nat) (v : Value) (X : List (List UInt8)), j ≤ T ∧ X.length = j ∧ i = .int .i64 (j : Int) ∧ Hid (RnI w' q1 (n : Int) (b : Int) (e : Int) v) ∧ Hid (OwnM 1 w' v X.length (svs X)) ∧ Hid (∀ b, v.ownBlock = some b → w4.heap.size ≤ b) ∧ Hid (Keep (fun k => k = q1) w4 w')) (fun i _ => T - (intOf i).toNat)
  case atStart => exact ⟨0, .slice none 0 0, [], by omega, rfl, rfl, R4, OwnM.nil 1 _, fun b hb => (by cases hb), Keep.refl _ _⟩
  case round =>
    obtain ⟨j, v, X, hj, hXj, rfl, hV, hO, hF, hK⟩ := hrel
    have r1 := hV.out.c1
    have r2 := hV.out.c2
    have i3 := I2.out wr
    by_cases hjT : j < T
    · have b0 : (j : Int) < (T : Int) := by omega
      have hjT' := hid hjT
      have HXj := hid hXj
      clear hXj
      go_upto_region 8 with (go_at_call 34; (with_reducible refine i3.mono ?_); rintro r wt ⟨a5, c5, rfl, b5⟩)
      have hV := hid (hV.out.below b5)
      have hO := hid (hO.out.below b5)
      have hK := hid (Keep.bl hK.out b5)
      clear i3 r1 r2 b5
      have iL := lleaf_at (IntKind.i64.wrap (c + (j : Int))) _ rfl wt.drew
      have hll : X.length ≤ 8000000000000 := by rw [HXj.out]; omega
      generalize lf (IntKind.i64.wrap (c + (j : Int))) = rr at *
      rw [show sv rr = Value.string ⟨rr.toArray⟩ from rfl] at iL
      have x0 : wt.drew.cell? ⟨q1, 3, none⟩ = some v := hV.out.c3
      have f0 : wt.drew.frozen? ⟨q1, 3, none⟩ = false := frozen_of_row _ _ 3 _ _ hV.out
      go_region_law (first
        | (refine step_call14 rfl 10 #[.int .i64 (IntKind.i64.wrap (c + (j : Int)))] (by kernel_rfl) (fun v w6 => v = .string ⟨rr.toArray⟩ ∧ Below wt.heap.size wt w6) (iL.mono fun e w6 h => ⟨_, h.1, rfl, drewBelow8 h.2⟩) ?_; rintro v6 w6 ⟨rfl, b6⟩; have J6 := hV.out.below b6; have x1 := J6.c3; obtain ⟨v7, w7, hap, hO7, hG7⟩ := append_tx14 w6 v X rr (hO.out.below b6) hll; obtain ⟨a7, c7, hv7, _, _, _⟩ := ownM_at hO7; obtain ⟨pp, hpp⟩ : ∃ p, (X ++ [rr]).length = p := ⟨_, rfl⟩; rw [hpp] at hv7; clear hpp; subst hv7; rw [show sv rr = Value.string ⟨rr.toArray⟩ from rfl] at hap; have x1a : (w6.alloc (.cells #[.string ⟨rr.toArray⟩] 9)).cell? ⟨q1, 3, none⟩ = some v := (J6.below ((Below.refl _ _).alloc (Nat.le_refl _) _)).c3; have J7 : RnI w7 q1 (n : Int) (b : Int) (e : Int) v := (hG7.old q1 (lt_of_heap J6) (fun h => by have := hF.out _ h; omega)).trans J6; have x7 := J7.c3; have f7 : w7.frozen? ⟨q1, 3, none⟩ = false := frozen_of_row _ _ 3 _ _ J7)
        | (refine step_append_run rfl _ _ 22 rfl _ _ _ w7 rfl rfl hap ?_))
      all_goals
        have hk6 := hK.out.size
        have hv7 : ∀ b, (Value.slice a7 pp c7).ownBlock = some b → w4.heap.size ≤ b := fun b hb => by
          rcases hG7.alt with h | ⟨h, _⟩
          · rw [h] at hb; exact hF.out b hb
          · have := h b hb; have := b6.size; omega
        have k6 := hK.out.trans (Keep.ofBelow (S := fun k => k = q1) b6) (fun _ _ e => e)
        have k7 : Keep (fun k => k = q1) w4 w7 := ⟨hG7.os.trans k6.os, hG7.tape.trans k6.tape, hG7.output.trans k6.output, Nat.le_trans k6.size hG7.size, fun k hk hs => (hG7.old k (Nat.lt_of_lt_of_le hk k6.size) (fun h => by have := hF.out k h; omega)).trans (k6.block k hk hs)⟩
        have K8 := hid (k7.trans (Keep.ofSet (S := fun k => k = q1) w7 q1 3 (.slice a7 pp c7) rfl) (fun _ _ e => e))
        have J8 := hid (J7.set3' (.slice a7 pp c7))
        have O8 := hid (OwnM.keepS hO7 (Keep.ofSet (S := fun k => k = q1) w7 q1 3 (.slice a7 pp c7) rfl) (fun k hk e => by have := hv7 k hk; omega))
        have V8 := hid hv7
        clear hap hO7 hG7 J6 J7 x1 x1a x7 f7 b6 k6 k7 hv7 hO hF hK hV x0 f0
        go_wp2
        exact ⟨⟨j + 1, _, X ++ [rr], hjT'.out, by rw [List.length_append, HXj.out]; rfl, by go_num, J8, O8, V8, K8⟩, by have := hjT'.out; simp [intOf]; omega⟩
    · obtain rfl : T = j := by omega
      have b0 : ¬ (T : Int) < (T : Int) := by omega
      have HXj := hid hXj
      clear hXj
      obtain ⟨aH, cH, hvH, _, _, _⟩ := ownM_at hO.out
      subst hvH
      have iL := fun (x : Int) w' => lleaf_at x (lf x) rfl w'
      go_upto_region 9 with (go_at_call 34; (with_reducible refine i3.mono ?_); rintro r w5 ⟨a5, c5, rfl, b5⟩)
      have zw4 := hK.out.size
      have R5 := hid (hV.out.below b5)
      have O5 := hid (hO.out.below b5)
      have Z5 := hid ((Z4.out.keep hK.out (by omega)).below b5)
      have B5 : Hid (Below w.heap.size w w5) := (B4.out.trans (keep_below14 hK.out B4.out.size (fun k hk => by have := HQ0.out; omega))).trans (b5.mono (by have := B4.out.size; omega))
      have F5 : Hid (∀ k, (Value.slice aH X.length cH).ownBlock = some k → w4.heap.size ≤ k) := hF.out
      have L5 : Hid (∀ k, (Value.slice aH X.length cH).ownBlock = some k → k < w5.heap.size) := fun k hk => O5.out.lt k hk
      have z5 : Hid (q1 < w5.heap.size) := lt_of_heap R5.out
      clear i3 r1 r2 b5 hV hO hK hF Z4 R4 B4 zw4
      go_wp2
      go_loopw [14, 15] (fun v i w' => ∃ (t : Nat) (Y : List (List UInt8)), t ≤ m ∧ Y.length = t ∧ i = .int .i64 (t : Int) ∧ Hid (OwnM 1 w' v Y.length (svs Y)) ∧ Hid (∀ b, v.ownBlock = some b → w5.heap.size ≤ b) ∧ Hid (Below w5.heap.size w5 w')) (fun _ i _ => m - (intOf i).toNat)
      case atStart => exact ⟨0, [], by omega, rfl, rfl, OwnM.nil 1 _, fun b hb => (by cases hb), Below.refl _ _⟩
      case round =>
        obtain ⟨t, Y, ht, hYt, rfl, hO, hF, hB⟩ := hrel
        have HYt := hid hYt
        by_cases htm : t < m
        · have d0 : (t : Int) < (m : Int) := by omega
          have htm' := hid htm
          have iL' := iL (wrap64 (wrap64 (c - 1) - (t : Int)))
          have hll : Y.length ≤ 8000000000000 := by rw [hYt]; omega
          clear hYt
          generalize lf (wrap64 (wrap64 (c - 1) - (t : Int))) = rr at *
          simp only [show sv rr = Value.string ⟨rr.toArray⟩ from rfl] at iL'
          go_wp2_with (first
            | (go_at_call 10; (with_reducible refine (iL' _).mono ?_); rintro r w6 ⟨rfl, b6⟩; obtain ⟨v7, w7, hap, hO7, hG7⟩ := append_tx14 w6 _ Y rr (hO.out.below b6) hll; rw [show sv rr = Value.string ⟨rr.toArray⟩ from rfl] at hap)
            | (at_builtin; refine Lib.wpList_append_run _ rfl _ _ 22 22 rfl _ _ rfl rfl _ _ hap ?_; clear hap))
          obtain ⟨f7, b7⟩ := grow_fresh (B := w5.heap.size) hG7 (Nat.le_trans hB.out.size b6.size) hF.out
          have P1 := hid hO7
          have P2 := hid f7
          have P3 := hid (hB.out.trans ((b6.mono hB.out.size).trans b7))
          exact ⟨⟨t + 1, Y ++ [rr], htm'.out, by rw [List.length_append, HYt.out]; rfl, by go_num, P1, P2, P3⟩, by have := htm'.out; simp [intOf]; omega⟩
        · obtain rfl : m = t := by omega
          have d0 : ¬ (m : Int) < (m : Int) := by omega
          clear hYt
          have R6 := hid (R5.out.below hB.out)
          have Z6 := hid (Z5.out.below hB.out)
          have k0 := R6.out.c0
          have k1 := R6.out.c1
          have k2 := R6.out.c2
          have k3 := R6.out.c3
          have y0 := Z6.out.c0
          have y1 := Z6.out.c1
          have y2 := Z6.out.c2
          have y3 := Z6.out.c3
          have g0 := frozen_of_row _ _ 0 _ _ Z6.out
          have g1 := frozen_of_row _ _ 1 _ _ Z6.out
          have g2 := frozen_of_row _ _ 2 _ _ Z6.out
          have g3 := frozen_of_row _ _ 3 _ _ Z6.out
          go_wp2
          refine bodyPost_ret (results_row_tmp rfl _ _ q0 24 _ (0, 0) _ rfl (RnI.four Z6.out (n : Int) (b : Int) (e : Int) (.slice aH X.length cH)) Tryz.underlying24 rfl sizeRn) rfl ⟨(n : Int), (b : Int), (e : Int), .slice aH X.length cH, _, rfl, X, Y, ?_⟩
          have K4 := keep_four wr q0 (.int .i64 (n : Int)) (.int .i64 (b : Int)) (.int .i64 (e : Int)) (.slice aH X.length cH)
          have hq0 := HQ0.out
          have hz5 := z5.out
          have hB0 := B5.out.size
          refine ⟨OwnM.keep (O5.out.below hB.out) K4 fun k hk e => ?_, OwnM.keep hO.out K4 fun k hk e => ?_, by rw [HXj.out]; omega, by rw [HYt.out]; omega, by rw [HYt.out]; omega, fun k hk => ?_, fun k hk => ?_, fun k hk e => ?_, below_four (B5.out.trans (hB.out.mono hB0)) (by omega) _ _ _ _⟩
          · have := F5.out k hk; omega
          · have := hF.out k hk; omega
          · have := F5.out k hk; omega
          · have := hF.out k hk; omega
          · have := L5.out k hk; have := hF.out k e; omega
end Spn
end Go.Proofs.YtblmaokonhdjaaaGreatDoor

/- Layer 14, the law: SpanRight -/
namespace Go.Proofs.YtblmaokonhdjaaaGreatDoor
open Go.RowKit Go.Shelf
namespace Spn
set_option maxRecDepth 100000 in
set_option maxHeartbeats 8000000 in
theorem right14_none (sz at' mn c mo : Int) (w : World) (s1 : -9223372036854775808 ≤ sz) (s2 : sz ≤ 9223372036854775807) (t1 : -9223372036854775808 ≤ at') (t2 : at' ≤ 9223372036854775807) (m1 : -9223372036854775808 ≤ mn) (m2 : mn ≤ 9223372036854775807) (o1 : -9223372036854775808 ≤ mo) (o2 : mo ≤ 9223372036854775807) (Z : Tb w) (p : Int) (hp : pk mo 12 = p) (e1 : ¬ p = 1) (e2 : ¬ p = 2) (e3 : ¬ p = 3) (e4 : ¬ p = 4) :
    Calls Tryz.prog 4 #[.int .i64 sz, .int .i64 at', .int .i64 mn, .int .i64 c, .int .i64 mo] w fun r w' => r = .returned (.bool true) ∧ Below w.heap.size w w' := by
  have i0 := known14_any w Z
  have HZ := hid Z
  have iR := fun w' => run14L_any sz at' mn c w' s1 s2 t1 t2 m1 m2
  have iP := fun w' => pick_any mo 12 o1 o2 (by omega) (by omega) w'
  rw [hp] at iP
  obtain ⟨rr, hrr⟩ : ∃ rr, lf c = rr := ⟨_, rfl⟩
  have iL := fun w' => lleaf_at c rr hrr w'
  rw [show sv rr = Value.string ⟨rr.toArray⟩ from rfl] at iL
  clear Z hp hrr s1 s2 t1 t2 m1 m2 o1 o2
  go_enter Tryz.func4, Tryz.ntmps4
  go_upto_region 2 with (go_at_call 6; (with_reducible refine i0.mono ?_); rintro r w1 ⟨rfl, b1⟩)
  go_upto_region 3 with (go_at_call 8; (with_reducible refine (iR _).mono ?_); rintro r w2 ⟨n, x, y, v, u, H, L, rfl, G⟩; obtain ⟨aH, cH, rfl, AtH, qH1, qH2⟩ := ownM_at G.oh; obtain ⟨aL, cL, rfl, AtL, qL1, qL2⟩ := ownM_at G.ol)
  obtain ⟨q, hq⟩ : ∃ q, w2.heap.size = q := ⟨_, rfl⟩
  obtain ⟨w3, hw3⟩ : ∃ w3, w2.alloc (.cells #[.int .i64 n, .int .i64 x, .int .i64 y, .slice aH H.length cH] 24) = w3 := ⟨_, rfl⟩
  have b3 : Below w2.heap.size w2 w3 := by rw [← hw3]; exact (Below.refl _ _).alloc (Nat.le_refl _) _
  have hV : Hid (RnI w3 q n x y (.slice aH H.length cH)) := by unfold Hid; rw [← hw3, ← hq]; exact RnI.new w2 _ _ _ _
  have zb := b1.size
  have B3 : Hid (Below w.heap.size w w3) := (b1.trans (G.bl.mono zb)).trans (b3.mono (by have := G.bl.size; omega))
  have hO := hid (G.oh.below b3)
  have hU := hid (G.ol.below b3)
  have AH3 := hid (AtH.below b3 (Nat.le_refl _))
  have AL3 := hid (AtL.below b3 (Nat.le_refl _))
  have hF : Hid (∀ k, (Value.slice aH H.length cH).ownBlock = some k → k < q) := fun k hk => by rw [← hq]; exact G.oh.lt k hk
  have hF0 : Hid (∀ k, (Value.slice aH H.length cH).ownBlock = some k → w.heap.size ≤ k) := fun k hk => Nat.le_trans zb (G.fh k hk)
  have hE : Hid (∀ k, (Value.slice aL L.length cL).ownBlock = some k → k < q) := fun k hk => by rw [← hq]; exact G.ol.lt k hk
  have hE0 : Hid (∀ k, (Value.slice aL L.length cL).ownBlock = some k → w.heap.size ≤ k) := fun k hk => Nat.le_trans zb (G.fl k hk)
  have hNE : Hid (∀ k, (Value.slice aH H.length cH).ownBlock = some k → (Value.slice aL L.length cL).ownBlock ≠ some k) := G.ne
  have h1 := G.h1
  have l1 := G.l1
  have l2 := G.l2
  have hqz : Hid (w.heap.size ≤ q) := by have := G.bl.size; show _ ≤ _; omega
  rw [hw3, hq]
  clear b1 G b3 hw3 hq AtH AtL i0 iR zb
  have g1 : (p == 1) = false := by simpa using e1
  have g2 : (p == 2) = false := by simpa using e2
  have g3 : (p == 3) = false := by simpa using e3
  have g4 : (p == 4) = false := by simpa using e4
  go_wp2_with (go_at_call 9; (with_reducible refine (iP _).mono ?_); rintro r w9 ⟨rfl, hw9⟩; replace hw9 := hw9.symm; subst hw9)
  obtain ⟨wz, hwz⟩ : ∃ wz, wz = w3 := ⟨_, rfl⟩
  subst hwz
  obtain ⟨HZ', hHZ⟩ : ∃ Y, Y = H := ⟨_, rfl⟩
  obtain ⟨LZ', hLZ⟩ : ∃ Y, Y = L := ⟨_, rfl⟩
  obtain ⟨nZ, hZn⟩ : ∃ k, HZ'.length = k := ⟨_, rfl⟩
  obtain ⟨nY, hYn⟩ : ∃ k, LZ'.length = k := ⟨_, rfl⟩
  subst hHZ hLZ
  have hZ1 : HZ'.length ≤ 8796093021952 := by omega
  have hZ2 : LZ'.length ≤ 8796093021952 := by omega
  have AZ := AH3
  have AL := AL3
  have RZ := hV
  have BZ := B3
  rw [hZn] at RZ ⊢
  rw [hYn] at ⊢
  obtain ⟨aZ, haZ⟩ : ∃ a, a = aH := ⟨_, rfl⟩
  obtain ⟨aY, haY⟩ : ∃ a, a = aL := ⟨_, rfl⟩
  obtain ⟨cZ, hcZ⟩ : ∃ a, a = cH := ⟨_, rfl⟩
  obtain ⟨cY, hcY⟩ : ∃ a, a = cL := ⟨_, rfl⟩
  subst haZ haY hcZ hcY
  clear hO hU hF hF0 hE hE0 hNE AH3 AL3 hV B3
  have MK : Hid (∀ w', Below wz.heap.size wz w' → w'.cell? ⟨q, 0, none⟩ = some (.int .i64 n) ∧ w'.cell? ⟨q, 1, none⟩ = some (.int .i64 x) ∧ w'.cell? ⟨q, 2, none⟩ = some (.int .i64 y) ∧ w'.cell? ⟨q, 3, none⟩ = some (.slice aZ nZ cZ)) := fun w' hb => ⟨(RZ.out.below hb).c0, (RZ.out.below hb).c1, (RZ.out.below hb).c2, (RZ.out.below hb).c3⟩
  have X0 := MK.out wz (Below.refl _ _)
  have iA := hid fun (w' : World) (hb : Below wz.heap.size wz w') => asks14_any n x y rr HZ' LZ' hZ1 hZ2 aZ aY cZ cY w' (AZ.out.below hb (Nat.le_refl _)) (AL.out.below hb (Nat.le_refl _)) (HZ.out.below (BZ.out.trans (hb.mono BZ.out.size)) HZ.out.lt)
  rw [hZn, hYn] at iA
  rw [show sv rr = Value.string ⟨rr.toArray⟩ from rfl] at iA
  clear AZ AL RZ
  go_region_held3 (fun W => W.cell? ⟨q, 0, none⟩ = some (.int .i64 n) ∧ W.cell? ⟨q, 1, none⟩ = some (.int .i64 x) ∧ W.cell? ⟨q, 2, none⟩ = some (.int .i64 y) ∧ W.cell? ⟨q, 3, none⟩ = some (.slice aZ nZ cZ)) (first | exact X0 | exact X1 | exact X2) (first
    | (go_at_call 10; (refine (iL _).mono ?_); rintro r w8 ⟨rfl, b8⟩; have B8 := hid ((Below.refl wz.heap.size wz).drew.trans (b8.mono (Nat.le_refl _))); have X1 := MK.out _ B8.out; clear b8)
    | (go_at_call 7; (refine (iA.out _ B8.out).mono ?_); rintro r w9 ⟨rfl, b9⟩; have B9 := hid (B8.out.trans (b9.mono B8.out.size)); have X2 := MK.out _ B9.out; clear b9))
  go_wp2
  go_ret
  exact ⟨rfl, BZ.out.trans (B9.out.mono BZ.out.size)⟩
set_option maxRecDepth 100000 in
set_option maxHeartbeats 8000000 in
theorem right14_one (sz at' mn c mo : Int) (w : World) (s1 : -9223372036854775808 ≤ sz) (s2 : sz ≤ 9223372036854775807) (t1 : -9223372036854775808 ≤ at') (t2 : at' ≤ 9223372036854775807) (m1 : -9223372036854775808 ≤ mn) (m2 : mn ≤ 9223372036854775807) (o1 : -9223372036854775808 ≤ mo) (o2 : mo ≤ 9223372036854775807) (Z : Tb w) (p : Int) (hp : pk mo 12 = p) (e1 : p = 1) :
    Calls Tryz.prog 4 #[.int .i64 sz, .int .i64 at', .int .i64 mn, .int .i64 c, .int .i64 mo] w fun r w' => r = .returned (.bool true) ∧ Below w.heap.size w w' := by
  have i0 := known14_any w Z
  have HZ := hid Z
  have iR := fun w' => run14L_any sz at' mn c w' s1 s2 t1 t2 m1 m2
  have iP := fun w' => pick_any mo 12 o1 o2 (by omega) (by omega) w'
  rw [hp] at iP
  obtain ⟨rr, hrr⟩ : ∃ rr, lf c = rr := ⟨_, rfl⟩
  have iL := fun w' => lleaf_at c rr hrr w'
  rw [show sv rr = Value.string ⟨rr.toArray⟩ from rfl] at iL
  clear Z hp hrr s1 s2 t1 t2 m1 m2 o1 o2
  go_enter Tryz.func4, Tryz.ntmps4
  go_upto_region 2 with (go_at_call 6; (with_reducible refine i0.mono ?_); rintro r w1 ⟨rfl, b1⟩)
  go_upto_region 3 with (go_at_call 8; (with_reducible refine (iR _).mono ?_); rintro r w2 ⟨n, x, y, v, u, H, L, rfl, G⟩; obtain ⟨aH, cH, rfl, AtH, qH1, qH2⟩ := ownM_at G.oh; obtain ⟨aL, cL, rfl, AtL, qL1, qL2⟩ := ownM_at G.ol)
  obtain ⟨q, hq⟩ : ∃ q, w2.heap.size = q := ⟨_, rfl⟩
  obtain ⟨w3, hw3⟩ : ∃ w3, w2.alloc (.cells #[.int .i64 n, .int .i64 x, .int .i64 y, .slice aH H.length cH] 24) = w3 := ⟨_, rfl⟩
  have b3 : Below w2.heap.size w2 w3 := by rw [← hw3]; exact (Below.refl _ _).alloc (Nat.le_refl _) _
  have hV : Hid (RnI w3 q n x y (.slice aH H.length cH)) := by unfold Hid; rw [← hw3, ← hq]; exact RnI.new w2 _ _ _ _
  have zb := b1.size
  have B3 : Hid (Below w.heap.size w w3) := (b1.trans (G.bl.mono zb)).trans (b3.mono (by have := G.bl.size; omega))
  have hO := hid (G.oh.below b3)
  have hU := hid (G.ol.below b3)
  have AH3 := hid (AtH.below b3 (Nat.le_refl _))
  have AL3 := hid (AtL.below b3 (Nat.le_refl _))
  have hF : Hid (∀ k, (Value.slice aH H.length cH).ownBlock = some k → k < q) := fun k hk => by rw [← hq]; exact G.oh.lt k hk
  have hF0 : Hid (∀ k, (Value.slice aH H.length cH).ownBlock = some k → w.heap.size ≤ k) := fun k hk => Nat.le_trans zb (G.fh k hk)
  have hE : Hid (∀ k, (Value.slice aL L.length cL).ownBlock = some k → k < q) := fun k hk => by rw [← hq]; exact G.ol.lt k hk
  have hE0 : Hid (∀ k, (Value.slice aL L.length cL).ownBlock = some k → w.heap.size ≤ k) := fun k hk => Nat.le_trans zb (G.fl k hk)
  have hNE : Hid (∀ k, (Value.slice aH H.length cH).ownBlock = some k → (Value.slice aL L.length cL).ownBlock ≠ some k) := G.ne
  have h1 := G.h1
  have l1 := G.l1
  have l2 := G.l2
  have hqz : Hid (w.heap.size ≤ q) := by have := G.bl.size; show _ ≤ _; omega
  rw [hw3, hq]
  clear b1 G b3 hw3 hq AtH AtL i0 iR zb
  have g1 : (p == 1) = true := by simpa using e1
  clear e1
  go_upto_region 5 with (go_at_call 9; (with_reducible refine (iP _).mono ?_); rintro r w9 ⟨rfl, hw9⟩; replace hw9 := hw9.symm; subst hw9)
  have iL1 := iL w3.drew
  have hll : H.length ≤ 8000000000000 := by omega
  have x0 : w3.drew.cell? ⟨q, 3, none⟩ = some (.slice aH H.length cH) := hV.out.c3
  have f0 : w3.drew.frozen? ⟨q, 3, none⟩ = false := frozen_of_row _ _ 3 _ _ hV.out
  go_region_law (first
    | (refine step_call14 rfl 10 #[.int .i64 (c)] (by kernel_rfl) (fun v w6 => v = .string ⟨rr.toArray⟩ ∧ Below w3.heap.size w3 w6) (iL1.mono fun e w6 h => ⟨_, h.1, rfl, drewBelow8 h.2⟩) ?_; rintro v6 w6 ⟨rfl, b6⟩; have J6 := hV.out.below b6; have x1 := J6.c3; obtain ⟨v7, w7, hap, hO7, hG7⟩ := append_tx14 w6 (.slice aH H.length cH) H rr (hO.out.below b6) hll; obtain ⟨a7, c7, hv7, _, _, _⟩ := ownM_at hO7; obtain ⟨pp, hpp⟩ : ∃ p, (H ++ [rr]).length = p := ⟨_, rfl⟩; rw [hpp] at hv7; clear hpp; subst hv7; rw [show sv rr = Value.string ⟨rr.toArray⟩ from rfl] at hap; have x1a : (w6.alloc (.cells #[.string ⟨rr.toArray⟩] 9)).cell? ⟨q, 3, none⟩ = some (.slice aH H.length cH) := (J6.below ((Below.refl _ _).alloc (Nat.le_refl _) _)).c3; have J7 : RnI w7 q n x y (.slice aH H.length cH) := (hG7.old q (lt_of_heap J6) (fun h => by have := hF.out _ h; omega)).trans J6; have x7 := J7.c3; have f7 : w7.frozen? ⟨q, 3, none⟩ = false := frozen_of_row _ _ 3 _ _ J7)
    | (refine step_append_run rfl _ _ 22 rfl _ _ _ w7 rfl rfl hap ?_))
  all_goals
    have hz3 := lt_of_heap hV.out
    have hv7 : ∀ k, (Value.slice a7 pp c7).ownBlock = some k → k ≠ q := fun k hk => by
      rcases hG7.alt with h | ⟨h, _⟩
      · rw [h] at hk; have := hF.out k hk; omega
      · have := h k hk; have := b6.size; omega
    have hz6 := b6.size
    have hzB := B3.out.size
    obtain ⟨_, bg⟩ := grow_fresh (B := w.heap.size) hG7 (by omega) hF0.out
    have BZ : Hid (Below w.heap.size w (w7.setCell ⟨q, 3, none⟩ (.slice a7 pp c7))) := Below.setCell (p := ⟨q, 3, none⟩) ((B3.out.trans (b6.mono hzB)).trans bg) hqz.out _
    have RZ := hid (J7.set3' (.slice a7 pp c7))
    have KS := Keep.ofSet (S := fun k => k = q) w7 q 3 (.slice a7 pp c7) rfl
    have O8 := OwnM.keepS hO7 KS (fun k hk e => hv7 k hk e)
    have U7 := OwnM.keepS (hU.out.below b6) (grow_keepS hG7) (fun k hk e => hNE.out k e hk)
    have U8 := OwnM.keepS U7 KS (fun k hk e => by have := hE.out k hk; omega)
    obtain ⟨aZ, cZ, hvZ, AZ, _, _⟩ := ownM_at O8
    obtain ⟨aY, cY, hvY, AL, _, _⟩ := ownM_at U8
    injection hvZ with e1 e2 e3
    injection hvY with e4 e5 e6
    subst e1 e3 e4 e6
    have AZ := hid AZ
    have AL := hid AL
    have hpp : pp ≤ 200 := by rw [e2, List.length_append]; simp; omega
    obtain ⟨HZ', hHZ⟩ : ∃ Y, Y = H ++ [rr] := ⟨_, rfl⟩
    obtain ⟨LZ', hLZ⟩ : ∃ Y, Y = L := ⟨_, rfl⟩
    have hZn : HZ'.length = pp := by rw [hHZ]; exact e2.symm
    have hYn : LZ'.length = L.length := by rw [hLZ]
    have hZ1 : HZ'.length ≤ 8796093021952 := by rw [hZn]; omega
    have hZ2 : LZ'.length ≤ 8796093021952 := by rw [hYn]; omega
    rw [← hHZ] at AZ
    rw [← hLZ] at AL
    clear hHZ hLZ
    clear hap hO7 hG7 J6 J7 x1 x1a x7 f7 b6 bg KS O8 U7 U8 hv7 hO hU hF hF0 hE hE0 hNE AH3 AL3 hV B3 x0 f0 iL1 hz3 hz6 hzB e2 e5
    generalize w7.setCell ⟨q, 3, none⟩ (.slice a7 pp c7) = wz at *
    generalize L.length = nY at *
    go_wp2
    have MK : Hid (∀ w', Below wz.heap.size wz w' → w'.cell? ⟨q, 0, none⟩ = some (.int .i64 n) ∧ w'.cell? ⟨q, 1, none⟩ = some (.int .i64 x) ∧ w'.cell? ⟨q, 2, none⟩ = some (.int .i64 y) ∧ w'.cell? ⟨q, 3, none⟩ = some (.slice a7 pp c7)) := fun w' hb => ⟨(RZ.out.below hb).c0, (RZ.out.below hb).c1, (RZ.out.below hb).c2, (RZ.out.below hb).c3⟩
    have X0 := MK.out wz (Below.refl _ _)
    have iA := hid fun (w' : World) (hb : Below wz.heap.size wz w') => asks14_any n x y rr HZ' LZ' hZ1 hZ2 a7 aL c7 cL w' (AZ.out.below hb (Nat.le_refl _)) (AL.out.below hb (Nat.le_refl _)) (HZ.out.below (BZ.out.trans (hb.mono BZ.out.size)) HZ.out.lt)
    rw [hZn, hYn] at iA
    rw [show sv rr = Value.string ⟨rr.toArray⟩ from rfl] at iA
    clear AZ AL RZ
    go_region_held3 (fun W => W.cell? ⟨q, 0, none⟩ = some (.int .i64 n) ∧ W.cell? ⟨q, 1, none⟩ = some (.int .i64 x) ∧ W.cell? ⟨q, 2, none⟩ = some (.int .i64 y) ∧ W.cell? ⟨q, 3, none⟩ = some (.slice a7 pp c7)) (first | exact X0 | exact X1 | exact X2) (first
      | (go_at_call 10; (refine (iL _).mono ?_); rintro r w8 ⟨rfl, b8⟩; have B8 := hid ((Below.refl wz.heap.size wz).drew.trans (b8.mono (Nat.le_refl _))); have X1 := MK.out _ B8.out; clear b8)
      | (go_at_call 7; (refine (iA.out _ B8.out).mono ?_); rintro r w9 ⟨rfl, b9⟩; have B9 := hid (B8.out.trans (b9.mono B8.out.size)); have X2 := MK.out _ B9.out; clear b9))
    go_wp2
    go_ret
    exact ⟨rfl, BZ.out.trans (B9.out.mono BZ.out.size)⟩
set_option maxRecDepth 100000 in
set_option maxHeartbeats 8000000 in
theorem right14_two (sz at' mn c mo : Int) (w : World) (s1 : -9223372036854775808 ≤ sz) (s2 : sz ≤ 9223372036854775807) (t1 : -9223372036854775808 ≤ at') (t2 : at' ≤ 9223372036854775807) (m1 : -9223372036854775808 ≤ mn) (m2 : mn ≤ 9223372036854775807) (o1 : -9223372036854775808 ≤ mo) (o2 : mo ≤ 9223372036854775807) (Z : Tb w) (p : Int) (hp : pk mo 12 = p) (e1 : p = 2) :
    Calls Tryz.prog 4 #[.int .i64 sz, .int .i64 at', .int .i64 mn, .int .i64 c, .int .i64 mo] w fun r w' => r = .returned (.bool true) ∧ Below w.heap.size w w' := by
  have i0 := known14_any w Z
  have HZ := hid Z
  have iR := fun w' => run14L_any sz at' mn c w' s1 s2 t1 t2 m1 m2
  have iP := fun w' => pick_any mo 12 o1 o2 (by omega) (by omega) w'
  rw [hp] at iP
  obtain ⟨rr, hrr⟩ : ∃ rr, lf c = rr := ⟨_, rfl⟩
  have iL := fun w' => lleaf_at c rr hrr w'
  rw [show sv rr = Value.string ⟨rr.toArray⟩ from rfl] at iL
  clear Z hp hrr s1 s2 t1 t2 m1 m2 o1 o2
  go_enter Tryz.func4, Tryz.ntmps4
  go_upto_region 2 with (go_at_call 6; (with_reducible refine i0.mono ?_); rintro r w1 ⟨rfl, b1⟩)
  go_upto_region 3 with (go_at_call 8; (with_reducible refine (iR _).mono ?_); rintro r w2 ⟨n, x, y, v, u, H, L, rfl, G⟩; obtain ⟨aH, cH, rfl, AtH, qH1, qH2⟩ := ownM_at G.oh; obtain ⟨aL, cL, rfl, AtL, qL1, qL2⟩ := ownM_at G.ol)
  obtain ⟨q, hq⟩ : ∃ q, w2.heap.size = q := ⟨_, rfl⟩
  obtain ⟨w3, hw3⟩ : ∃ w3, w2.alloc (.cells #[.int .i64 n, .int .i64 x, .int .i64 y, .slice aH H.length cH] 24) = w3 := ⟨_, rfl⟩
  have b3 : Below w2.heap.size w2 w3 := by rw [← hw3]; exact (Below.refl _ _).alloc (Nat.le_refl _) _
  have hV : Hid (RnI w3 q n x y (.slice aH H.length cH)) := by unfold Hid; rw [← hw3, ← hq]; exact RnI.new w2 _ _ _ _
  have zb := b1.size
  have B3 : Hid (Below w.heap.size w w3) := (b1.trans (G.bl.mono zb)).trans (b3.mono (by have := G.bl.size; omega))
  have hO := hid (G.oh.below b3)
  have hU := hid (G.ol.below b3)
  have AH3 := hid (AtH.below b3 (Nat.le_refl _))
  have AL3 := hid (AtL.below b3 (Nat.le_refl _))
  have hF : Hid (∀ k, (Value.slice aH H.length cH).ownBlock = some k → k < q) := fun k hk => by rw [← hq]; exact G.oh.lt k hk
  have hF0 : Hid (∀ k, (Value.slice aH H.length cH).ownBlock = some k → w.heap.size ≤ k) := fun k hk => Nat.le_trans zb (G.fh k hk)
  have hE : Hid (∀ k, (Value.slice aL L.length cL).ownBlock = some k → k < q) := fun k hk => by rw [← hq]; exact G.ol.lt k hk
  have hE0 : Hid (∀ k, (Value.slice aL L.length cL).ownBlock = some k → w.heap.size ≤ k) := fun k hk => Nat.le_trans zb (G.fl k hk)
  have hNE : Hid (∀ k, (Value.slice aH H.length cH).ownBlock = some k → (Value.slice aL L.length cL).ownBlock ≠ some k) := G.ne
  have h1 := G.h1
  have l1 := G.l1
  have l2 := G.l2
  have hqz : Hid (w.heap.size ≤ q) := by have := G.bl.size; show _ ≤ _; omega
  rw [hw3, hq]
  clear b1 G b3 hw3 hq AtH AtL i0 iR zb
  have g1 : (p == 1) = false := by rw [e1]; rfl
  have g2 : (p == 2) = true := by rw [e1]; rfl
  clear e1
  have k3 := hV.out.c3
  have AL := AL3
  rcases Nat.eq_zero_or_pos H.length with h0 | h0
  · have u1 : ¬ (0 : Int) < ((0 : Nat) : Int) := by omega
    have BZ := B3
    have RZ := hV
    have AZ := AH3
    obtain ⟨wz, hwz⟩ : ∃ wz, wz = w3 := ⟨_, rfl⟩
    subst hwz
    clear hO hU hF hF0 hE hE0 hNE AH3 AL3 hV B3
    obtain ⟨HZ', hHZ⟩ : ∃ Y, Y = H := ⟨_, rfl⟩
    obtain ⟨LZ', hLZ⟩ : ∃ Y, Y = L := ⟨_, rfl⟩
    have hZn : HZ'.length = 0 := by rw [hHZ]; exact h0
    have hYn : LZ'.length = L.length := by rw [hLZ]
    have hZ1 : HZ'.length ≤ 8796093021952 := by rw [hZn]; omega
    have hZ2 : LZ'.length ≤ 8796093021952 := by rw [hYn]; omega
    rw [← hHZ] at AZ
    rw [← hLZ] at AL
    clear hHZ hLZ
    rw [h0] at RZ k3 ⊢
    clear h0
    generalize L.length = nY at *
    go_wp2_with (go_at_call 9; (with_reducible refine (iP _).mono ?_); rintro r w9 ⟨rfl, hw9⟩; replace hw9 := hw9.symm; subst hw9)
    clear k3
    have MK : Hid (∀ w', Below wz.heap.size wz w' → w'.cell? ⟨q, 0, none⟩ = some (.int .i64 n) ∧ w'.cell? ⟨q, 1, none⟩ = some (.int .i64 x) ∧ w'.cell? ⟨q, 2, none⟩ = some (.int .i64 y) ∧ w'.cell? ⟨q, 3, none⟩ = some (.slice aH 0 cH)) := fun w' hb => ⟨(RZ.out.below hb).c0, (RZ.out.below hb).c1, (RZ.out.below hb).c2, (RZ.out.below hb).c3⟩
    have X0 := MK.out wz (Below.refl _ _)
    have iA := hid fun (w' : World) (hb : Below wz.heap.size wz w') => asks14_any n x y rr HZ' LZ' hZ1 hZ2 aH aL cH cL w' (AZ.out.below hb (Nat.le_refl _)) (AL.out.below hb (Nat.le_refl _)) (HZ.out.below (BZ.out.trans (hb.mono BZ.out.size)) HZ.out.lt)
    rw [hZn, hYn] at iA
    rw [show sv rr = Value.string ⟨rr.toArray⟩ from rfl] at iA
    clear AZ AL RZ
    go_region_held3 (fun W => W.cell? ⟨q, 0, none⟩ = some (.int .i64 n) ∧ W.cell? ⟨q, 1, none⟩ = some (.int .i64 x) ∧ W.cell? ⟨q, 2, none⟩ = some (.int .i64 y) ∧ W.cell? ⟨q, 3, none⟩ = some (.slice aH 0 cH)) (first | exact X0 | exact X1 | exact X2) (first
      | (go_at_call 10; (refine (iL _).mono ?_); rintro r w8 ⟨rfl, b8⟩; have B8 := hid ((Below.refl wz.heap.size wz).drew.trans (b8.mono (Nat.le_refl _))); have X1 := MK.out _ B8.out; clear b8)
      | (go_at_call 7; (refine (iA.out _ B8.out).mono ?_); rintro r w9 ⟨rfl, b9⟩; have B9 := hid (B8.out.trans (b9.mono B8.out.size)); have X2 := MK.out _ B9.out; clear b9))
    go_wp2
    go_ret
    exact ⟨rfl, BZ.out.trans (B9.out.mono BZ.out.size)⟩
  · obtain ⟨xH, hxH⟩ := AH3.out.pos h0
    subst hxH
    obtain ⟨gx, rfl⟩ : ∃ g, xH = ⟨g, 0, none⟩ := by
      rcases hO.out with ⟨h, _⟩ | ⟨g, cap, h, _⟩
      · cases h
      · injection h with e1 _ _
        exact ⟨g, Option.some.inj e1⟩
    have AD := AH3.out.drop 1
    rw [Addr.add_mid, Nat.zero_add] at AD
    obtain ⟨nZ, hnZ⟩ : ∃ k, H.length = k + 1 := ⟨H.length - 1, by omega⟩
    have u1 : (0 : Int) < (nZ : Int) + 1 := by omega
    have lZ : (1 : Int) ≤ (nZ : Int) + 1 := by omega
    have hn4 : nZ ≤ 100 := by omega
    rw [hnZ] at qH1 k3 ⊢
    have f0 : w3.frozen? ⟨q, 3, none⟩ = false := frozen_of_row _ _ 3 _ _ hV.out
    have hz3 := lt_of_heap hV.out
    have hzq := hqz.out
    have atq : Hid (∀ (a : Option Addr) (l : List (List UInt8)) (v : Value), At w3 a l → (∀ x, a = some x → x.block ≠ q) → At (w3.setCell ⟨q, 3, none⟩ v) a l) := fun a l v ha hb => At.keep14 ha (Keep.ofSet (S := fun k => k = q) w3 q 3 v rfl) fun x hx e => hb x hx e
    have nH : Hid (gx ≠ q) := fun e => by
      have := hF.out gx (by rfl)
      omega
    have nL : Hid (∀ x, aL = some x → x.block ≠ q) := fun x hx e => by
      subst hx
      rcases hU.out with ⟨h, _⟩ | ⟨g, cap, h, _⟩
      · cases h
      · injection h with e1 _ _
        obtain rfl := Option.some.inj e1
        have := hE.out g (by rfl)
        have e : g = q := e
        omega
    by_cases hc : cH - 1 = 0
    · have AZ : Hid (At (w3.setCell ⟨q, 3, none⟩ (.slice (some ⟨gx, 0, none⟩) nZ 0)) (some ⟨gx, 0, none⟩) (H.drop 1)) := by
        have : H.drop 1 = [] := List.eq_nil_of_length_eq_zero (by rw [List.length_drop]; omega)
        unfold Hid; rw [this]; exact At.nil _ _
      have AL := hid (atq.out aL L (.slice (some ⟨gx, 0, none⟩) nZ 0) AL3.out nL.out)
      have RZ := hid (hV.out.set3' (.slice (some ⟨gx, 0, none⟩) nZ 0))
      have BZ : Hid (Below w.heap.size w (w3.setCell ⟨q, 3, none⟩ (.slice (some ⟨gx, 0, none⟩) nZ 0))) := Below.setCell (p := ⟨q, 3, none⟩) B3.out hzq _
      obtain ⟨HZ', hHZ⟩ : ∃ Y, Y = H.drop 1 := ⟨_, rfl⟩
      obtain ⟨LZ', hLZ⟩ : ∃ Y, Y = L := ⟨_, rfl⟩
      have hZn : HZ'.length = nZ := by rw [hHZ]; rw [List.length_drop]; omega
      have hYn : LZ'.length = L.length := by rw [hLZ]
      have hZ1 : HZ'.length ≤ 8796093021952 := by rw [hZn]; omega
      have hZ2 : LZ'.length ≤ 8796093021952 := by rw [hYn]; omega
      rw [← hHZ] at AZ
      rw [← hLZ] at AL
      clear hHZ hLZ
      clear AD hO hU hF hF0 hE hE0 hNE AH3 AL3 hV B3 atq nH nL hz3 hnZ h0
      generalize L.length = nY at *
      go_wp2_with (go_at_call 9; (with_reducible refine (iP _).mono ?_); rintro r w9 ⟨rfl, hw9⟩; replace hw9 := hw9.symm; subst hw9)
      generalize w3.setCell ⟨q, 3, none⟩ (.slice (some ⟨gx, 0, none⟩) nZ 0) = wz at *
      clear k3 f0
      have MK : Hid (∀ w', Below wz.heap.size wz w' → w'.cell? ⟨q, 0, none⟩ = some (.int .i64 n) ∧ w'.cell? ⟨q, 1, none⟩ = some (.int .i64 x) ∧ w'.cell? ⟨q, 2, none⟩ = some (.int .i64 y) ∧ w'.cell? ⟨q, 3, none⟩ = some (.slice (some ⟨gx, 0, none⟩) nZ 0)) := fun w' hb => ⟨(RZ.out.below hb).c0, (RZ.out.below hb).c1, (RZ.out.below hb).c2, (RZ.out.below hb).c3⟩
      have X0 := MK.out wz (Below.refl _ _)
      have iA := hid fun (w' : World) (hb : Below wz.heap.size wz w') => asks14_any n x y rr HZ' LZ' hZ1 hZ2 (some ⟨gx, 0, none⟩) aL 0 cL w' (AZ.out.below hb (Nat.le_refl _)) (AL.out.below hb (Nat.le_refl _)) (HZ.out.below (BZ.out.trans (hb.mono BZ.out.size)) HZ.out.lt)
      rw [hZn, hYn] at iA
      rw [show sv rr = Value.string ⟨rr.toArray⟩ from rfl] at iA
      clear AZ AL RZ
      go_region_held3 (fun W => W.cell? ⟨q, 0, none⟩ = some (.int .i64 n) ∧ W.cell? ⟨q, 1, none⟩ = some (.int .i64 x) ∧ W.cell? ⟨q, 2, none⟩ = some (.int .i64 y) ∧ W.cell? ⟨q, 3, none⟩ = some (.slice (some ⟨gx, 0, none⟩) nZ 0)) (first | exact X0 | exact X1 | exact X2) (first
        | (go_at_call 10; (refine (iL _).mono ?_); rintro r w8 ⟨rfl, b8⟩; have B8 := hid ((Below.refl wz.heap.size wz).drew.trans (b8.mono (Nat.le_refl _))); have X1 := MK.out _ B8.out; clear b8)
        | (go_at_call 7; (refine (iA.out _ B8.out).mono ?_); rintro r w9 ⟨rfl, b9⟩; have B9 := hid (B8.out.trans (b9.mono B8.out.size)); have X2 := MK.out _ B9.out; clear b9))
      go_wp2
      go_ret
      exact ⟨rfl, BZ.out.trans (B9.out.mono BZ.out.size)⟩
    · have AZ := hid (atq.out (some ⟨gx, 1, none⟩) (H.drop 1) (.slice (some ⟨gx, 1, none⟩) nZ (cH - 1)) AD (fun x hx e => nH.out (by obtain rfl := Option.some.inj hx; exact e)))
      have AL := hid (atq.out aL L (.slice (some ⟨gx, 1, none⟩) nZ (cH - 1)) AL3.out nL.out)
      have RZ := hid (hV.out.set3' (.slice (some ⟨gx, 1, none⟩) nZ (cH - 1)))
      have BZ : Hid (Below w.heap.size w (w3.setCell ⟨q, 3, none⟩ (.slice (some ⟨gx, 1, none⟩) nZ (cH - 1)))) := Below.setCell (p := ⟨q, 3, none⟩) B3.out hzq _
      obtain ⟨HZ', hHZ⟩ : ∃ Y, Y = H.drop 1 := ⟨_, rfl⟩
      obtain ⟨LZ', hLZ⟩ : ∃ Y, Y = L := ⟨_, rfl⟩
      have hZn : HZ'.length = nZ := by rw [hHZ]; rw [List.length_drop]; omega
      have hYn : LZ'.length = L.length := by rw [hLZ]
      have hZ1 : HZ'.length ≤ 8796093021952 := by rw [hZn]; omega
      have hZ2 : LZ'.length ≤ 8796093021952 := by rw [hYn]; omega
      rw [← hHZ] at AZ
      rw [← hLZ] at AL
      clear hHZ hLZ
      clear AD hO hU hF hF0 hE hE0 hNE AH3 AL3 hV B3 atq nH nL hz3 hnZ h0
      generalize L.length = nY at *
      go_wp2_with (go_at_call 9; (with_reducible refine (iP _).mono ?_); rintro r w9 ⟨rfl, hw9⟩; replace hw9 := hw9.symm; subst hw9)
      generalize w3.setCell ⟨q, 3, none⟩ (.slice (some ⟨gx, 1, none⟩) nZ (cH - 1)) = wz at *
      clear k3 f0
      have MK : Hid (∀ w', Below wz.heap.size wz w' → w'.cell? ⟨q, 0, none⟩ = some (.int .i64 n) ∧ w'.cell? ⟨q, 1, none⟩ = some (.int .i64 x) ∧ w'.cell? ⟨q, 2, none⟩ = some (.int .i64 y) ∧ w'.cell? ⟨q, 3, none⟩ = some (.slice (some ⟨gx, 1, none⟩) nZ (cH - 1))) := fun w' hb => ⟨(RZ.out.below hb).c0, (RZ.out.below hb).c1, (RZ.out.below hb).c2, (RZ.out.below hb).c3⟩
      have X0 := MK.out wz (Below.refl _ _)
      have iA := hid fun (w' : World) (hb : Below wz.heap.size wz w') => asks14_any n x y rr HZ' LZ' hZ1 hZ2 (some ⟨gx, 1, none⟩) aL (cH - 1) cL w' (AZ.out.below hb (Nat.le_refl _)) (AL.out.below hb (Nat.le_refl _)) (HZ.out.below (BZ.out.trans (hb.mono BZ.out.size)) HZ.out.lt)
      rw [hZn, hYn] at iA
      rw [show sv rr = Value.string ⟨rr.toArray⟩ from rfl] at iA
      clear AZ AL RZ
      go_region_held3 (fun W => W.cell? ⟨q, 0, none⟩ = some (.int .i64 n) ∧ W.cell? ⟨q, 1, none⟩ = some (.int .i64 x) ∧ W.cell? ⟨q, 2, none⟩ = some (.int .i64 y) ∧ W.cell? ⟨q, 3, none⟩ = some (.slice (some ⟨gx, 1, none⟩) nZ (cH - 1))) (first | exact X0 | exact X1 | exact X2) (first
        | (go_at_call 10; (refine (iL _).mono ?_); rintro r w8 ⟨rfl, b8⟩; have B8 := hid ((Below.refl wz.heap.size wz).drew.trans (b8.mono (Nat.le_refl _))); have X1 := MK.out _ B8.out; clear b8)
        | (go_at_call 7; (refine (iA.out _ B8.out).mono ?_); rintro r w9 ⟨rfl, b9⟩; have B9 := hid (B8.out.trans (b9.mono B8.out.size)); have X2 := MK.out _ B9.out; clear b9))
      go_wp2
      go_ret
      exact ⟨rfl, BZ.out.trans (B9.out.mono BZ.out.size)⟩
set_option maxRecDepth 100000 in
set_option maxHeartbeats 8000000 in
theorem right14_three (sz at' mn c mo : Int) (w : World) (s1 : -9223372036854775808 ≤ sz) (s2 : sz ≤ 9223372036854775807) (t1 : -9223372036854775808 ≤ at') (t2 : at' ≤ 9223372036854775807) (m1 : -9223372036854775808 ≤ mn) (m2 : mn ≤ 9223372036854775807) (o1 : -9223372036854775808 ≤ mo) (o2 : mo ≤ 9223372036854775807) (Z : Tb w) (p : Int) (hp : pk mo 12 = p) (e1 : p = 3) :
    Calls Tryz.prog 4 #[.int .i64 sz, .int .i64 at', .int .i64 mn, .int .i64 c, .int .i64 mo] w fun r w' => r = .returned (.bool true) ∧ Below w.heap.size w w' := by
  have i0 := known14_any w Z
  have HZ := hid Z
  have iR := fun w' => run14L_any sz at' mn c w' s1 s2 t1 t2 m1 m2
  have iP := fun w' => pick_any mo 12 o1 o2 (by omega) (by omega) w'
  rw [hp] at iP
  obtain ⟨rr, hrr⟩ : ∃ rr, lf c = rr := ⟨_, rfl⟩
  have iL := fun w' => lleaf_at c rr hrr w'
  rw [show sv rr = Value.string ⟨rr.toArray⟩ from rfl] at iL
  clear Z hp hrr s1 s2 t1 t2 m1 m2 o1 o2
  go_enter Tryz.func4, Tryz.ntmps4
  go_upto_region 2 with (go_at_call 6; (with_reducible refine i0.mono ?_); rintro r w1 ⟨rfl, b1⟩)
  go_upto_region 3 with (go_at_call 8; (with_reducible refine (iR _).mono ?_); rintro r w2 ⟨n, x, y, v, u, H, L, rfl, G⟩; obtain ⟨aH, cH, rfl, AtH, qH1, qH2⟩ := ownM_at G.oh; obtain ⟨aL, cL, rfl, AtL, qL1, qL2⟩ := ownM_at G.ol)
  obtain ⟨q, hq⟩ : ∃ q, w2.heap.size = q := ⟨_, rfl⟩
  obtain ⟨w3, hw3⟩ : ∃ w3, w2.alloc (.cells #[.int .i64 n, .int .i64 x, .int .i64 y, .slice aH H.length cH] 24) = w3 := ⟨_, rfl⟩
  have b3 : Below w2.heap.size w2 w3 := by rw [← hw3]; exact (Below.refl _ _).alloc (Nat.le_refl _) _
  have hV : Hid (RnI w3 q n x y (.slice aH H.length cH)) := by unfold Hid; rw [← hw3, ← hq]; exact RnI.new w2 _ _ _ _
  have zb := b1.size
  have B3 : Hid (Below w.heap.size w w3) := (b1.trans (G.bl.mono zb)).trans (b3.mono (by have := G.bl.size; omega))
  have hO := hid (G.oh.below b3)
  have hU := hid (G.ol.below b3)
  have AH3 := hid (AtH.below b3 (Nat.le_refl _))
  have AL3 := hid (AtL.below b3 (Nat.le_refl _))
  have hF : Hid (∀ k, (Value.slice aH H.length cH).ownBlock = some k → k < q) := fun k hk => by rw [← hq]; exact G.oh.lt k hk
  have hF0 : Hid (∀ k, (Value.slice aH H.length cH).ownBlock = some k → w.heap.size ≤ k) := fun k hk => Nat.le_trans zb (G.fh k hk)
  have hE : Hid (∀ k, (Value.slice aL L.length cL).ownBlock = some k → k < q) := fun k hk => by rw [← hq]; exact G.ol.lt k hk
  have hE0 : Hid (∀ k, (Value.slice aL L.length cL).ownBlock = some k → w.heap.size ≤ k) := fun k hk => Nat.le_trans zb (G.fl k hk)
  have hNE : Hid (∀ k, (Value.slice aH H.length cH).ownBlock = some k → (Value.slice aL L.length cL).ownBlock ≠ some k) := G.ne
  have h1 := G.h1
  have l1 := G.l1
  have l2 := G.l2
  have hqz : Hid (w.heap.size ≤ q) := by have := G.bl.size; show _ ≤ _; omega
  rw [hw3, hq]
  clear b1 G b3 hw3 hq AtH AtL i0 iR zb
  have g1 : (p == 1) = false := by rw [e1]; rfl
  have g2 : (p == 2) = false := by rw [e1]; rfl
  have g3 : (p == 3) = true := by rw [e1]; rfl
  clear e1
  have hll : L.length ≤ 8000000000000 := by omega
  go_wp2_with (first
    | (go_at_call 9; (with_reducible refine (iP _).mono ?_); rintro r w9 ⟨rfl, hw9⟩; replace hw9 := hw9.symm; subst hw9)
    | (go_at_call 10; (with_reducible refine (iL _).mono ?_); rintro r w6 ⟨rfl, b6⟩; obtain ⟨v7, w7, hap, hO7, hG7⟩ := append_tx14 w6 _ L rr (hU.out.below b6) hll; rw [show sv rr = Value.string ⟨rr.toArray⟩ from rfl] at hap; obtain ⟨a7, c7, hv7, _, _, _⟩ := ownM_at hO7; obtain ⟨pp, hpp⟩ : ∃ p, (L ++ [rr]).length = p := ⟨_, rfl⟩; rw [hpp] at hv7; subst hv7)
    | (at_builtin; refine Lib.wpList_append_run _ rfl _ _ 22 22 rfl _ _ rfl rfl _ _ hap ?_; clear hap))
  have hz3 := lt_of_heap hV.out
  have hz6 := b6.size
  have hzB := B3.out.size
  obtain ⟨_, bg⟩ := grow_fresh (B := w.heap.size) hG7 (by omega) hE0.out
  have BZ : Hid (Below w.heap.size w w7) := (B3.out.trans (b6.mono hzB)).trans bg
  have RZ : Hid (RnI w7 q n x y (.slice aH H.length cH)) := (hG7.old q (by omega) (fun h => by have := hE.out _ h; omega)).trans (hV.out.below b6)
  have O8 := OwnM.keepS (hO.out.below b6) (grow_keepS hG7) (fun k hk e => hNE.out k hk e)
  obtain ⟨aZ, cZ, hvZ, AZ, _, _⟩ := ownM_at O8
  obtain ⟨aY, cY, hvY, AL, _, _⟩ := ownM_at hO7
  injection hvZ with e1 e2 e3
  injection hvY with e4 e5 e6
  subst e1 e3 e4 e6
  have AZ := hid AZ
  have AL := hid AL
  have hp4 : pp ≤ 500 := by rw [← hpp, List.length_append]; simp; omega
  obtain ⟨HZ', hHZ⟩ : ∃ Y, Y = H := ⟨_, rfl⟩
  obtain ⟨LZ', hLZ⟩ : ∃ Y, Y = L ++ [rr] := ⟨_, rfl⟩
  have hZn : HZ'.length = H.length := by rw [hHZ]
  have hYn : LZ'.length = pp := by rw [hLZ]; exact hpp
  have hZ1 : HZ'.length ≤ 8796093021952 := by rw [hZn]; omega
  have hZ2 : LZ'.length ≤ 8796093021952 := by rw [hYn]; omega
  rw [← hHZ] at AZ
  rw [← hLZ] at AL
  clear hHZ hLZ
  clear hO7 hG7 b6 bg O8 hO hU hF hF0 hE hE0 hNE AH3 AL3 hV B3 hz3 hz6 hzB e2 e5 hpp
  obtain ⟨wz, hwz⟩ : ∃ wz, wz = w7 := ⟨_, rfl⟩
  subst hwz
  generalize H.length = nZ at *
  have MK : Hid (∀ w', Below wz.heap.size wz w' → w'.cell? ⟨q, 0, none⟩ = some (.int .i64 n) ∧ w'.cell? ⟨q, 1, none⟩ = some (.int .i64 x) ∧ w'.cell? ⟨q, 2, none⟩ = some (.int .i64 y) ∧ w'.cell? ⟨q, 3, none⟩ = some (.slice aH nZ cH)) := fun w' hb => ⟨(RZ.out.below hb).c0, (RZ.out.below hb).c1, (RZ.out.below hb).c2, (RZ.out.below hb).c3⟩
  have X0 := MK.out wz (Below.refl _ _)
  have iA := hid fun (w' : World) (hb : Below wz.heap.size wz w') => asks14_any n x y rr HZ' LZ' hZ1 hZ2 aH a7 cH c7 w' (AZ.out.below hb (Nat.le_refl _)) (AL.out.below hb (Nat.le_refl _)) (HZ.out.below (BZ.out.trans (hb.mono BZ.out.size)) HZ.out.lt)
  rw [hZn, hYn] at iA
  rw [show sv rr = Value.string ⟨rr.toArray⟩ from rfl] at iA
  clear AZ AL RZ
  go_region_held3 (fun W => W.cell? ⟨q, 0, none⟩ = some (.int .i64 n) ∧ W.cell? ⟨q, 1, none⟩ = some (.int .i64 x) ∧ W.cell? ⟨q, 2, none⟩ = some (.int .i64 y) ∧ W.cell? ⟨q, 3, none⟩ = some (.slice aH nZ cH)) (first | exact X0 | exact X1 | exact X2) (first
    | (go_at_call 10; (refine (iL _).mono ?_); rintro r w8 ⟨rfl, b8⟩; have B8 := hid ((Below.refl wz.heap.size wz).drew.trans (b8.mono (Nat.le_refl _))); have X1 := MK.out _ B8.out; clear b8)
    | (go_at_call 7; (refine (iA.out _ B8.out).mono ?_); rintro r w9 ⟨rfl, b9⟩; have B9 := hid (B8.out.trans (b9.mono B8.out.size)); have X2 := MK.out _ B9.out; clear b9))
  go_wp2
  go_ret
  exact ⟨rfl, BZ.out.trans (B9.out.mono BZ.out.size)⟩
set_option maxRecDepth 100000 in
set_option maxHeartbeats 8000000 in
theorem right14_four (sz at' mn c mo : Int) (w : World) (s1 : -9223372036854775808 ≤ sz) (s2 : sz ≤ 9223372036854775807) (t1 : -9223372036854775808 ≤ at') (t2 : at' ≤ 9223372036854775807) (m1 : -9223372036854775808 ≤ mn) (m2 : mn ≤ 9223372036854775807) (o1 : -9223372036854775808 ≤ mo) (o2 : mo ≤ 9223372036854775807) (Z : Tb w) (p : Int) (hp : pk mo 12 = p) (e1 : p = 4) :
    Calls Tryz.prog 4 #[.int .i64 sz, .int .i64 at', .int .i64 mn, .int .i64 c, .int .i64 mo] w fun r w' => r = .returned (.bool true) ∧ Below w.heap.size w w' := by
  have i0 := known14_any w Z
  have HZ := hid Z
  have iR := fun w' => run14L_any sz at' mn c w' s1 s2 t1 t2 m1 m2
  have iP := fun w' => pick_any mo 12 o1 o2 (by omega) (by omega) w'
  rw [hp] at iP
  obtain ⟨rr, hrr⟩ : ∃ rr, lf c = rr := ⟨_, rfl⟩
  have iL := fun w' => lleaf_at c rr hrr w'
  rw [show sv rr = Value.string ⟨rr.toArray⟩ from rfl] at iL
  clear Z hp hrr s1 s2 t1 t2 m1 m2 o1 o2
  go_enter Tryz.func4, Tryz.ntmps4
  go_upto_region 2 with (go_at_call 6; (with_reducible refine i0.mono ?_); rintro r w1 ⟨rfl, b1⟩)
  go_upto_region 3 with (go_at_call 8; (with_reducible refine (iR _).mono ?_); rintro r w2 ⟨n, x, y, v, u, H, L, rfl, G⟩; obtain ⟨aH, cH, rfl, AtH, qH1, qH2⟩ := ownM_at G.oh; obtain ⟨aL, cL, rfl, AtL, qL1, qL2⟩ := ownM_at G.ol)
  obtain ⟨q, hq⟩ : ∃ q, w2.heap.size = q := ⟨_, rfl⟩
  obtain ⟨w3, hw3⟩ : ∃ w3, w2.alloc (.cells #[.int .i64 n, .int .i64 x, .int .i64 y, .slice aH H.length cH] 24) = w3 := ⟨_, rfl⟩
  have b3 : Below w2.heap.size w2 w3 := by rw [← hw3]; exact (Below.refl _ _).alloc (Nat.le_refl _) _
  have hV : Hid (RnI w3 q n x y (.slice aH H.length cH)) := by unfold Hid; rw [← hw3, ← hq]; exact RnI.new w2 _ _ _ _
  have zb := b1.size
  have B3 : Hid (Below w.heap.size w w3) := (b1.trans (G.bl.mono zb)).trans (b3.mono (by have := G.bl.size; omega))
  have hO := hid (G.oh.below b3)
  have hU := hid (G.ol.below b3)
  have AH3 := hid (AtH.below b3 (Nat.le_refl _))
  have AL3 := hid (AtL.below b3 (Nat.le_refl _))
  have hF : Hid (∀ k, (Value.slice aH H.length cH).ownBlock = some k → k < q) := fun k hk => by rw [← hq]; exact G.oh.lt k hk
  have hF0 : Hid (∀ k, (Value.slice aH H.length cH).ownBlock = some k → w.heap.size ≤ k) := fun k hk => Nat.le_trans zb (G.fh k hk)
  have hE : Hid (∀ k, (Value.slice aL L.length cL).ownBlock = some k → k < q) := fun k hk => by rw [← hq]; exact G.ol.lt k hk
  have hE0 : Hid (∀ k, (Value.slice aL L.length cL).ownBlock = some k → w.heap.size ≤ k) := fun k hk => Nat.le_trans zb (G.fl k hk)
  have hNE : Hid (∀ k, (Value.slice aH H.length cH).ownBlock = some k → (Value.slice aL L.length cL).ownBlock ≠ some k) := G.ne
  have h1 := G.h1
  have l1 := G.l1
  have l2 := G.l2
  have hqz : Hid (w.heap.size ≤ q) := by have := G.bl.size; show _ ≤ _; omega
  rw [hw3, hq]
  clear b1 G b3 hw3 hq AtH AtL i0 iR zb
  have g1 : (p == 1) = false := by rw [e1]; rfl
  have g2 : (p == 2) = false := by rw [e1]; rfl
  have g3 : (p == 3) = false := by rw [e1]; rfl
  have g4 : (p == 4) = true := by rw [e1]; rfl
  clear e1
  obtain ⟨xL, hxL⟩ := AL3.out.pos (by omega)
  subst hxL
  have AD := AL3.out.drop 1
  obtain ⟨nY, hnY⟩ : ∃ k, L.length = k + 1 := ⟨L.length - 1, by omega⟩
  have lY : (1 : Int) ≤ (nY : Int) + 1 := by omega
  have BZ := B3
  have RZ := hV
  have AZ := AH3
  obtain ⟨wz, hwz⟩ : ∃ wz, wz = w3 := ⟨_, rfl⟩
  subst hwz
  rw [hnY] at qL1 ⊢
  have hn4 : nY ≤ 400 := by omega
  clear hO hU hF hF0 hE hE0 hNE AH3 AL3 hV B3
  by_cases hc : cL - 1 = 0
  · have AL : Hid (At wz (some xL) (L.drop 1)) := by
      have : L.drop 1 = [] := List.eq_nil_of_length_eq_zero (by rw [List.length_drop]; omega)
      unfold Hid; rw [this]; exact At.nil _ _
    obtain ⟨HZ', hHZ⟩ : ∃ Y, Y = H := ⟨_, rfl⟩
    obtain ⟨LZ', hLZ⟩ : ∃ Y, Y = L.drop 1 := ⟨_, rfl⟩
    have hZn : HZ'.length = H.length := by rw [hHZ]
    have hYn : LZ'.length = nY := by rw [hLZ]; rw [List.length_drop]; omega
    have hZ1 : HZ'.length ≤ 8796093021952 := by rw [hZn]; omega
    have hZ2 : LZ'.length ≤ 8796093021952 := by rw [hYn]; omega
    rw [← hHZ] at AZ
    rw [← hLZ] at AL
    clear hHZ hLZ
    clear AD
    generalize H.length = nZ at *
    clear hnY
    go_wp2_with (go_at_call 9; (with_reducible refine (iP _).mono ?_); rintro r w9 ⟨rfl, hw9⟩; replace hw9 := hw9.symm; subst hw9)
    have MK : Hid (∀ w', Below wz.heap.size wz w' → w'.cell? ⟨q, 0, none⟩ = some (.int .i64 n) ∧ w'.cell? ⟨q, 1, none⟩ = some (.int .i64 x) ∧ w'.cell? ⟨q, 2, none⟩ = some (.int .i64 y) ∧ w'.cell? ⟨q, 3, none⟩ = some (.slice aH nZ cH)) := fun w' hb => ⟨(RZ.out.below hb).c0, (RZ.out.below hb).c1, (RZ.out.below hb).c2, (RZ.out.below hb).c3⟩
    have X0 := MK.out wz (Below.refl _ _)
    have iA := hid fun (w' : World) (hb : Below wz.heap.size wz w') => asks14_any n x y rr HZ' LZ' hZ1 hZ2 aH (some xL) cH 0 w' (AZ.out.below hb (Nat.le_refl _)) (AL.out.below hb (Nat.le_refl _)) (HZ.out.below (BZ.out.trans (hb.mono BZ.out.size)) HZ.out.lt)
    rw [hZn, hYn] at iA
    rw [show sv rr = Value.string ⟨rr.toArray⟩ from rfl] at iA
    clear AZ AL RZ
    go_region_held3 (fun W => W.cell? ⟨q, 0, none⟩ = some (.int .i64 n) ∧ W.cell? ⟨q, 1, none⟩ = some (.int .i64 x) ∧ W.cell? ⟨q, 2, none⟩ = some (.int .i64 y) ∧ W.cell? ⟨q, 3, none⟩ = some (.slice aH nZ cH)) (first | exact X0 | exact X1 | exact X2) (first
      | (go_at_call 10; (refine (iL _).mono ?_); rintro r w8 ⟨rfl, b8⟩; have B8 := hid ((Below.refl wz.heap.size wz).drew.trans (b8.mono (Nat.le_refl _))); have X1 := MK.out _ B8.out; clear b8)
      | (go_at_call 7; (refine (iA.out _ B8.out).mono ?_); rintro r w9 ⟨rfl, b9⟩; have B9 := hid (B8.out.trans (b9.mono B8.out.size)); have X2 := MK.out _ B9.out; clear b9))
    go_wp2
    go_ret
    exact ⟨rfl, BZ.out.trans (B9.out.mono BZ.out.size)⟩
  · have AL : Hid (At wz (some (xL.add 1)) (L.drop 1)) := AD
    obtain ⟨HZ', hHZ⟩ : ∃ Y, Y = H := ⟨_, rfl⟩
    obtain ⟨LZ', hLZ⟩ : ∃ Y, Y = L.drop 1 := ⟨_, rfl⟩
    have hZn : HZ'.length = H.length := by rw [hHZ]
    have hYn : LZ'.length = nY := by rw [hLZ]; rw [List.length_drop]; omega
    have hZ1 : HZ'.length ≤ 8796093021952 := by rw [hZn]; omega
    have hZ2 : LZ'.length ≤ 8796093021952 := by rw [hYn]; omega
    rw [← hHZ] at AZ
    rw [← hLZ] at AL
    clear hHZ hLZ
    clear AD
    generalize H.length = nZ at *
    clear hnY
    go_wp2_with (go_at_call 9; (with_reducible refine (iP _).mono ?_); rintro r w9 ⟨rfl, hw9⟩; replace hw9 := hw9.symm; subst hw9)
    have MK : Hid (∀ w', Below wz.heap.size wz w' → w'.cell? ⟨q, 0, none⟩ = some (.int .i64 n) ∧ w'.cell? ⟨q, 1, none⟩ = some (.int .i64 x) ∧ w'.cell? ⟨q, 2, none⟩ = some (.int .i64 y) ∧ w'.cell? ⟨q, 3, none⟩ = some (.slice aH nZ cH)) := fun w' hb => ⟨(RZ.out.below hb).c0, (RZ.out.below hb).c1, (RZ.out.below hb).c2, (RZ.out.below hb).c3⟩
    have X0 := MK.out wz (Below.refl _ _)
    have iA := hid fun (w' : World) (hb : Below wz.heap.size wz w') => asks14_any n x y rr HZ' LZ' hZ1 hZ2 aH (some (xL.add 1)) cH (cL - 1) w' (AZ.out.below hb (Nat.le_refl _)) (AL.out.below hb (Nat.le_refl _)) (HZ.out.below (BZ.out.trans (hb.mono BZ.out.size)) HZ.out.lt)
    rw [hZn, hYn] at iA
    rw [show sv rr = Value.string ⟨rr.toArray⟩ from rfl] at iA
    clear AZ AL RZ
    go_region_held3 (fun W => W.cell? ⟨q, 0, none⟩ = some (.int .i64 n) ∧ W.cell? ⟨q, 1, none⟩ = some (.int .i64 x) ∧ W.cell? ⟨q, 2, none⟩ = some (.int .i64 y) ∧ W.cell? ⟨q, 3, none⟩ = some (.slice aH nZ cH)) (first | exact X0 | exact X1 | exact X2) (first
      | (go_at_call 10; (refine (iL _).mono ?_); rintro r w8 ⟨rfl, b8⟩; have B8 := hid ((Below.refl wz.heap.size wz).drew.trans (b8.mono (Nat.le_refl _))); have X1 := MK.out _ B8.out; clear b8)
      | (go_at_call 7; (refine (iA.out _ B8.out).mono ?_); rintro r w9 ⟨rfl, b9⟩; have B9 := hid (B8.out.trans (b9.mono B8.out.size)); have X2 := MK.out _ B9.out; clear b9))
    go_wp2
    go_ret
    exact ⟨rfl, BZ.out.trans (B9.out.mono BZ.out.size)⟩
theorem right14_law (sz at' mn c mo : Int) (w : World) (s1 : -9223372036854775808 ≤ sz) (s2 : sz ≤ 9223372036854775807) (t1 : -9223372036854775808 ≤ at') (t2 : at' ≤ 9223372036854775807) (m1 : -9223372036854775808 ≤ mn) (m2 : mn ≤ 9223372036854775807) (o1 : -9223372036854775808 ≤ mo) (o2 : mo ≤ 9223372036854775807) (Z : Tb w) :
    Calls Tryz.prog 4 #[.int .i64 sz, .int .i64 at', .int .i64 mn, .int .i64 c, .int .i64 mo] w fun r w' => r = .returned (.bool true) ∧ Below w.heap.size w w' := by
  by_cases e1 : pk mo 12 = 1
  · exact right14_one sz at' mn c mo w s1 s2 t1 t2 m1 m2 o1 o2 Z _ rfl e1
  by_cases e2 : pk mo 12 = 2
  · exact right14_two sz at' mn c mo w s1 s2 t1 t2 m1 m2 o1 o2 Z _ rfl e2
  by_cases e3 : pk mo 12 = 3
  · exact right14_three sz at' mn c mo w s1 s2 t1 t2 m1 m2 o1 o2 Z _ rfl e3
  by_cases e4 : pk mo 12 = 4
  · exact right14_four sz at' mn c mo w s1 s2 t1 t2 m1 m2 o1 o2 Z _ rfl e4
  exact right14_none sz at' mn c mo w s1 s2 t1 t2 m1 m2 o1 o2 Z _ rfl e1 e2 e3 e4
end Spn
end Go.Proofs.YtblmaokonhdjaaaGreatDoor
