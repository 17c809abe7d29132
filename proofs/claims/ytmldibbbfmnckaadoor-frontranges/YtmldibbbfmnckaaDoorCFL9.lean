import Derived.Deep.RegionHeld3
import Derived.Test.YtmldibbbfmnckaaDoorCRF6
namespace Go.Proofs.YtmldibbbfmnckaaDoor
open Go.RowKit
theorem rg_three {w : World} {g : Nat} {b e : Int} {v : Value} (h : Rg w g b e v) (b' e' : Int) (v' : Value) : ((w.setCell ⟨g, 0, none⟩ (.int .i64 b')).setCell ⟨g, 1, none⟩ (.int .i64 e')).setCell ⟨g, 2, none⟩ v' = w.setRow g #[.int .i64 b', .int .i64 e', v'] := by
  rw [setCell_eq_setRow w g 0 _ _ _ _ h, setCell_eq_setRow _ g 1 _ _ _ _ (setRow_heap _ _ _ _ _ _ h), setRow_setRow, setCell_eq_setRow _ g 2 _ _ _ _ (setRow_heap _ _ _ _ _ _ h), setRow_setRow]
  rfl
set_option maxRecDepth 100000 in
set_option maxHeartbeats 8000000 in
theorem again5_any (fr xb xe yb ye : Int) (L X Y tl tx ty : List (List UInt8)) (gl gx gy cl cx cy : Nat) (w : World) (hf1 : -9223372036854775808 ≤ fr) (hf2 : fr ≤ 9223372036854775807) (p : Ap w w.heap.size gl gx gy)
    (hl : L.length ≤ 8796093021952) (hx : X.length ≤ 8796093021952) (hy : Y.length ≤ 8796093021952) (hRl : Row w gl (L ++ tl)) (hRx : Row w gx (X ++ tx)) (hRy : Row w gy (Y ++ ty)) :
    Calls Tryd.prog 32 #[.int .i64 fr, .slice (some ⟨gl, 0, none⟩) L.length cl, rng xb xe (.slice (some ⟨gx, 0, none⟩) X.length cx), rng yb ye (.slice (some ⟨gy, 0, none⟩) Y.length cy)] w fun r w' => r = .returned (.bool true) ∧ Keep (fun k => k = gl ∨ k = gx ∨ k = gy ∨ w.heap.size ≤ k) w w' := by
  obtain ⟨n, hn⟩ : ∃ n, Hid (L.length = n) := ⟨_, rfl⟩
  obtain ⟨nx, hnx⟩ : ∃ n, Hid (X.length = n) := ⟨_, rfl⟩
  obtain ⟨ny, hny⟩ : ∃ n, Hid (Y.length = n) := ⟨_, rfl⟩
  rw [hn.out] at hl
  rw [hnx.out] at hx
  rw [hny.out] at hy
  rw [hn.out, hnx.out, hny.out]
  obtain ⟨w0, hw0⟩ : ∃ w0, (w.alloc (.cells #[Value.int .i64 xb, .int .i64 xe, .slice (some ⟨gx, 0, none⟩) nx cx] 28)).alloc (.cells #[Value.int .i64 yb, .int .i64 ye, .slice (some ⟨gy, 0, none⟩) ny cy] 28) = w0 := ⟨_, rfl⟩
  have z1 := size_alloc w (.cells #[Value.int .i64 xb, .int .i64 xe, .slice (some ⟨gx, 0, none⟩) nx cx] 28)
  have r1 := heap_alloc_new w (.cells #[Value.int .i64 xb, .int .i64 xe, .slice (some ⟨gx, 0, none⟩) nx cx] 28)
  have bb := (Below.refl (w.heap.size + 1) (w.alloc (.cells #[Value.int .i64 xb, .int .i64 xe, .slice (some ⟨gx, 0, none⟩) nx cx] 28))).alloc (by omega) (.cells #[Value.int .i64 yb, .int .i64 ye, .slice (some ⟨gy, 0, none⟩) ny cy] 28)
  have r2 := heap_alloc_at (w.alloc (.cells #[Value.int .i64 xb, .int .i64 xe, .slice (some ⟨gx, 0, none⟩) nx cx] 28)) (.cells #[Value.int .i64 yb, .int .i64 ye, .slice (some ⟨gy, 0, none⟩) ny cy] 28) (w.heap.size + 1) z1
  have b1 := (Below.refl w.heap.size w).alloc (Nat.le_refl _) (.cells #[Value.int .i64 xb, .int .i64 xe, .slice (some ⟨gx, 0, none⟩) nx cx] 28)
  have b2 := b1.trans (bb.mono (show w.heap.size ≤ w.heap.size + 1 by omega))
  have r1' := (bb.block w.heap.size (by omega)).trans r1
  rw [hw0] at r1' r2 b2
  have A0 : Hid (Ag w w0 w.heap.size gl gx gy xb xe yb ye nx ny cx cy L X Y tl tx ty) := ⟨hRl.below b2 hRl.lt, hRx.below b2 hRx.lt, hRy.below b2 hRy.lt, r1', r2, Keep.ofBelow b2⟩
  have HP := hid p
  have HW0 := hid hw0
  clear z1 r1 r2 b1 b2 bb r1' hw0 hRl hRx hRy p
  go_enter Tryd.func32, Tryd.ntmps32
  go_wp2
  rw [HW0.out]
  go_loopw [9] (fun i w' => ∃ (t : Nat) (L X Y : List (List UInt8)), i = .int .i64 (t : Int) ∧ t ≤ 3 ∧ Hid (L.length = n) ∧ Hid (X.length = nx) ∧ Hid (Y.length = ny) ∧ Hid (Ag w w' w.heap.size gl gx gy xb xe yb ye nx ny cx cy L X Y tl tx ty)) (fun i _ => 3 - (intOf i).toNat)
  case atStart => exact ⟨0, L, X, Y, rfl, by omega, hn, hnx, hny, A0⟩
  case round =>
    clear A0 hn hnx hny HW0
    obtain ⟨t, L, X, Y, rfl, ht, hn, hnx, hny, hA⟩ := hrel
    by_cases ht3 : t < 3
    · have c0 : (t : Int) < 3 := by omega
      go_wp2
      go_loopw [10] (fun i w' => ∃ (u : Nat) (L X Y : List (List UInt8)), i = .int .i64 (u : Int) ∧ u ≤ 2 ∧ Hid (L.length = n) ∧ Hid (X.length = nx) ∧ Hid (Y.length = ny) ∧ Hid (Ag w w' w.heap.size gl gx gy xb xe yb ye nx ny cx cy L X Y tl tx ty)) (fun i _ => 2 - (intOf i).toNat)
      case atStart => exact ⟨0, L, X, Y, rfl, by omega, hn, hnx, hny, hA⟩
      case round =>
        clear hA hn hnx hny
        obtain ⟨u, L, X, Y, rfl, hu, hn, hnx, hny, hA⟩ := hrel
        by_cases hu2 : u < 2
        · have c1 : (u : Int) < 2 := by omega
          obtain ⟨vc, w1, hap1, O1, b1⟩ := append_at wr (some ⟨gl, 0, none⟩) cl L hA.out.rl.fst (by rw [hn.out]; omega)
          rw [hn.out] at hap1
          obtain ⟨ac, kc, rfl, A1, kc1, kc2, cb1⟩ := O1.at_base
          rw [hn.out] at hap1 kc1
          have hBw : w.heap.size ≤ wr.heap.size := hA.out.keep.size
          have HA1 := hid (hA.out.world b1)
          have HC1 := hid A1
          have Hcb := hid (show ∀ x, ac = some x → w.heap.size ≤ x.block from fun x hx => Nat.le_trans hBw (cb1 x hx))
          have z1 := b1.size
          clear O1 b1 A1 cb1 hA
          go_wp2_with (at_builtin; go_must (refine Lib.wpList_append_run _ rfl _ _ 24 24 rfl _ _ rfl rfl _ _ hap1 ?_))
          obtain ⟨a2, k2, w2, a3, k3, w3, hap2, hap3, b2, b3, rz3, C2, C3⟩ := copy_both w1 gx cx nx X xb xe HA1.out.rx.fst hnx.out (by omega)
          have az := (Below.refl w1.heap.size w1).alloc (Nat.le_refl _) (.cells #[Value.int .i64 0, .int .i64 0, .slice none 0 0] 28)
          have e1 := HA1.out.bx
          have p0 := e1.c0
          have p1 := e1.c1
          have p2 := e1.c2
          have e2 := e1.below b2
          have q0 := e2.c0
          have q1 := e2.c1
          have q2 := e2.c2
          have e3 := e1.below b3
          have r0 := e3.c0
          have r1 := e3.c1
          have r2 := e3.c2
          have e4 := e1.below az
          have s0 := e4.c0
          have s1 := e4.c1
          have s2 := e4.c2
          have d0 := rz3.c0
          have d1 := rz3.c1
          have d2 := rz3.c2
          have f0 : w3.frozen? ⟨w1.heap.size, 0, none⟩ = false := frozen_of_row _ _ _ _ _ rz3
          have f1 : w3.frozen? ⟨w1.heap.size, 1, none⟩ = false := frozen_of_row _ _ _ _ _ rz3
          have f2 : w3.frozen? ⟨w1.heap.size, 2, none⟩ = false := frozen_of_row _ _ _ _ _ rz3
          have EQ := hid (rg_three rz3 xb xe (.slice a3 nx k3))
          have e5 := e2.below ((Below.refl w2.heap.size w2).alloc (Nat.le_refl _) (.cells #[Value.int .i64 0, .int .i64 0, .slice none 0 0] 28))
          have t0 := e5.c0
          have t1 := e5.c1
          have t2 := e5.c2
          have x1 := And.intro p0 (And.intro p1 p2)
          have x2 := And.intro q0 (And.intro q1 q2)
          have x3 := And.intro r0 (And.intro r1 r2)
          have x4 := And.intro s0 (And.intro s1 s2)
          have x5 := And.intro t0 (And.intro t1 t2)
          have e6 := e1.below C2.2.2.1
          have x6 := And.intro e6.c0 (And.intro e6.c1 e6.c2)
          have e7 := e1.below C3.2.2.1
          rw [← EQ.out] at e7
          have x7 := And.intro e7.c0 (And.intro e7.c1 e7.c2)
          have HC2 := hid C2
          have HC3 := hid C3
          have HZ3 := hid rz3
          clear e1 e2 e3 e4 e5 e6 e7 az b2 b3 C2 C3 rz3
          go_cut [12] (fun v w' => ∃ g a k, v = .pointer (some ⟨g, 0, none⟩) ∧ Hid (CpR w1 w' g xb xe a nx k X))
          case first =>
            go_region_held3 (fun w' => w'.cell? ⟨w.heap.size, 0, none⟩ = some (.int .i64 xb) ∧ w'.cell? ⟨w.heap.size, 1, none⟩ = some (.int .i64 xe) ∧ w'.cell? ⟨w.heap.size, 2, none⟩ = some (.slice (some ⟨gx, 0, none⟩) nx cx)) (first | exact x1 | exact x2 | exact x3 | exact x4 | exact x5 | exact x6 | exact x7) (first
              | (refine step_append_run rfl _ _ 24 rfl (.slice none 0 0) (.slice (some ⟨gx, 0, none⟩) nx cx) _ w2 rfl rfl hap2 ?_)
              | (refine step_append_run rfl _ _ 24 rfl (.slice none 0 0) (.slice (some ⟨gx, 0, none⟩) nx cx) _ w3 rfl rfl hap3 ?_))
            all_goals
              go_wp2_with fail
              go_meet
              first
                | exact ⟨_, _, _, rfl, HC2⟩
                | (rw [EQ.out]; exact ⟨_, _, _, rfl, HC3⟩)
          case rest =>
            obtain ⟨ga, aa, ka, rfl, HCa⟩ := hcut
            obtain ⟨w4, rfl⟩ : ∃ w4, w4 = wc := ⟨_, rfl⟩
            clear x1 x2 x3 x4 x5 x6 x7 HC2 HC3 HZ3 EQ d0 d1 d2 f0 f1 f2 hap2 hap3 p0 p1 p2 q0 q1 q2 r0 r1 r2 s0 s1 s2 t0 t1 t2
            have HA4 := hid (HA1.out.world HCa.out.2.2.1)
            have z4 := HCa.out.2.2.1.size
            go_wp2
            obtain ⟨a2, k2, w2, a3, k3, w3, hap2, hap3, b2, b3, rz3, C2, C3⟩ := copy_both w4 gy cy ny Y yb ye HA4.out.ry.fst hny.out (by omega)
            have az := (Below.refl w4.heap.size w4).alloc (Nat.le_refl _) (.cells #[Value.int .i64 0, .int .i64 0, .slice none 0 0] 28)
            have e1 := HA4.out.yy
            have p0 := e1.c0
            have p1 := e1.c1
            have p2 := e1.c2
            have e2 := e1.below b2
            have q0 := e2.c0
            have q1 := e2.c1
            have q2 := e2.c2
            have e3 := e1.below b3
            have r0 := e3.c0
            have r1 := e3.c1
            have r2 := e3.c2
            have e4 := e1.below az
            have s0 := e4.c0
            have s1 := e4.c1
            have s2 := e4.c2
            have d0 := rz3.c0
            have d1 := rz3.c1
            have d2 := rz3.c2
            have f0 : w3.frozen? ⟨w4.heap.size, 0, none⟩ = false := frozen_of_row _ _ _ _ _ rz3
            have f1 : w3.frozen? ⟨w4.heap.size, 1, none⟩ = false := frozen_of_row _ _ _ _ _ rz3
            have f2 : w3.frozen? ⟨w4.heap.size, 2, none⟩ = false := frozen_of_row _ _ _ _ _ rz3
            have EQ := hid (rg_three rz3 yb ye (.slice a3 ny k3))
            have e5 := e2.below ((Below.refl w2.heap.size w2).alloc (Nat.le_refl _) (.cells #[Value.int .i64 0, .int .i64 0, .slice none 0 0] 28))
            have t0 := e5.c0
            have t1 := e5.c1
            have t2 := e5.c2
            have x1 := And.intro p0 (And.intro p1 p2)
            have x2 := And.intro q0 (And.intro q1 q2)
            have x3 := And.intro r0 (And.intro r1 r2)
            have x4 := And.intro s0 (And.intro s1 s2)
            have x5 := And.intro t0 (And.intro t1 t2)
            have e6 := e1.below C2.2.2.1
            have x6 := And.intro e6.c0 (And.intro e6.c1 e6.c2)
            have e7 := e1.below C3.2.2.1
            rw [← EQ.out] at e7
            have x7 := And.intro e7.c0 (And.intro e7.c1 e7.c2)
            have HC2 := hid C2
            have HC3 := hid C3
            have HZ3 := hid rz3
            clear e1 e2 e3 e4 e5 e6 e7 az b2 b3 C2 C3 rz3
            go_cut [13] (fun v w' => ∃ g a k, v = .pointer (some ⟨g, 0, none⟩) ∧ Hid (CpR w4 w' g yb ye a ny k Y))
            case first =>
              go_region_held3 (fun w' => w'.cell? ⟨w.heap.size + 1, 0, none⟩ = some (.int .i64 yb) ∧ w'.cell? ⟨w.heap.size + 1, 1, none⟩ = some (.int .i64 ye) ∧ w'.cell? ⟨w.heap.size + 1, 2, none⟩ = some (.slice (some ⟨gy, 0, none⟩) ny cy)) (first | exact x1 | exact x2 | exact x3 | exact x4 | exact x5 | exact x6 | exact x7) (first
                | (refine step_append_run rfl _ _ 24 rfl (.slice none 0 0) (.slice (some ⟨gy, 0, none⟩) ny cy) _ w2 rfl rfl hap2 ?_)
                | (refine step_append_run rfl _ _ 24 rfl (.slice none 0 0) (.slice (some ⟨gy, 0, none⟩) ny cy) _ w3 rfl rfl hap3 ?_))
              all_goals
                go_wp2_with fail
                go_meet
                first
                  | exact ⟨_, _, _, rfl, HC2⟩
                  | (rw [EQ.out]; exact ⟨_, _, _, rfl, HC3⟩)
            case rest =>
              obtain ⟨gb, ab, kb, rfl, HCb⟩ := hcut
              obtain ⟨w5, rfl⟩ : ∃ w5, w5 = wc := ⟨_, rfl⟩
              clear x1 x2 x3 x4 x5 x6 x7 HC2 HC3 HZ3 EQ d0 d1 d2 f0 f1 f2 hap2 hap3 p0 p1 p2 q0 q1 q2 r0 r1 r2 s0 s1 s2 t0 t1 t2
              have hb5 := HCb.out.2.2.1
              have AB : Hid (Ab w w5 w.heap.size gl gx gy xb xe yb ye nx ny cx cy L X Y tl tx ty ac aa ab ga gb kc ka kb n) := by
                have hb4 := HCa.out.2.2.1
                refine ⟨HA4.out.world hb5, (HC1.out.below hb4 (Nat.le_refl _)).below hb5 (Nat.le_refl _), ⟨kc1, kc2⟩, Hcb.out, HCa.out.2.1.below hb5, HCa.out.2.2.2.1.below hb5 (Nat.le_refl _), fun x hx => ?_, ?_, HCb.out.2.1, HCb.out.2.2.2.1, fun x hx => ?_, ?_⟩
                · have := HCa.out.2.2.2.2 x hx; omega
                · have := HCa.out.1; omega
                · have := HCb.out.2.2.2.2 x hx; omega
                · have := HCb.out.1; omega
              clear HA1 HA4 HC1 Hcb HCa HCb hb5
              go_step
              go_step
              go_cut [14] (fun v w' => v = .bool true ∧ w' = w5)
              case first =>
                go_wp2_with fail
                go_meet
                exact ⟨rfl, rfl⟩
              case rest =>
                obtain ⟨rfl, rfl⟩ := hcut
                obtain ⟨w5, rfl⟩ : ∃ w5, w5 = wc := ⟨_, rfl⟩
                go_step
                go_step
                go_cut [14] (fun v w' => v = .bool true ∧ Hid (Ab w w' w.heap.size gl gx gy xb xe yb ye nx ny cx cy L X Y tl tx ty ac aa ab ga gb kc ka kb n))
                case first =>
                  have n0 : n ≤ 8796093021952 := hl
                  by_cases t0 : t = 0
                  · have tb0 : ((t : Int) == 0) = true := by subst t0; rfl
                    clear t0
                    obtain ⟨ec, hec⟩ : ∃ ec : Int, cmpE fr L = ec := ⟨_, rfl⟩
                    obtain ⟨M0, hM0⟩ : ∃ M0, Cut.cmp L fr.toNat = M0 := ⟨_, rfl⟩
                    have i1 := rCompact_any fr L ac kc w5 hf1 hf2 (by rw [hn.out]; omega) (by rw [hn.out]; exact AB.out.fcl.1) AB.out.fcl.2 AB.out.fc
                    rw [hec, hM0] at i1
                    rw [hn.out] at i1
                    obtain ⟨M, hM⟩ : ∃ M, selL ec M0 = M := ⟨_, rfl⟩
                    obtain ⟨m, hm⟩ : ∃ m, Hid (M.length = m) := ⟨_, rfl⟩
                    have mle2 : Hid (m ≤ 9223372036854775807) := by rw [← hm.out, ← hM, ← hec, ← hM0]; exact Nat.le_trans (selC_len _ _) (by decide)
                    obtain ⟨sb, hsb⟩ : ∃ sb, sel ec (fr) = sb := ⟨_, rfl⟩
                    obtain ⟨se, hse⟩ : ∃ se, sel ec (fr + (n : Int)) = se := ⟨_, rfl⟩
                    go_wp2_with (go_at_call 26; fail)
                    refine i1.mono ?_
                    intro r w6 h1
                    obtain ⟨v1, rfl, O1, b1⟩ := h1.some5
                    obtain ⟨aS, ks, rfl, As, _, _, _⟩ := O1.at_base
                    rw [hM, hm.out, hsb, hse]
                    rw [hM] at As
                    have sr0 := Rg.new w6 sb se (.slice aS m ks)
                    have al := (Below.refl w6.heap.size w6).alloc (Nat.le_refl _) (.cells #[Value.int .i64 sb, .int .i64 se, .slice aS m ks] 28)
                    have bs := b1.trans (al.mono b1.size)
                    have as1 := As.below al (Nat.le_refl _)
                    obtain ⟨w7, hw7⟩ : ∃ w7, w6.alloc (.cells #[Value.int .i64 sb, .int .i64 se, .slice aS m ks] 28) = w7 := ⟨_, rfl⟩
                    rw [hw7] at sr0 bs as1
                    have AB7 := hid (AB.out.world bs)
                    have SR := hid sr0
                    have SA := hid as1
                    have hsz7 := hid bs.size
                    clear sr0 al b1 As as1 bs AB O1 h1 i1
                    have i2 := Compact_any fr L (some ⟨gl, 0, none⟩) cl w7 hf1 hf2 (by rw [hn.out]; omega) AB7.out.ag.rl.fst (AB7.out.ag.tb HP.out).1
                    rw [hec, hM0] at i2
                    rw [hn.out] at i2
                    go_wp2_with (go_at_call 9; fail)
                    refine i2.mono ?_
                    intro r w8 h1
                    obtain ⟨v1, rfl, O1, b1⟩ := h1.some5
                    obtain ⟨ar, kr, rfl, Ar, _, _, _⟩ := O1.at_base
                    rw [hM, hm.out, hsb, hse]
                    rw [hM] at Ar
                    have sr0 := Rg.new w8 sb se (.slice ar m kr)
                    have al := (Below.refl w8.heap.size w8).alloc (Nat.le_refl _) (.cells #[Value.int .i64 sb, .int .i64 se, .slice ar m kr] 28)
                    have bs := b1.trans (al.mono b1.size)
                    have ss := SR.out.below bs
                    have sa := SA.out.below bs (Nat.le_refl _)
                    have ra := Ar.below al (Nat.le_refl _)
                    obtain ⟨w8a, hw8⟩ : ∃ w8a, w8.alloc (.cells #[Value.int .i64 sb, .int .i64 se, .slice ar m kr] 28) = w8a := ⟨_, rfl⟩
                    rw [hw8] at sr0 bs ss sa ra
                    have AB8 := hid (AB7.out.world bs)
                    have p0 := sr0.c0
                    have p1 := sr0.c1
                    have p2 := sr0.c2
                    have q0 := ss.c0
                    have q1 := ss.c1
                    have q2 := ss.c2
                    have i3 := sameRange_yes sb se M ar aS kr ks w8a (by rw [hm.out]; exact mle2.out) ra sa
                    rw [hm.out] at i3
                    have y1 : (ec == ec) = true := by simp
                    clear sr0 al b1 Ar ss sa ra bs AB7 O1 h1 i2 
                    go_wp2_with (go_at_call 11; fail)
                    refine i3.mono ?_
                    rintro r w9 ⟨rfl, b9⟩
                    have AB9 := hid (AB8.out.world b9)
                    clear AB8 i3 b9 p0 p1 p2 q0 q1 q2
                    go_wp2_with fail
                    go_meet
                    exact ⟨rfl, AB9⟩
                  · have tb0 : ((t : Int) == 0) = false := beq_false_of_ne (by omega)
                    by_cases t1 : t = 1
                    · have tb1 : ((t : Int) == 1) = true := by subst t1; rfl
                      clear t1
                      obtain ⟨ec, hec⟩ : ∃ ec : Int, joinE xb xe yb ye X Y = ec := ⟨_, rfl⟩
                      obtain ⟨M0, hM0⟩ : ∃ M0, Cut.joinH xb.toNat xe.toNat ye.toNat X Y = M0 := ⟨_, rfl⟩
                      have i1 := rJoin_any xb xe yb ye X Y aa ab ka kb w5 (by rw [hnx.out]; omega) (by rw [hny.out]; omega) AB.out.faa AB.out.fab
                      rw [hec, hM0] at i1
                      rw [hnx.out, hny.out] at i1
                      obtain ⟨M, hM⟩ : ∃ M, selL ec M0 = M := ⟨_, rfl⟩
                      obtain ⟨m, hm⟩ : ∃ m, Hid (M.length = m) := ⟨_, rfl⟩
                      have mle2 : Hid (m ≤ 9223372036854775807) := by rw [← hm.out, ← hM, ← hec, ← hM0]; exact Nat.le_trans (selJ_len _ _ _ _ _ _) (by decide)
                      obtain ⟨sb, hsb⟩ : ∃ sb, sel ec (xb) = sb := ⟨_, rfl⟩
                      obtain ⟨se, hse⟩ : ∃ se, sel ec (ye) = se := ⟨_, rfl⟩
                      have p0 := AB.out.fva.c0
                      have p1 := AB.out.fva.c1
                      have p2 := AB.out.fva.c2
                      have q0 := AB.out.fvb.c0
                      have q1 := AB.out.fvb.c1
                      have q2 := AB.out.fvb.c2
                      go_wp2_with (go_at_call 27; fail)
                      refine i1.mono ?_
                      intro r w6 h1
                      obtain ⟨v1, rfl, O1, b1⟩ := h1.some5
                      obtain ⟨aS, ks, rfl, As, _, _, _⟩ := O1.at_base
                      rw [hM, hm.out, hsb, hse]
                      rw [hM] at As
                      have sr0 := Rg.new w6 sb se (.slice aS m ks)
                      have al := (Below.refl w6.heap.size w6).alloc (Nat.le_refl _) (.cells #[Value.int .i64 sb, .int .i64 se, .slice aS m ks] 28)
                      have bs := b1.trans (al.mono b1.size)
                      have as1 := As.below al (Nat.le_refl _)
                      obtain ⟨w7, hw7⟩ : ∃ w7, w6.alloc (.cells #[Value.int .i64 sb, .int .i64 se, .slice aS m ks] 28) = w7 := ⟨_, rfl⟩
                      rw [hw7] at sr0 bs as1
                      have AB7 := hid (AB.out.world bs)
                      have SR := hid sr0
                      have SA := hid as1
                      have hsz7 := hid bs.size
                      clear sr0 al b1 As as1 bs AB O1 h1 i1
                      have i2 := Join_any xb xe yb ye X Y (some ⟨gx, 0, none⟩) (some ⟨gy, 0, none⟩) cx cy w7 (by rw [hnx.out]; omega) (by rw [hny.out]; omega) AB7.out.ag.rx.fst AB7.out.ag.ry.fst (AB7.out.ag.tb HP.out)
                      rw [hec, hM0] at i2
                      rw [hnx.out, hny.out] at i2
                      have e1 := AB7.out.ag.bx
                      have e2 := AB7.out.ag.yy
                      clear p0 p1 p2 q0 q1 q2
                      have p0 := e1.c0
                      have p1 := e1.c1
                      have p2 := e1.c2
                      have q0 := e2.c0
                      have q1 := e2.c1
                      have q2 := e2.c2
                      go_wp2_with (go_at_call 10; fail)
                      refine i2.mono ?_
                      intro r w8 h1
                      obtain ⟨v1, rfl, O1, b1⟩ := h1.some5
                      obtain ⟨ar, kr, rfl, Ar, _, _, _⟩ := O1.at_base
                      rw [hM, hm.out, hsb, hse]
                      rw [hM] at Ar
                      have sr0 := Rg.new w8 sb se (.slice ar m kr)
                      have al := (Below.refl w8.heap.size w8).alloc (Nat.le_refl _) (.cells #[Value.int .i64 sb, .int .i64 se, .slice ar m kr] 28)
                      have bs := b1.trans (al.mono b1.size)
                      have ss := SR.out.below bs
                      have sa := SA.out.below bs (Nat.le_refl _)
                      have ra := Ar.below al (Nat.le_refl _)
                      obtain ⟨w8a, hw8⟩ : ∃ w8a, w8.alloc (.cells #[Value.int .i64 sb, .int .i64 se, .slice ar m kr] 28) = w8a := ⟨_, rfl⟩
                      rw [hw8] at sr0 bs ss sa ra
                      have AB8 := hid (AB7.out.world bs)
                      have p0 := sr0.c0
                      have p1 := sr0.c1
                      have p2 := sr0.c2
                      have q0 := ss.c0
                      have q1 := ss.c1
                      have q2 := ss.c2
                      have i3 := sameRange_yes sb se M ar aS kr ks w8a (by rw [hm.out]; exact mle2.out) ra sa
                      rw [hm.out] at i3
                      have y1 : (ec == ec) = true := by simp
                      clear sr0 al b1 Ar ss sa ra bs AB7 O1 h1 i2 e1 e2
                      go_wp2_with (go_at_call 11; fail)
                      refine i3.mono ?_
                      rintro r w9 ⟨rfl, b9⟩
                      have AB9 := hid (AB8.out.world b9)
                      clear AB8 i3 b9 p0 p1 p2 q0 q1 q2
                      go_wp2_with fail
                      go_meet
                      exact ⟨rfl, AB9⟩
                    · have tb1 : ((t : Int) == 1) = false := beq_false_of_ne (by omega)
                      have i1 := rRootOf_any xb xe X aa ka w5 (by rw [hnx.out]; omega) AB.out.faa
                      obtain ⟨s, hs⟩ : ∃ s, (rootO xb xe X).1 = s := ⟨_, rfl⟩
                      obtain ⟨ec, hec⟩ : ∃ ec, (rootO xb xe X).2 = ec := ⟨_, rfl⟩
                      rw [hs, hec, hnx.out] at i1
                      have p0 := AB.out.fva.c0
                      have p1 := AB.out.fva.c1
                      have p2 := AB.out.fva.c2
                      go_wp2_with (go_at_call 28; fail)
                      refine i1.mono ?_
                      rintro r w6 ⟨rfl, b6⟩
                      have AB6 := hid (AB.out.world b6)
                      clear AB b6 i1 p0 p1 p2
                      have p0 := AB6.out.ag.bx.c0
                      have p1 := AB6.out.ag.bx.c1
                      have p2 := AB6.out.ag.bx.c2
                      have i2 := RootOf5_any xb xe X (some ⟨gx, 0, none⟩) cx w6 (by rw [hnx.out]; omega) AB6.out.ag.rx.fst (AB6.out.ag.tb HP.out)
                      rw [hs, hec, hnx.out] at i2
                      have hsv := svS s
                      rw [hsv] at i2 ⊢
                      go_wp2_with (go_at_call 15; fail)
                      refine i2.mono ?_
                      rintro r w9 ⟨rfl, b9⟩
                      have AB9 := hid (AB6.out.world b9)
                      have y1 : (ec == ec) = true := by simp
                      clear AB6 b9 i2 p0 p1 p2
                      go_wp2_with fail
                      go_meet
                      exact ⟨rfl, AB9⟩
                case rest =>
                  obtain ⟨rfl, AB9⟩ := hcut
                  obtain ⟨w9, rfl⟩ : ∃ w9, w9 = wc := ⟨_, rfl⟩
                  have AU0 := hid AB9.out.au
                  have j1 := turned5_any L L tl gl n cl ac kc w9 AB9.out.ag.rl rfl (by rw [hn.out]; exact Nat.le_refl _) (by omega) AB9.out.fc (fun x hx _ => by have := AB9.out.fcb x hx; have := HP.out.l; omega)
                  rw [hn.out] at j1
                  clear AB9
                  go_wp2_with (go_at_call 31; fail)
                  refine j1.mono ?_
                  rintro r w10 ⟨rfl, R10, B10⟩
                  have AU1 := hid (AU0.out.turn (.inl rfl) HP.out.l B10 R10 (AU0.out.ag.rx.but5 B10 (fun e => HP.out.lx e.symm)) (AU0.out.ag.ry.but5 B10 (fun e => HP.out.ly e.symm)))
                  clear AU0 R10 B10 j1
                  have p2 := AU1.out.ag.bx.c2
                  have q2 := AU1.out.fva.c2
                  have j2 := turned5_any X X tx gx nx cx aa ka w10 AU1.out.ag.rx rfl (by rw [hnx.out]; exact Nat.le_refl _) (by omega) AU1.out.faa (fun x hx _ => by have := AU1.out.fba x hx; have := HP.out.x; omega)
                  rw [hnx.out] at j2
                  go_wp2_with (go_at_call 31; fail)
                  refine j2.mono ?_
                  rintro r w11 ⟨rfl, R11, B11⟩
                  have AU2 := hid (AU1.out.turn (.inr (.inl rfl)) HP.out.x B11 (AU1.out.ag.rl.but5 B11 HP.out.lx) R11 (AU1.out.ag.ry.but5 B11 (fun e => HP.out.xy e.symm)))
                  clear AU1 R11 B11 j2 p2 q2
                  have p2 := AU2.out.ag.yy.c2
                  have q2 := AU2.out.fvb.c2
                  have j3 := turned5_any Y Y ty gy ny cy ab kb w11 AU2.out.ag.ry rfl (by rw [hny.out]; exact Nat.le_refl _) (by omega) AU2.out.fab (fun x hx _ => by have := AU2.out.fbb x hx; have := HP.out.y; omega)
                  rw [hny.out] at j3
                  go_wp2_with (go_at_call 31; fail)
                  refine j3.mono ?_
                  rintro r w12 ⟨rfl, R12, B12⟩
                  have AU3 := hid (AU2.out.turn (.inr (.inr rfl)) HP.out.y B12 (AU2.out.ag.rl.but5 B12 HP.out.ly) (AU2.out.ag.rx.but5 B12 HP.out.xy) R12).ag
                  clear AU2 R12 B12 j3 p2 q2
                  go_wp2
                  exact ⟨⟨u + 1, L.reverse, X.reverse, Y.reverse, by go_num, by omega, hid (rev_len hn.out), hid (rev_len hnx.out), hid (rev_len hny.out), AU3⟩, by simp [intOf]; omega⟩
        · obtain rfl : u = 2 := by omega
          have c1 : ¬ ((2 : Nat) : Int) < 2 := by omega
          go_wp2
          exact ⟨⟨t + 1, L, X, Y, by go_num, by omega, hn, hnx, hny, hA⟩, by simp [intOf]; omega⟩
    · obtain rfl : t = 3 := by omega
      go_wp2
      go_ret
      exact ⟨rfl, hA.out.keep⟩
end Go.Proofs.YtmldibbbfmnckaaDoor
