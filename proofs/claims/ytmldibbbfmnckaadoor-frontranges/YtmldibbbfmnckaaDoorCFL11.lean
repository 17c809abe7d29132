import Derived.Deep.RegionHeld3
import Derived.Test.YtmldibbbfmnckaaDoorCO56
namespace Go.Proofs.YtmldibbbfmnckaaDoor
open Go.RowKit
set_option maxRecDepth 100000 in
set_option maxHeartbeats 16000000 in
theorem ranges_any (fr xb xe yb ye : Int) (L X Y : List (List UInt8)) (la aa ab : Option Addr) (kl ka kb : Nat) (w : World) (hf1 : -9223372036854775808 ≤ fr) (hf2 : fr ≤ 9223372036854775807) (hl : L.length ≤ 8796093021952) (hx : X.length ≤ 8796093021952) (hy : Y.length ≤ 8796093021952) (hkl : L.length ≤ kl) (hkl2 : kl ≤ 9223372036854775807) (hA : At w la L) (hX : At w aa X) (hY : At w ab Y) (Z : Tb w) :
    Calls Tryd.prog 5 #[.int .i64 fr, .slice la L.length kl, rng xb xe (.slice aa X.length ka), rng yb ye (.slice ab Y.length kb)] w fun r w' => r = .returned (.bool true) ∧ Below w.heap.size w w' := by
  have HL := hid hA
  have HXa := hid hX
  have HYa := hid hY
  have HZ := hid Z
  clear hA hX hY Z
  obtain ⟨n, hn⟩ : ∃ n, Hid (L.length = n) := ⟨_, rfl⟩
  obtain ⟨nx, hnx⟩ : ∃ n, Hid (X.length = n) := ⟨_, rfl⟩
  obtain ⟨ny, hny⟩ : ∃ n, Hid (Y.length = n) := ⟨_, rfl⟩
  rw [hn.out] at hl hkl
  rw [hnx.out] at hx
  rw [hny.out] at hy
  rw [hn.out, hnx.out, hny.out]
  obtain ⟨w0, hw0⟩ : ∃ w0, (w.alloc (.cells #[Value.int .i64 xb, .int .i64 xe, .slice aa nx ka] 28)).alloc (.cells #[Value.int .i64 yb, .int .i64 ye, .slice ab ny kb] 28) = w0 := ⟨_, rfl⟩
  have z1 := size_alloc w (.cells #[Value.int .i64 xb, .int .i64 xe, .slice aa nx ka] 28)
  have z2 := size_alloc (w.alloc (.cells #[Value.int .i64 xb, .int .i64 xe, .slice aa nx ka] 28)) (.cells #[Value.int .i64 yb, .int .i64 ye, .slice ab ny kb] 28)
  have r1 := heap_alloc_new w (.cells #[Value.int .i64 xb, .int .i64 xe, .slice aa nx ka] 28)
  have bb := (Below.refl (w.heap.size + 1) (w.alloc (.cells #[Value.int .i64 xb, .int .i64 xe, .slice aa nx ka] 28))).alloc (by omega) (.cells #[Value.int .i64 yb, .int .i64 ye, .slice ab ny kb] 28)
  have r2 := heap_alloc_at (w.alloc (.cells #[Value.int .i64 xb, .int .i64 xe, .slice aa nx ka] 28)) (.cells #[Value.int .i64 yb, .int .i64 ye, .slice ab ny kb] 28) (w.heap.size + 1) z1
  have b1 := (Below.refl w.heap.size w).alloc (Nat.le_refl _) (.cells #[Value.int .i64 xb, .int .i64 xe, .slice aa nx ka] 28)
  have b2 := b1.trans (bb.mono (show w.heap.size ≤ w.heap.size + 1 by omega))
  have r1' := (bb.block w.heap.size (by omega)).trans r1
  rw [hw0] at r1' r2 b2 z2
  rw [z1] at z2
  have RA : Hid (Rg w0 w.heap.size xb xe (.slice aa nx ka)) := r1'
  have RB : Hid (Rg w0 (w.heap.size + 1) yb ye (.slice ab ny kb)) := r2
  have B0 := hid b2
  have Z0 := hid z2
  have HW0 := hid hw0
  clear z1 z2 r1 r2 b1 b2 bb r1' hw0
  go_enter Tryd.func5, Tryd.ntmps5
  go_wp2_with (go_at_call 6; fail)
  rw [HW0.out]
  refine (fknown_any w0 (HZ.out.below B0.out HZ.out.lt).t).mono ?_
  rintro r w1 ⟨rfl, b1⟩
  replace RA := hid (RA.out.below b1)
  replace RB := hid (RB.out.below b1)
  replace B0 := hid (B0.out.trans (b1.mono B0.out.size))
  have G1 : Hid (w.heap.size + 2 ≤ w1.heap.size) := by have := b1.size; have := Z0.out; show _ ≤ _; omega
  clear b1 Z0 HW0
  have i1 := lent_any L la kl w1 (by rw [hn.out]; exact hl) (HL.out.below B0.out (Nat.le_refl _))
  rw [hn.out] at i1
  go_wp2_with (go_at_call 24; fail)
  refine i1.mono ?_
  rintro r w2 ⟨rfl, R2, b1⟩
  clear i1
  replace RA := hid (RA.out.below b1)
  replace RB := hid (RB.out.below b1)
  have RL := hid R2
  have s2 := R2.lt
  replace B0 := hid (B0.out.trans (b1.mono B0.out.size))
  clear b1 R2
  obtain ⟨gl, hgl⟩ : ∃ gl, w1.heap.size = gl := ⟨_, rfl⟩
  rw [hgl] at RL G1 s2 ⊢
  clear hgl
  have p0 := RA.out.c0
  have p1 := RA.out.c1
  have p2 := RA.out.c2
  have i1 := own5_any xb xe X aa ka w2 (by rw [hnx.out]; exact hx) (HXa.out.below B0.out (Nat.le_refl _))
  rw [hnx.out] at i1
  go_wp2_with (go_at_call 25; fail)
  refine i1.mono ?_
  rintro r w3 ⟨gx, rfl, g3, R3, b1⟩
  clear i1 p0 p1 p2
  have s3 := R3.lt
  have bs := below_alloc1 b1 (.cells #[Value.int .i64 xb, .int .i64 xe, .slice (some ⟨gx, 0, none⟩) nx (nx + 8)] 28)
  have al := (Below.refl w3.heap.size w3).alloc (Nat.le_refl _) (.cells #[Value.int .i64 xb, .int .i64 xe, .slice (some ⟨gx, 0, none⟩) nx (nx + 8)] 28)
  have FX := hid (Rg.new w3 xb xe (.slice (some ⟨gx, 0, none⟩) nx (nx + 8)))
  have z4 := size_alloc w3 (.cells #[Value.int .i64 xb, .int .i64 xe, .slice (some ⟨gx, 0, none⟩) nx (nx + 8)] 28)
  have RX := hid (R3.below al s3)
  obtain ⟨w4, hw4⟩ : ∃ w4, w3.alloc (.cells #[Value.int .i64 xb, .int .i64 xe, .slice (some ⟨gx, 0, none⟩) nx (nx + 8)] 28) = w4 := ⟨_, rfl⟩
  rw [hw4] at bs FX RX z4
  replace RA := hid (RA.out.below bs)
  replace RB := hid (RB.out.below bs)
  replace RL := hid (RL.out.below bs RL.out.lt)
  replace B0 := hid (B0.out.trans (bs.mono B0.out.size))
  clear bs al R3 b1
  have p0 := RB.out.c0
  have p1 := RB.out.c1
  have p2 := RB.out.c2
  have i1 := own5_any yb ye Y ab kb w4 (by rw [hny.out]; exact hy) (HYa.out.below B0.out (Nat.le_refl _))
  rw [hny.out] at i1
  go_wp2_with (go_at_call 25; fail)
  refine i1.mono ?_
  rintro r w5 ⟨gy, rfl, g5, R5, b1⟩
  clear i1 p0 p1 p2 hw4
  have s5 := R5.lt
  obtain ⟨vx, hvx⟩ : ∃ vx, w3.heap.size = vx := ⟨_, rfl⟩
  rw [hvx] at FX s3 z4 ⊢
  have bs := below_alloc1 b1 (.cells #[Value.int .i64 yb, .int .i64 ye, .slice (some ⟨gy, 0, none⟩) ny (ny + 8)] 28)
  have al := (Below.refl w5.heap.size w5).alloc (Nat.le_refl _) (.cells #[Value.int .i64 yb, .int .i64 ye, .slice (some ⟨gy, 0, none⟩) ny (ny + 8)] 28)
  have FY := hid (Rg.new w5 yb ye (.slice (some ⟨gy, 0, none⟩) ny (ny + 8)))
  have z6 := size_alloc w5 (.cells #[Value.int .i64 yb, .int .i64 ye, .slice (some ⟨gy, 0, none⟩) ny (ny + 8)] 28)
  have RY := hid (R5.below al s5)
  have HO : Hid (Fo w.heap.size gl gx vx gy w5.heap.size) := by have := G1.out; exact ⟨by omega, by omega, by omega, by omega, by omega⟩
  obtain ⟨w6, hw6⟩ : ∃ w6, w5.alloc (.cells #[Value.int .i64 yb, .int .i64 ye, .slice (some ⟨gy, 0, none⟩) ny (ny + 8)] 28) = w6 := ⟨_, rfl⟩
  rw [hw6] at bs FY RY z6
  have FZ : Hid (Fz w w6 w.heap.size gl gx vx gy w5.heap.size xb xe yb ye nx ny ka kb aa ab L X Y) := ⟨B0.out.trans (bs.mono B0.out.size), RA.out.below bs, RB.out.below bs, RL.out.below bs RL.out.lt, RX.out.below bs RX.out.lt, RY.out, FX.out.below bs, FY.out⟩
  have hO : w5.heap.size < w6.heap.size := by omega
  clear bs al R5 b1 RA RB RL RX RY FX FY B0 s2 s3 s5 z4 z6 g3 g5 G1 hvx
  have FB : Hid (Fz w (w6.alloc (.cells #[.slice none 0 0, .slice none 0 0, .slice none 0 0, .slice none 0 0, .slice none 0 0] 52)) w.heap.size gl gx vx gy w5.heap.size xb xe yb ye nx ny ka kb aa ab L X Y) := FZ.out.world HO.out ((Below.refl w6.heap.size w6).alloc (Nat.le_refl _) _)
  have KB : Hid (Bk (w6.alloc (.cells #[.slice none 0 0, .slice none 0 0, .slice none 0 0, .slice none 0 0, .slice none 0 0] 52)) w6.heap.size (.slice none 0 0) (.slice none 0 0) [] [] []) := Bk.nil (heap_alloc_new w6 _)
  clear FZ
  go_wp2
  generalize hvy : w5.heap.size = vy at *
  generalize hOe : w6.heap.size = O at *
  generalize w6.alloc (.cells #[.slice none 0 0, .slice none 0 0, .slice none 0 0, .slice none 0 0, .slice none 0 0] 52) = w7 at *
  clear hvy hOe hw6
  have t0 : (n : Int) ≤ (n : Int) + 8 := by omega
  go_loopw [16] (fun i w' => ∃ (t : Nat) (vf vw : Value) (us cc : List Value) (Ls : List (List (List UInt8))), t ≤ 2 ∧ i = .int .i64 (t : Int) ∧ Hid (us.length = 2 * t) ∧ Hid (Fz w w' w.heap.size gl gx vx gy vy xb xe yb ye nx ny ka kb aa ab L X Y) ∧ Hid (Bk w' O vf vw us cc Ls)) (fun i _ => 2 - (intOf i).toNat)
  case atStart => exact ⟨0, _, _, [], [], [], by omega, rfl, rfl, FB, KB⟩
  case round =>
    clear FB KB
    obtain ⟨t, vf, vw, us, cc, Ls, ht, rfl, hul, FZ, BK⟩ := hrel
    by_cases ht2 : t < 2
    · have tb0 : (t : Int) < 2 := by omega
      obtain ⟨c1, hc1⟩ : ∃ c1 : Int, Hid (cmpE fr L = c1) := ⟨_, rfl⟩
      obtain ⟨M1, hM1⟩ : ∃ M1, Hid (selL c1 (Cut.cmp L fr.toNat) = M1) := ⟨_, rfl⟩
      obtain ⟨m1, hm1⟩ : ∃ m1, Hid (M1.length = m1) := ⟨_, rfl⟩
      obtain ⟨b1', hb1'⟩ : ∃ b1' : Int, Hid (sel c1 fr = b1') := ⟨_, rfl⟩
      obtain ⟨e1', he1'⟩ : ∃ e1' : Int, Hid (sel c1 (fr + (n : Int)) = e1') := ⟨_, rfl⟩
      obtain ⟨c2, hc2⟩ : ∃ c2 : Int, Hid (joinE xb xe yb ye X Y = c2) := ⟨_, rfl⟩
      obtain ⟨M2, hM2⟩ : ∃ M2, Hid (selL c2 (Cut.joinH xb.toNat xe.toNat ye.toNat X Y) = M2) := ⟨_, rfl⟩
      obtain ⟨m2, hm2⟩ : ∃ m2, Hid (M2.length = m2) := ⟨_, rfl⟩
      obtain ⟨b2', hb2'⟩ : ∃ b2' : Int, Hid (sel c2 xb = b2') := ⟨_, rfl⟩
      obtain ⟨e2', he2'⟩ : ∃ e2' : Int, Hid (sel c2 ye = e2') := ⟨_, rfl⟩
      obtain ⟨rs, hrs⟩ : ∃ rs, Hid ((rootO xb xe X).1 = rs) := ⟨_, rfl⟩
      obtain ⟨c3, hc3⟩ : ∃ c3, Hid ((rootO xb xe X).2 = c3) := ⟨_, rfl⟩
      have l1 : Hid (M1.length ≤ 81) := by rw [← hM1.out, ← hc1.out]; exact selC_len _ _
      have l2 : Hid (M2.length ≤ 81) := by rw [← hM2.out, ← hc2.out]; exact selJ_len _ _ _ _ _ _
      have LM1 : Hid (m1 ≤ 9223372036854775807) := by rw [← hm1.out]; exact Nat.le_trans l1.out (by decide)
      have LM2 : Hid (m2 ≤ 9223372036854775807) := by rw [← hm2.out]; exact Nat.le_trans l2.out (by decide)
      have y1 : (c1 == c1) = true := by simp
      have y2 : (c2 == c2) = true := by simp
      have y3 : (c3 == c3) = true := by simp
      have y4 : (c1 != c1) = false := by simp
      have y5 : (c2 != c2) = false := by simp
      have y6 : (c3 != c3) = false := by simp
      have ic := Compact_any fr L (some ⟨gl, 0, none⟩) (n + 8) wr hf1 hf2 (by rw [hn.out]; omega) FZ.out.rl.fst (HZ.out.below FZ.out.bel HZ.out.lt).t
      rw [hc1.out, hn.out] at ic
      go_wp2_with (go_at_call 9; fail)
      refine ic.mono ?_
      intro r w1 h1
      clear ic
      obtain ⟨v1, rfl, O1, b1⟩ := h1.some5
      obtain ⟨ac, kc, rfl, A1, _, _, _⟩ := O1.at_base
      rw [hM1.out] at O1 A1 ⊢
      rw [hm1.out] at O1 ⊢
      rw [hb1'.out, he1'.out]
      have bs := below_alloc1 b1 (.cells #[Value.int .i64 b1', .int .i64 e1', .slice ac m1 kc] 28)
      have al := (Below.refl w1.heap.size w1).alloc (Nat.le_refl _) (.cells #[Value.int .i64 b1', .int .i64 e1', .slice ac m1 kc] 28)
      have Rc := hid (Rg.new w1 b1' e1' (.slice ac m1 kc))
      have Fc := hid (BK.out.fresh O1 (Nat.le_refl _))
      have Sc := hid (And.intro BK.out.free.lt (And.intro BK.out.was.lt (And.intro (lt_of_heap BK.out.row) b1.size)))
      have Xc : Hid (O ≤ wr.heap.size) := Nat.le_of_lt (lt_of_heap BK.out.row)
      have Ac := hid (A1.below al (Nat.le_refl _))
      have Gc := hid (O1.below al (Nat.le_refl _))
      obtain ⟨w2, hw3⟩ : ∃ w2, w1.alloc (.cells #[Value.int .i64 b1', .int .i64 e1', .slice ac m1 kc] 28) = w2 := ⟨_, rfl⟩
      rw [hw3] at bs Rc Ac Gc
      clear al b1 A1 O1 h1
      replace FZ := hid (FZ.out.world HO.out bs)
      replace BK := hid (BK.out.below bs)
      clear bs
      clear Ac
      have id := rCompact_any fr L la kl w2 hf1 hf2 (by rw [hn.out]; omega) (by rw [hn.out]; exact hkl) hkl2 (HL.out.below FZ.out.bel (Nat.le_refl _))
      rw [hc1.out, hn.out] at id
      go_wp2_with (go_at_call 26; fail)
      refine id.mono ?_
      intro r w4 h1
      clear id
      obtain ⟨v1, rfl, O1, b1⟩ := h1.some5
      obtain ⟨ad, kd, rfl, A1, _, _, _⟩ := O1.at_base
      rw [hM1.out] at O1 A1 ⊢
      rw [hm1.out] at O1 ⊢
      rw [hb1'.out, he1'.out]
      have bs := below_alloc1 b1 (.cells #[Value.int .i64 b1', .int .i64 e1', .slice ad m1 kd] 28)
      have al := (Below.refl w4.heap.size w4).alloc (Nat.le_refl _) (.cells #[Value.int .i64 b1', .int .i64 e1', .slice ad m1 kd] 28)
      have Rd := hid (Rg.new w4 b1' e1' (.slice ad m1 kd))
      have Ad := hid (A1.below al (Nat.le_refl _))
      have Gd := hid (O1.below al (Nat.le_refl _))
      obtain ⟨w5, hw6⟩ : ∃ w5, w4.alloc (.cells #[Value.int .i64 b1', .int .i64 e1', .slice ad m1 kd] 28) = w5 := ⟨_, rfl⟩
      rw [hw6] at bs Rd Ad Gd
      clear al b1 A1 O1 h1
      replace FZ := hid (FZ.out.world HO.out bs)
      replace BK := hid (BK.out.below bs)
      replace Rc := hid (Rc.out.below bs)
      replace Gc := hid (Gc.out.below bs (Nat.le_refl _))
      clear bs
      clear Gd
      have cl7 := FZ.out.fx.c0
      have cl8 := FZ.out.fx.c1
      have cl9 := FZ.out.fx.c2
      have cl10 := FZ.out.fy.c0
      have cl11 := FZ.out.fy.c1
      have cl12 := FZ.out.fy.c2
      have im := Join_any xb xe yb ye X Y (some ⟨gx, 0, none⟩) (some ⟨gy, 0, none⟩) (nx + 8) (ny + 8) w5 (by rw [hnx.out]; omega) (by rw [hny.out]; omega) FZ.out.rx.fst FZ.out.ry.fst (HZ.out.below FZ.out.bel HZ.out.lt)
      rw [hc2.out, hnx.out, hny.out] at im
      go_wp2_with (go_at_call 10; fail)
      clear cl7 cl8 cl9 cl10 cl11 cl12
      refine im.mono ?_
      intro r w13 h1
      clear im
      obtain ⟨v1, rfl, O1, b1⟩ := h1.some5
      obtain ⟨am, km, rfl, A1, _, _, _⟩ := O1.at_base
      rw [hM2.out] at O1 A1 ⊢
      rw [hm2.out] at O1 ⊢
      rw [hb2'.out, he2'.out]
      have bs := below_alloc1 b1 (.cells #[Value.int .i64 b2', .int .i64 e2', .slice am m2 km] 28)
      have al := (Below.refl w13.heap.size w13).alloc (Nat.le_refl _) (.cells #[Value.int .i64 b2', .int .i64 e2', .slice am m2 km] 28)
      have Rm := hid (Rg.new w13 b2' e2' (.slice am m2 km))
      have Fm := hid (BK.out.fresh O1 (Nat.le_refl _))
      have Sm := hid (And.intro BK.out.free.lt (And.intro BK.out.was.lt (And.intro (lt_of_heap BK.out.row) b1.size)))
      have Xm : Hid (O ≤ w5.heap.size) := Nat.le_of_lt (lt_of_heap BK.out.row)
      have Am := hid (A1.below al (Nat.le_refl _))
      have Gm := hid (O1.below al (Nat.le_refl _))
      obtain ⟨w14, hw15⟩ : ∃ w14, w13.alloc (.cells #[Value.int .i64 b2', .int .i64 e2', .slice am m2 km] 28) = w14 := ⟨_, rfl⟩
      rw [hw15] at bs Rm Am Gm
      have Dcm := hid (apart_of Gc.out O1 (Nat.le_refl _))
      clear al b1 A1 O1 h1
      replace FZ := hid (FZ.out.world HO.out bs)
      replace BK := hid (BK.out.below bs)
      replace Rc := hid (Rc.out.below bs)
      replace Gc := hid (Gc.out.below bs (Nat.le_refl _))
      replace Rd := hid (Rd.out.below bs)
      replace Ad := hid (Ad.out.below bs (Nat.le_refl _))
      clear bs
      clear Am
      have cl16 := FZ.out.ra.c0
      have cl17 := FZ.out.ra.c1
      have cl18 := FZ.out.ra.c2
      have cl19 := FZ.out.rb.c0
      have cl20 := FZ.out.rb.c1
      have cl21 := FZ.out.rb.c2
      have iq := rJoin_any xb xe yb ye X Y aa ab ka kb w14 (by rw [hnx.out]; omega) (by rw [hny.out]; omega) (HXa.out.below FZ.out.bel (Nat.le_refl _)) (HYa.out.below FZ.out.bel (Nat.le_refl _))
      rw [hc2.out, hnx.out, hny.out] at iq
      go_wp2_with (go_at_call 27; fail)
      clear cl16 cl17 cl18 cl19 cl20 cl21
      refine iq.mono ?_
      intro r w22 h1
      clear iq
      obtain ⟨v1, rfl, O1, b1⟩ := h1.some5
      obtain ⟨aq, kq, rfl, A1, _, _, _⟩ := O1.at_base
      rw [hM2.out] at O1 A1 ⊢
      rw [hm2.out] at O1 ⊢
      rw [hb2'.out, he2'.out]
      have bs := below_alloc1 b1 (.cells #[Value.int .i64 b2', .int .i64 e2', .slice aq m2 kq] 28)
      have al := (Below.refl w22.heap.size w22).alloc (Nat.le_refl _) (.cells #[Value.int .i64 b2', .int .i64 e2', .slice aq m2 kq] 28)
      have Rq := hid (Rg.new w22 b2' e2' (.slice aq m2 kq))
      have Aq := hid (A1.below al (Nat.le_refl _))
      have Gq := hid (O1.below al (Nat.le_refl _))
      obtain ⟨w23, hw24⟩ : ∃ w23, w22.alloc (.cells #[Value.int .i64 b2', .int .i64 e2', .slice aq m2 kq] 28) = w23 := ⟨_, rfl⟩
      rw [hw24] at bs Rq Aq Gq
      clear al b1 A1 O1 h1
      replace FZ := hid (FZ.out.world HO.out bs)
      replace BK := hid (BK.out.below bs)
      replace Rc := hid (Rc.out.below bs)
      replace Gc := hid (Gc.out.below bs (Nat.le_refl _))
      replace Rd := hid (Rd.out.below bs)
      replace Ad := hid (Ad.out.below bs (Nat.le_refl _))
      replace Rm := hid (Rm.out.below bs)
      replace Gm := hid (Gm.out.below bs (Nat.le_refl _))
      clear bs
      clear Gq
      have cl25 := FZ.out.fx.c0
      have cl26 := FZ.out.fx.c1
      have cl27 := FZ.out.fx.c2
      have i1 := RootOf5_any xb xe X (some ⟨gx, 0, none⟩) (nx + 8) w23 (by rw [hnx.out]; omega) FZ.out.rx.fst (HZ.out.below FZ.out.bel HZ.out.lt)
      rw [hrs.out, hc3.out, hnx.out, svS rs] at i1
      go_wp2_with (go_at_call 15; fail)
      clear cl25 cl26 cl27
      refine i1.mono ?_
      rintro r w28 ⟨rfl, b1⟩
      clear i1
      replace FZ := hid (FZ.out.world HO.out b1)
      replace BK := hid (BK.out.below b1)
      replace Rc := hid (Rc.out.below b1)
      replace Gc := hid (Gc.out.below b1 (Nat.le_refl _))
      replace Rd := hid (Rd.out.below b1)
      replace Ad := hid (Ad.out.below b1 (Nat.le_refl _))
      replace Rm := hid (Rm.out.below b1)
      replace Gm := hid (Gm.out.below b1 (Nat.le_refl _))
      replace Rq := hid (Rq.out.below b1)
      replace Aq := hid (Aq.out.below b1 (Nat.le_refl _))
      clear b1
      have cl29 := FZ.out.ra.c0
      have cl30 := FZ.out.ra.c1
      have cl31 := FZ.out.ra.c2
      have i1 := rRootOf_any xb xe X aa ka w28 (by rw [hnx.out]; omega) (HXa.out.below FZ.out.bel (Nat.le_refl _))
      rw [hrs.out, hc3.out, hnx.out, svS rs] at i1
      go_wp2_with (go_at_call 28; fail)
      clear cl29 cl30 cl31
      refine i1.mono ?_
      rintro r w32 ⟨rfl, b1⟩
      clear i1
      replace FZ := hid (FZ.out.world HO.out b1)
      replace BK := hid (BK.out.below b1)
      replace Rc := hid (Rc.out.below b1)
      replace Gc := hid (Gc.out.below b1 (Nat.le_refl _))
      replace Rd := hid (Rd.out.below b1)
      replace Ad := hid (Ad.out.below b1 (Nat.le_refl _))
      replace Rm := hid (Rm.out.below b1)
      replace Gm := hid (Gm.out.below b1 (Nat.le_refl _))
      replace Rq := hid (Rq.out.below b1)
      replace Aq := hid (Aq.out.below b1 (Nat.le_refl _))
      clear b1
      have cl33 := Rc.out.c0
      have cl34 := Rc.out.c1
      have cl35 := Rc.out.c2
      have cl36 := Rd.out.c0
      have cl37 := Rd.out.c1
      have cl38 := Rd.out.c2
      have i1 := sameRange_yes b1' e1' M1 ac ad kc kd w32 (by rw [hm1.out]; exact LM1.out) (ownAt Gc.out) Ad.out
      rw [hm1.out] at i1
      go_wp2_with (go_at_call 11; fail)
      clear cl33 cl34 cl35 cl36 cl37 cl38
      refine i1.mono ?_
      rintro r w39 ⟨rfl, b1⟩
      clear i1
      replace FZ := hid (FZ.out.world HO.out b1)
      replace BK := hid (BK.out.below b1)
      replace Rc := hid (Rc.out.below b1)
      replace Gc := hid (Gc.out.below b1 (Nat.le_refl _))
      replace Rd := hid (Rd.out.below b1)
      replace Ad := hid (Ad.out.below b1 (Nat.le_refl _))
      replace Rm := hid (Rm.out.below b1)
      replace Gm := hid (Gm.out.below b1 (Nat.le_refl _))
      replace Rq := hid (Rq.out.below b1)
      replace Aq := hid (Aq.out.below b1 (Nat.le_refl _))
      clear b1
      have cl40 := Rm.out.c0
      have cl41 := Rm.out.c1
      have cl42 := Rm.out.c2
      have cl43 := Rq.out.c0
      have cl44 := Rq.out.c1
      have cl45 := Rq.out.c2
      have i1 := sameRange_yes b2' e2' M2 am aq km kq w39 (by rw [hm2.out]; exact LM2.out) (ownAt Gm.out) Aq.out
      rw [hm2.out] at i1
      go_wp2_with (go_at_call 11; fail)
      clear cl40 cl41 cl42 cl43 cl44 cl45
      refine i1.mono ?_
      rintro r w46 ⟨rfl, b1⟩
      clear i1
      replace FZ := hid (FZ.out.world HO.out b1)
      replace BK := hid (BK.out.below b1)
      replace Rc := hid (Rc.out.below b1)
      replace Gc := hid (Gc.out.below b1 (Nat.le_refl _))
      replace Rd := hid (Rd.out.below b1)
      replace Ad := hid (Ad.out.below b1 (Nat.le_refl _))
      replace Rm := hid (Rm.out.below b1)
      replace Gm := hid (Gm.out.below b1 (Nat.le_refl _))
      replace Rq := hid (Rq.out.below b1)
      replace Aq := hid (Aq.out.below b1 (Nat.le_refl _))
      clear b1
      clear Ad Aq Rd Rq
      have cl47 := Rc.out.c0
      have cl48 := Rc.out.c1
      have cl49 := Rc.out.c2
      have i1 := takes_any O O _ vf vw _ _ _ ac m1 kc us cc M1 w46 BK.out.row BK.out.free BK.out.was Gc.out (by have := hul.out; omega) (by have := hul.out; have := BK.out.l1; have := BK.out.l2; omega) (by have := l1.out; omega) (Nat.le_of_lt (lt_of_heap BK.out.row)) BK.out.dX.1 BK.out.dX.2 BK.out.dFW (fun k hk => ⟨(Fc.out k hk).1, (Fc.out k hk).2.1, (Fc.out k hk).2.2.1⟩)
      go_wp2_with (go_at_call 29; fail)
      clear cl47 cl48 cl49
      refine i1.mono ?_
      rintro r w50 ⟨rfl, vf1, vw1, co1, T1⟩
      clear i1
      have tb := T1.low (Nat.le_of_lt (lt_of_heap BK.out.row)) BK.out.free BK.out.was
      have BK1 := hid (BK.out.take T1 Gc.out Xc.out (Nat.le_trans l1.out (by decide)) Fc.out)
      have FZ1 := hid (FZ.out.low HO.out hO tb)
      have Gm1 := hid (Own.took T1 Fm.out Gm.out)
      have Rm1 := hid (Rg.took T1 Rm.out (fun e => by have := Sm.out.2.2.1; have := Sm.out.2.2.2; omega) (fun e => by have := Sm.out.1 _ e; have := Sm.out.2.2.2; omega) (fun e => by have := Sm.out.2.1 _ e; have := Sm.out.2.2.2; omega))
      have Fm1 := hid (Fr.next T1 Fm.out Gm.out Dcm.out)
      clear T1 tb BK FZ Gm Rm Fm Dcm Gc Rc Fc Sc Sm Xc
      have BK := BK1
      have FZ := FZ1
      have Gm := Gm1
      have Rm := Rm1
      have Fm := Fm1
      clear BK1 FZ1 Gm1 Rm1 Fm1
      have cl51 := Rm.out.c0
      have cl52 := Rm.out.c1
      have cl53 := Rm.out.c2
      have i1 := takes_any O O _ vf1 vw1 _ _ _ am m2 km _ _ M2 w50 BK.out.row BK.out.free BK.out.was Gm.out (by have := hul.out; simp; omega) (by have := hul.out; have := BK.out.l1; have := BK.out.l2; simp at *; omega) (by have := l2.out; omega) (Nat.le_of_lt (lt_of_heap BK.out.row)) BK.out.dX.1 BK.out.dX.2 BK.out.dFW (fun k hk => ⟨(Fm.out k hk).1, (Fm.out k hk).2.1, (Fm.out k hk).2.2.1⟩)
      go_wp2_with (go_at_call 29; fail)
      clear cl51 cl52 cl53
      refine i1.mono ?_
      rintro r w54 ⟨rfl, vf2, vw2, co2, T1⟩
      clear i1
      have tb := T1.low (Nat.le_of_lt (lt_of_heap BK.out.row)) BK.out.free BK.out.was
      have BK1 := hid (BK.out.take T1 Gm.out Xm.out (Nat.le_trans l2.out (by decide)) Fm.out)
      have FZ1 := hid (FZ.out.low HO.out hO tb)
      have hul2 : Hid ((us ++ [Value.slice ac m1 kc] ++ [Value.slice am m2 km]).length = 2 * (t + 1)) := by
        have := hul.out
        show _ = _
        simp only [List.length_append, List.length_singleton]
        omega
      clear T1 tb BK FZ Gm Rm Fm Xm
      go_wp2
      exact ⟨⟨t + 1, _, _, _, _, _, by omega, by go_num, hul2, FZ1, BK1⟩, by simp [intOf]; omega⟩
    · obtain rfl : t = 2 := by omega
      have tb0 : ¬ ((2 : Nat) : Int) < 2 := by omega
      have i1 := kept_yes L gl la kl wr (by rw [hn.out]; omega) FZ.out.rl (HL.out.below FZ.out.bel (Nat.le_refl _))
      rw [hn.out] at i1
      go_wp2_with (go_at_call 30; fail)
      refine i1.mono ?_
      rintro r w55 ⟨rfl, b1, _⟩
      clear i1
      replace FZ := hid (FZ.out.world HO.out b1)
      replace BK := hid (BK.out.below b1)
      clear b1
      have cl56 := FZ.out.ra.c0
      have cl57 := FZ.out.ra.c1
      have cl58 := FZ.out.ra.c2
      have i1 := kept_yes X gx aa ka w55 (by rw [hnx.out]; omega) FZ.out.rx (HXa.out.below FZ.out.bel (Nat.le_refl _))
      rw [hnx.out] at i1
      go_wp2_with (go_at_call 30; fail)
      clear cl56 cl57 cl58
      refine i1.mono ?_
      rintro r w59 ⟨rfl, b1, _⟩
      clear i1
      replace FZ := hid (FZ.out.world HO.out b1)
      replace BK := hid (BK.out.below b1)
      clear b1
      have cl60 := FZ.out.rb.c0
      have cl61 := FZ.out.rb.c1
      have cl62 := FZ.out.rb.c2
      have i1 := kept_yes Y gy ab kb w59 (by rw [hny.out]; omega) FZ.out.ry (HYa.out.below FZ.out.bel (Nat.le_refl _))
      rw [hny.out] at i1
      go_wp2_with (go_at_call 30; fail)
      clear cl60 cl61 cl62
      refine i1.mono ?_
      rintro r w63 ⟨rfl, b1, _⟩
      clear i1
      replace FZ := hid (FZ.out.world HO.out b1)
      replace BK := hid (BK.out.below b1)
      clear b1
      have i1 := still_any O O 4 vf vw us cc Ls w63 BK.out.row BK.out.free BK.out.was (by have := hul.out; omega) (by have := hul.out; have := BK.out.l1; have := BK.out.l2; omega) (by have := hul.out; have := BK.out.l1; omega) (by omega) (by omega) BK.out.own BK.out.cpy (fun i u g h1 h2 => (BK.out.apU i u g h1 h2).1) BK.out.di (Nat.le_refl _) (Nat.le_of_lt (lt_of_heap BK.out.row))
      go_wp2_with (go_at_call 21; fail)
      refine i1.mono ?_
      rintro r w64 ⟨rfl, b1⟩
      replace FZ := hid (FZ.out.low HO.out hO b1)
      clear i1 b1 BK hul
      have cl65 := FZ.out.ra.c0
      have cl66 := FZ.out.ra.c1
      have cl67 := FZ.out.ra.c2
      have i1 := kept_yes X gx aa ka w64 (by rw [hnx.out]; omega) FZ.out.rx (HXa.out.below FZ.out.bel (Nat.le_refl _))
      rw [hnx.out] at i1
      go_wp2_with (go_at_call 30; fail)
      clear cl65 cl66 cl67
      refine i1.mono ?_
      rintro r w68 ⟨rfl, b1, _⟩
      clear i1
      replace FZ := hid (FZ.out.world HO.out b1)
      clear b1
      have i1 := turned5_any L L (behind 8) gl (n + 8) (n + 8) la kl w68 FZ.out.rl rfl (by rw [hn.out]; omega) (by omega) (HL.out.below FZ.out.bel (Nat.le_refl _)) (fun y hy h0 => by obtain ⟨z, hz, hz2, _⟩ := HL.out 0 _ (List.getElem?_eq_getElem h0); rw [hy] at hz; cases hz; have := HO.out.l; have := HO.out.x; have := HO.out.mx; have := HO.out.y; omega)
      rw [hn.out] at i1
      go_wp2_with (go_at_call 31; fail)
      refine i1.mono ?_
      rintro r w69 ⟨rfl, R1, b1⟩
      have ho1 := HO.out.x
      have ho2 := HO.out.mx
      have ho3 := HO.out.y
      replace FZ := hid (FZ.out.turn HO.out (.inl rfl) b1 R1 (FZ.out.rx.but5 b1 (by omega)) (FZ.out.ry.but5 b1 (by omega)))
      clear i1 b1 R1 ho1 ho2 ho3
      have cl70 := FZ.out.ra.c0
      have cl71 := FZ.out.ra.c1
      have cl72 := FZ.out.ra.c2
      have i1 := turned5_any X X (behind 8) gx (nx + 8) (nx + 8) aa ka w69 FZ.out.rx rfl (by rw [hnx.out]; omega) (by omega) (HXa.out.below FZ.out.bel (Nat.le_refl _)) (fun y hy h0 => by obtain ⟨z, hz, hz2, _⟩ := HXa.out 0 _ (List.getElem?_eq_getElem h0); rw [hy] at hz; cases hz; have := HO.out.l; have := HO.out.x; have := HO.out.mx; have := HO.out.y; omega)
      rw [hnx.out] at i1
      go_wp2_with (go_at_call 31; fail)
      clear cl70 cl71 cl72
      refine i1.mono ?_
      rintro r w73 ⟨rfl, R1, b1⟩
      have ho1 := HO.out.x
      have ho2 := HO.out.mx
      have ho3 := HO.out.y
      replace FZ := hid (FZ.out.turn HO.out (.inr (.inl rfl)) b1 (FZ.out.rl.but5 b1 (by omega)) R1 (FZ.out.ry.but5 b1 (by omega)))
      clear i1 b1 R1 ho1 ho2 ho3
      have cl74 := FZ.out.rb.c0
      have cl75 := FZ.out.rb.c1
      have cl76 := FZ.out.rb.c2
      have i1 := turned5_any Y Y (behind 8) gy (ny + 8) (ny + 8) ab kb w73 FZ.out.ry rfl (by rw [hny.out]; omega) (by omega) (HYa.out.below FZ.out.bel (Nat.le_refl _)) (fun y hy h0 => by obtain ⟨z, hz, hz2, _⟩ := HYa.out 0 _ (List.getElem?_eq_getElem h0); rw [hy] at hz; cases hz; have := HO.out.l; have := HO.out.x; have := HO.out.mx; have := HO.out.y; omega)
      rw [hny.out] at i1
      go_wp2_with (go_at_call 31; fail)
      clear cl74 cl75 cl76
      refine i1.mono ?_
      rintro r w77 ⟨rfl, R1, b1⟩
      have ho1 := HO.out.x
      have ho2 := HO.out.mx
      have ho3 := HO.out.y
      replace FZ := hid (FZ.out.turn HO.out (.inr (.inr rfl)) b1 (FZ.out.rl.but5 b1 (by omega)) (FZ.out.rx.but5 b1 (by omega)) R1)
      clear i1 b1 R1 ho1 ho2 ho3
      obtain ⟨Lr, hLr⟩ : ∃ Lr, L.reverse = Lr := ⟨_, rfl⟩
      obtain ⟨Xr, hXr⟩ : ∃ Xr, X.reverse = Xr := ⟨_, rfl⟩
      obtain ⟨Yr, hYr⟩ : ∃ Yr, Y.reverse = Yr := ⟨_, rfl⟩
      rw [hLr, hXr, hYr] at FZ
      have hnr : Hid (Lr.length = n) := by rw [← hLr]; exact rev_len hn.out
      have hnxr : Hid (Xr.length = nx) := by rw [← hXr]; exact rev_len hnx.out
      have hnyr : Hid (Yr.length = ny) := by rw [← hYr]; exact rev_len hny.out
      clear hLr hXr hYr
      obtain ⟨vc, w78, hap1, O1, b1⟩ := append_at w77 (some ⟨gl, 0, none⟩) (n + 8) Lr FZ.out.rl.fst (by rw [hnr.out]; omega)
      rw [hnr.out] at hap1
      obtain ⟨aK, kK, rfl, A1, kc1, kc2, _⟩ := O1.at_base
      rw [hnr.out] at hap1 kc1
      have CA := hid A1
      replace FZ := hid (FZ.out.world HO.out b1)
      clear O1 A1 b1
      go_wp2_with (at_builtin; go_must (refine Lib.wpList_append_run _ rfl _ _ 24 24 rfl _ _ rfl rfl _ _ hap1 ?_))
      clear hap1
      obtain ⟨a2, k2, w2', a3, k3, w3', hap2, hap3, b2, b3, rz3, C2, C3⟩ := copy_both w78 gx (nx + 8) nx Xr xb xe FZ.out.rx.fst hnxr.out (by omega)
      have az := (Below.refl w78.heap.size w78).alloc (Nat.le_refl _) (.cells #[Value.int .i64 0, .int .i64 0, .slice none 0 0] 28)
      have e1 := FZ.out.ra
      have v1 := FZ.out.fx
      have x1 := And.intro e1.c0 (And.intro e1.c1 v1.c2)
      have x2 := And.intro (e1.below b2).c0 (And.intro (e1.below b2).c1 (v1.below b2).c2)
      have x3 := And.intro (e1.below b3).c0 (And.intro (e1.below b3).c1 (v1.below b3).c2)
      have x4 := And.intro (e1.below az).c0 (And.intro (e1.below az).c1 (v1.below az).c2)
      have az2 := (Below.refl w2'.heap.size w2').alloc (Nat.le_refl _) (.cells #[Value.int .i64 0, .int .i64 0, .slice none 0 0] 28)
      have x5 := And.intro ((e1.below b2).below az2).c0 (And.intro ((e1.below b2).below az2).c1 ((v1.below b2).below az2).c2)
      have d0 := rz3.c0
      have d1 := rz3.c1
      have d2 := rz3.c2
      have f0 : w3'.frozen? ⟨w78.heap.size, 0, none⟩ = false := frozen_of_row _ _ _ _ _ rz3
      have f1 : w3'.frozen? ⟨w78.heap.size, 1, none⟩ = false := frozen_of_row _ _ _ _ _ rz3
      have f2 : w3'.frozen? ⟨w78.heap.size, 2, none⟩ = false := frozen_of_row _ _ _ _ _ rz3
      have EQ := hid (rg_three rz3 xb xe (.slice a3 nx k3))
      have p0 := x1.1
      have p1 := x1.2.1
      have p2 := x1.2.2
      have q0 := x2.1
      have q1 := x2.2.1
      have q2 := x2.2.2
      have r0 := x3.1
      have r1 := x3.2.1
      have r2 := x3.2.2
      have s0 := x4.1
      have s1 := x4.2.1
      have s2 := x4.2.2
      have t1 := x5.1
      have t2 := x5.2.1
      have t3 := x5.2.2
      have x6 := And.intro (e1.below C2.2.2.1).c0 (And.intro (e1.below C2.2.2.1).c1 (v1.below C2.2.2.1).c2)
      have e7 := e1.below C3.2.2.1
      have v7 := v1.below C3.2.2.1
      rw [← EQ.out] at e7 v7
      have x7 := And.intro e7.c0 (And.intro e7.c1 v7.c2)
      have HC2 := hid C2
      have HC3 := hid C3
      have HZ3 := hid rz3
      clear e1 v1 e7 v7 az az2 b2 b3 C2 C3 rz3
      go_cut [37] (fun v w' => ∃ g a k, v = .pointer (some ⟨g, 0, none⟩) ∧ Hid (CpR w78 w' g xb xe a nx k Xr))
      case first =>
        as_aux_lemma =>
        go_region_held3 (fun w' => w'.cell? ⟨w.heap.size, 0, none⟩ = some (.int .i64 xb) ∧ w'.cell? ⟨w.heap.size, 1, none⟩ = some (.int .i64 xe) ∧ w'.cell? ⟨vx, 2, none⟩ = some (.slice (some ⟨gx, 0, none⟩) nx (nx + 8))) (first | exact x1 | exact x2 | exact x3 | exact x4 | exact x5 | exact x6 | exact x7) (first
          | (refine step_append_run rfl _ _ 24 rfl (.slice none 0 0) (.slice (some ⟨gx, 0, none⟩) nx (nx + 8)) _ w2' rfl rfl hap2 ?_)
          | (refine step_append_run rfl _ _ 24 rfl (.slice none 0 0) (.slice (some ⟨gx, 0, none⟩) nx (nx + 8)) _ w3' rfl rfl hap3 ?_))
        all_goals
          go_wp2_with fail
          go_meet
          first
            | exact ⟨_, _, _, rfl, HC2⟩
            | (rw [EQ.out]; exact ⟨_, _, _, rfl, HC3⟩)
      case rest =>
        obtain ⟨ga, da, dka, rfl, HCa⟩ := hcut
        obtain ⟨w79, rfl⟩ : ∃ w79, w79 = wc := ⟨_, rfl⟩
        clear x1 x2 x3 x4 x5 x6 x7 HC2 HC3 HZ3 EQ d0 d1 d2 f0 f1 f2 hap2 hap3 p0 p1 p2 q0 q1 q2 r0 r1 r2 s0 s1 s2 t1 t2 t3
        have bc := HCa.out.2.2.1
        have RDa := hid HCa.out.2.1
        have ADa := hid HCa.out.2.2.2.1
        replace FZ := hid (FZ.out.world HO.out bc)
        replace CA := hid (CA.out.below bc (Nat.le_refl _))
        clear bc HCa
        go_wp2
        obtain ⟨a2, k2, w2', a3, k3, w3', hap2, hap3, b2, b3, rz3, C2, C3⟩ := copy_both w79 gy (ny + 8) ny Yr yb ye FZ.out.ry.fst hnyr.out (by omega)
        have az := (Below.refl w79.heap.size w79).alloc (Nat.le_refl _) (.cells #[Value.int .i64 0, .int .i64 0, .slice none 0 0] 28)
        have e1 := FZ.out.rb
        have v1 := FZ.out.fy
        have x1 := And.intro e1.c0 (And.intro e1.c1 v1.c2)
        have x2 := And.intro (e1.below b2).c0 (And.intro (e1.below b2).c1 (v1.below b2).c2)
        have x3 := And.intro (e1.below b3).c0 (And.intro (e1.below b3).c1 (v1.below b3).c2)
        have x4 := And.intro (e1.below az).c0 (And.intro (e1.below az).c1 (v1.below az).c2)
        have az2 := (Below.refl w2'.heap.size w2').alloc (Nat.le_refl _) (.cells #[Value.int .i64 0, .int .i64 0, .slice none 0 0] 28)
        have x5 := And.intro ((e1.below b2).below az2).c0 (And.intro ((e1.below b2).below az2).c1 ((v1.below b2).below az2).c2)
        have d0 := rz3.c0
        have d1 := rz3.c1
        have d2 := rz3.c2
        have f0 : w3'.frozen? ⟨w79.heap.size, 0, none⟩ = false := frozen_of_row _ _ _ _ _ rz3
        have f1 : w3'.frozen? ⟨w79.heap.size, 1, none⟩ = false := frozen_of_row _ _ _ _ _ rz3
        have f2 : w3'.frozen? ⟨w79.heap.size, 2, none⟩ = false := frozen_of_row _ _ _ _ _ rz3
        have EQ := hid (rg_three rz3 yb ye (.slice a3 ny k3))
        have p0 := x1.1
        have p1 := x1.2.1
        have p2 := x1.2.2
        have q0 := x2.1
        have q1 := x2.2.1
        have q2 := x2.2.2
        have r0 := x3.1
        have r1 := x3.2.1
        have r2 := x3.2.2
        have s0 := x4.1
        have s1 := x4.2.1
        have s2 := x4.2.2
        have t1 := x5.1
        have t2 := x5.2.1
        have t3 := x5.2.2
        have x6 := And.intro (e1.below C2.2.2.1).c0 (And.intro (e1.below C2.2.2.1).c1 (v1.below C2.2.2.1).c2)
        have e7 := e1.below C3.2.2.1
        have v7 := v1.below C3.2.2.1
        rw [← EQ.out] at e7 v7
        have x7 := And.intro e7.c0 (And.intro e7.c1 v7.c2)
        have HC2 := hid C2
        have HC3 := hid C3
        have HZ3 := hid rz3
        clear e1 v1 e7 v7 az az2 b2 b3 C2 C3 rz3
        go_cut [38] (fun v w' => ∃ g a k, v = .pointer (some ⟨g, 0, none⟩) ∧ Hid (CpR w79 w' g yb ye a ny k Yr))
        case first =>
          as_aux_lemma =>
          go_region_held3 (fun w' => w'.cell? ⟨w.heap.size + 1, 0, none⟩ = some (.int .i64 yb) ∧ w'.cell? ⟨w.heap.size + 1, 1, none⟩ = some (.int .i64 ye) ∧ w'.cell? ⟨vy, 2, none⟩ = some (.slice (some ⟨gy, 0, none⟩) ny (ny + 8))) (first | exact x1 | exact x2 | exact x3 | exact x4 | exact x5 | exact x6 | exact x7) (first
            | (refine step_append_run rfl _ _ 24 rfl (.slice none 0 0) (.slice (some ⟨gy, 0, none⟩) ny (ny + 8)) _ w2' rfl rfl hap2 ?_)
            | (refine step_append_run rfl _ _ 24 rfl (.slice none 0 0) (.slice (some ⟨gy, 0, none⟩) ny (ny + 8)) _ w3' rfl rfl hap3 ?_))
          all_goals
            go_wp2_with fail
            go_meet
            first
              | exact ⟨_, _, _, rfl, HC2⟩
              | (rw [EQ.out]; exact ⟨_, _, _, rfl, HC3⟩)
        case rest =>
          obtain ⟨gb, db, dkb, rfl, HCb⟩ := hcut
          obtain ⟨w80, rfl⟩ : ∃ w80, w80 = wc := ⟨_, rfl⟩
          clear x1 x2 x3 x4 x5 x6 x7 HC2 HC3 HZ3 EQ d0 d1 d2 f0 f1 f2 hap2 hap3 p0 p1 p2 q0 q1 q2 r0 r1 r2 s0 s1 s2 t1 t2 t3
          have bc := HCb.out.2.2.1
          have RDb := hid HCb.out.2.1
          have ADb := hid HCb.out.2.2.2.1
          replace FZ := hid (FZ.out.world HO.out bc)
          replace CA := hid (CA.out.below bc (Nat.le_refl _))
          replace RDa := hid (RDa.out.below bc)
          replace ADa := hid (ADa.out.below bc (Nat.le_refl _))
          clear bc HCb
          obtain ⟨c1, hc1⟩ : ∃ c1 : Int, Hid (cmpE fr Lr = c1) := ⟨_, rfl⟩
          obtain ⟨M1, hM1⟩ : ∃ M1, Hid (selL c1 (Cut.cmp Lr fr.toNat) = M1) := ⟨_, rfl⟩
          obtain ⟨m1, hm1⟩ : ∃ m1, Hid (M1.length = m1) := ⟨_, rfl⟩
          obtain ⟨b1', hb1'⟩ : ∃ b1' : Int, Hid (sel c1 fr = b1') := ⟨_, rfl⟩
          obtain ⟨e1', he1'⟩ : ∃ e1' : Int, Hid (sel c1 (fr + (n : Int)) = e1') := ⟨_, rfl⟩
          obtain ⟨c2, hc2⟩ : ∃ c2 : Int, Hid (joinE xb xe yb ye Xr Yr = c2) := ⟨_, rfl⟩
          obtain ⟨M2, hM2⟩ : ∃ M2, Hid (selL c2 (Cut.joinH xb.toNat xe.toNat ye.toNat Xr Yr) = M2) := ⟨_, rfl⟩
          obtain ⟨m2, hm2⟩ : ∃ m2, Hid (M2.length = m2) := ⟨_, rfl⟩
          obtain ⟨b2', hb2'⟩ : ∃ b2' : Int, Hid (sel c2 xb = b2') := ⟨_, rfl⟩
          obtain ⟨e2', he2'⟩ : ∃ e2' : Int, Hid (sel c2 ye = e2') := ⟨_, rfl⟩
          obtain ⟨rs, hrs⟩ : ∃ rs, Hid ((rootO xb xe Xr).1 = rs) := ⟨_, rfl⟩
          obtain ⟨c3, hc3⟩ : ∃ c3, Hid ((rootO xb xe Xr).2 = c3) := ⟨_, rfl⟩
          have l1 : Hid (M1.length ≤ 81) := by rw [← hM1.out, ← hc1.out]; exact selC_len _ _
          have l2 : Hid (M2.length ≤ 81) := by rw [← hM2.out, ← hc2.out]; exact selJ_len _ _ _ _ _ _
          have LM1 : Hid (m1 ≤ 9223372036854775807) := by rw [← hm1.out]; exact Nat.le_trans l1.out (by decide)
          have LM2 : Hid (m2 ≤ 9223372036854775807) := by rw [← hm2.out]; exact Nat.le_trans l2.out (by decide)
          have y1 : (c1 == c1) = true := by simp
          have y2 : (c2 == c2) = true := by simp
          have y3 : (c3 == c3) = true := by simp
          have y4 : (c1 != c1) = false := by simp
          have y5 : (c2 != c2) = false := by simp
          have y6 : (c3 != c3) = false := by simp
          have ic := Compact_any fr Lr (some ⟨gl, 0, none⟩) (n + 8) w80 hf1 hf2 (by rw [hnr.out]; omega) FZ.out.rl.fst (HZ.out.below FZ.out.bel HZ.out.lt).t
          rw [hc1.out, hnr.out] at ic
          go_wp2_with (go_at_call 9; fail)
          refine ic.mono ?_
          intro r w81 h1
          clear ic
          obtain ⟨v1, rfl, O1, b1⟩ := h1.some5
          obtain ⟨ac, kc, rfl, A1, _, _, _⟩ := O1.at_base
          rw [hM1.out] at O1 A1 ⊢
          rw [hm1.out] at O1 ⊢
          rw [hb1'.out, he1'.out]
          have bs := below_alloc1 b1 (.cells #[Value.int .i64 b1', .int .i64 e1', .slice ac m1 kc] 28)
          have al := (Below.refl w81.heap.size w81).alloc (Nat.le_refl _) (.cells #[Value.int .i64 b1', .int .i64 e1', .slice ac m1 kc] 28)
          have Rc := hid (Rg.new w81 b1' e1' (.slice ac m1 kc))
          have Ac := hid (A1.below al (Nat.le_refl _))
          have Gc := hid (O1.below al (Nat.le_refl _))
          obtain ⟨w82, hw83⟩ : ∃ w82, w81.alloc (.cells #[Value.int .i64 b1', .int .i64 e1', .slice ac m1 kc] 28) = w82 := ⟨_, rfl⟩
          rw [hw83] at bs Rc Ac Gc
          clear al b1 A1 O1 h1
          replace FZ := hid (FZ.out.world HO.out bs)
          replace CA := hid (CA.out.below bs (Nat.le_refl _))
          replace RDa := hid (RDa.out.below bs)
          replace ADa := hid (ADa.out.below bs (Nat.le_refl _))
          replace RDb := hid (RDb.out.below bs)
          replace ADb := hid (ADb.out.below bs (Nat.le_refl _))
          clear bs
          clear Gc
          have id := rCompact_any fr Lr aK kK w82 hf1 hf2 (by rw [hnr.out]; omega) (by rw [hnr.out]; exact kc1) kc2 CA.out
          rw [hc1.out, hnr.out] at id
          go_wp2_with (go_at_call 26; fail)
          refine id.mono ?_
          intro r w84 h1
          clear id
          obtain ⟨v1, rfl, O1, b1⟩ := h1.some5
          obtain ⟨ad, kd, rfl, A1, _, _, _⟩ := O1.at_base
          rw [hM1.out] at O1 A1 ⊢
          rw [hm1.out] at O1 ⊢
          rw [hb1'.out, he1'.out]
          have bs := below_alloc1 b1 (.cells #[Value.int .i64 b1', .int .i64 e1', .slice ad m1 kd] 28)
          have al := (Below.refl w84.heap.size w84).alloc (Nat.le_refl _) (.cells #[Value.int .i64 b1', .int .i64 e1', .slice ad m1 kd] 28)
          have Rd := hid (Rg.new w84 b1' e1' (.slice ad m1 kd))
          have Ad := hid (A1.below al (Nat.le_refl _))
          have Gd := hid (O1.below al (Nat.le_refl _))
          obtain ⟨w85, hw86⟩ : ∃ w85, w84.alloc (.cells #[Value.int .i64 b1', .int .i64 e1', .slice ad m1 kd] 28) = w85 := ⟨_, rfl⟩
          rw [hw86] at bs Rd Ad Gd
          clear al b1 A1 O1 h1
          replace FZ := hid (FZ.out.world HO.out bs)
          replace CA := hid (CA.out.below bs (Nat.le_refl _))
          replace RDa := hid (RDa.out.below bs)
          replace ADa := hid (ADa.out.below bs (Nat.le_refl _))
          replace RDb := hid (RDb.out.below bs)
          replace ADb := hid (ADb.out.below bs (Nat.le_refl _))
          replace Rc := hid (Rc.out.below bs)
          replace Ac := hid (Ac.out.below bs (Nat.le_refl _))
          clear bs
          clear Gd
          have cl87 := FZ.out.fx.c0
          have cl88 := FZ.out.fx.c1
          have cl89 := FZ.out.fx.c2
          have cl90 := FZ.out.fy.c0
          have cl91 := FZ.out.fy.c1
          have cl92 := FZ.out.fy.c2
          have im := Join_any xb xe yb ye Xr Yr (some ⟨gx, 0, none⟩) (some ⟨gy, 0, none⟩) (nx + 8) (ny + 8) w85 (by rw [hnxr.out]; omega) (by rw [hnyr.out]; omega) FZ.out.rx.fst FZ.out.ry.fst (HZ.out.below FZ.out.bel HZ.out.lt)
          rw [hc2.out, hnxr.out, hnyr.out] at im
          go_wp2_with (go_at_call 10; fail)
          clear cl87 cl88 cl89 cl90 cl91 cl92
          refine im.mono ?_
          intro r w93 h1
          clear im
          obtain ⟨v1, rfl, O1, b1⟩ := h1.some5
          obtain ⟨am, km, rfl, A1, _, _, _⟩ := O1.at_base
          rw [hM2.out] at O1 A1 ⊢
          rw [hm2.out] at O1 ⊢
          rw [hb2'.out, he2'.out]
          have bs := below_alloc1 b1 (.cells #[Value.int .i64 b2', .int .i64 e2', .slice am m2 km] 28)
          have al := (Below.refl w93.heap.size w93).alloc (Nat.le_refl _) (.cells #[Value.int .i64 b2', .int .i64 e2', .slice am m2 km] 28)
          have Rm := hid (Rg.new w93 b2' e2' (.slice am m2 km))
          have Am := hid (A1.below al (Nat.le_refl _))
          have Gm := hid (O1.below al (Nat.le_refl _))
          obtain ⟨w94, hw95⟩ : ∃ w94, w93.alloc (.cells #[Value.int .i64 b2', .int .i64 e2', .slice am m2 km] 28) = w94 := ⟨_, rfl⟩
          rw [hw95] at bs Rm Am Gm
          clear al b1 A1 O1 h1
          replace FZ := hid (FZ.out.world HO.out bs)
          replace CA := hid (CA.out.below bs (Nat.le_refl _))
          replace RDa := hid (RDa.out.below bs)
          replace ADa := hid (ADa.out.below bs (Nat.le_refl _))
          replace RDb := hid (RDb.out.below bs)
          replace ADb := hid (ADb.out.below bs (Nat.le_refl _))
          replace Rc := hid (Rc.out.below bs)
          replace Ac := hid (Ac.out.below bs (Nat.le_refl _))
          replace Rd := hid (Rd.out.below bs)
          replace Ad := hid (Ad.out.below bs (Nat.le_refl _))
          clear bs
          clear Gm
          have cl96 := RDa.out.c0
          have cl97 := RDa.out.c1
          have cl98 := RDa.out.c2
          have cl99 := RDb.out.c0
          have cl100 := RDb.out.c1
          have cl101 := RDb.out.c2
          have iq := rJoin_any xb xe yb ye Xr Yr da db dka dkb w94 (by rw [hnxr.out]; omega) (by rw [hnyr.out]; omega) ADa.out ADb.out
          rw [hc2.out, hnxr.out, hnyr.out] at iq
          go_wp2_with (go_at_call 27; fail)
          clear cl96 cl97 cl98 cl99 cl100 cl101
          refine iq.mono ?_
          intro r w102 h1
          clear iq
          obtain ⟨v1, rfl, O1, b1⟩ := h1.some5
          obtain ⟨aq, kq, rfl, A1, _, _, _⟩ := O1.at_base
          rw [hM2.out] at O1 A1 ⊢
          rw [hm2.out] at O1 ⊢
          rw [hb2'.out, he2'.out]
          have bs := below_alloc1 b1 (.cells #[Value.int .i64 b2', .int .i64 e2', .slice aq m2 kq] 28)
          have al := (Below.refl w102.heap.size w102).alloc (Nat.le_refl _) (.cells #[Value.int .i64 b2', .int .i64 e2', .slice aq m2 kq] 28)
          have Rq := hid (Rg.new w102 b2' e2' (.slice aq m2 kq))
          have Aq := hid (A1.below al (Nat.le_refl _))
          have Gq := hid (O1.below al (Nat.le_refl _))
          obtain ⟨w103, hw104⟩ : ∃ w103, w102.alloc (.cells #[Value.int .i64 b2', .int .i64 e2', .slice aq m2 kq] 28) = w103 := ⟨_, rfl⟩
          rw [hw104] at bs Rq Aq Gq
          clear al b1 A1 O1 h1
          replace FZ := hid (FZ.out.world HO.out bs)
          replace CA := hid (CA.out.below bs (Nat.le_refl _))
          replace RDa := hid (RDa.out.below bs)
          replace ADa := hid (ADa.out.below bs (Nat.le_refl _))
          replace RDb := hid (RDb.out.below bs)
          replace ADb := hid (ADb.out.below bs (Nat.le_refl _))
          replace Rc := hid (Rc.out.below bs)
          replace Ac := hid (Ac.out.below bs (Nat.le_refl _))
          replace Rd := hid (Rd.out.below bs)
          replace Ad := hid (Ad.out.below bs (Nat.le_refl _))
          replace Rm := hid (Rm.out.below bs)
          replace Am := hid (Am.out.below bs (Nat.le_refl _))
          clear bs
          clear Gq
          have cl105 := FZ.out.fx.c0
          have cl106 := FZ.out.fx.c1
          have cl107 := FZ.out.fx.c2
          have i1 := RootOf5_any xb xe Xr (some ⟨gx, 0, none⟩) (nx + 8) w103 (by rw [hnxr.out]; omega) FZ.out.rx.fst (HZ.out.below FZ.out.bel HZ.out.lt)
          rw [hrs.out, hc3.out, hnxr.out, svS rs] at i1
          go_wp2_with (go_at_call 15; fail)
          clear cl105 cl106 cl107
          refine i1.mono ?_
          rintro r w108 ⟨rfl, b1⟩
          clear i1
          replace FZ := hid (FZ.out.world HO.out b1)
          replace CA := hid (CA.out.below b1 (Nat.le_refl _))
          replace RDa := hid (RDa.out.below b1)
          replace ADa := hid (ADa.out.below b1 (Nat.le_refl _))
          replace RDb := hid (RDb.out.below b1)
          replace ADb := hid (ADb.out.below b1 (Nat.le_refl _))
          replace Rc := hid (Rc.out.below b1)
          replace Ac := hid (Ac.out.below b1 (Nat.le_refl _))
          replace Rd := hid (Rd.out.below b1)
          replace Ad := hid (Ad.out.below b1 (Nat.le_refl _))
          replace Rm := hid (Rm.out.below b1)
          replace Am := hid (Am.out.below b1 (Nat.le_refl _))
          replace Rq := hid (Rq.out.below b1)
          replace Aq := hid (Aq.out.below b1 (Nat.le_refl _))
          clear b1
          have cl109 := RDa.out.c0
          have cl110 := RDa.out.c1
          have cl111 := RDa.out.c2
          have i1 := rRootOf_any xb xe Xr da dka w108 (by rw [hnxr.out]; omega) ADa.out
          rw [hrs.out, hc3.out, hnxr.out, svS rs] at i1
          go_wp2_with (go_at_call 28; fail)
          clear cl109 cl110 cl111
          refine i1.mono ?_
          rintro r w112 ⟨rfl, b1⟩
          clear i1
          replace FZ := hid (FZ.out.world HO.out b1)
          replace CA := hid (CA.out.below b1 (Nat.le_refl _))
          replace RDa := hid (RDa.out.below b1)
          replace ADa := hid (ADa.out.below b1 (Nat.le_refl _))
          replace RDb := hid (RDb.out.below b1)
          replace ADb := hid (ADb.out.below b1 (Nat.le_refl _))
          replace Rc := hid (Rc.out.below b1)
          replace Ac := hid (Ac.out.below b1 (Nat.le_refl _))
          replace Rd := hid (Rd.out.below b1)
          replace Ad := hid (Ad.out.below b1 (Nat.le_refl _))
          replace Rm := hid (Rm.out.below b1)
          replace Am := hid (Am.out.below b1 (Nat.le_refl _))
          replace Rq := hid (Rq.out.below b1)
          replace Aq := hid (Aq.out.below b1 (Nat.le_refl _))
          clear b1
          have cl113 := Rc.out.c0
          have cl114 := Rc.out.c1
          have cl115 := Rc.out.c2
          have cl116 := Rd.out.c0
          have cl117 := Rd.out.c1
          have cl118 := Rd.out.c2
          have i1 := sameRange_yes b1' e1' M1 ac ad kc kd w112 (by rw [hm1.out]; exact LM1.out) Ac.out Ad.out
          rw [hm1.out] at i1
          go_wp2_with (go_at_call 11; fail)
          clear cl113 cl114 cl115 cl116 cl117 cl118
          refine i1.mono ?_
          rintro r w119 ⟨rfl, b1⟩
          clear i1
          replace FZ := hid (FZ.out.world HO.out b1)
          replace CA := hid (CA.out.below b1 (Nat.le_refl _))
          replace RDa := hid (RDa.out.below b1)
          replace ADa := hid (ADa.out.below b1 (Nat.le_refl _))
          replace RDb := hid (RDb.out.below b1)
          replace ADb := hid (ADb.out.below b1 (Nat.le_refl _))
          replace Rc := hid (Rc.out.below b1)
          replace Ac := hid (Ac.out.below b1 (Nat.le_refl _))
          replace Rd := hid (Rd.out.below b1)
          replace Ad := hid (Ad.out.below b1 (Nat.le_refl _))
          replace Rm := hid (Rm.out.below b1)
          replace Am := hid (Am.out.below b1 (Nat.le_refl _))
          replace Rq := hid (Rq.out.below b1)
          replace Aq := hid (Aq.out.below b1 (Nat.le_refl _))
          clear b1
          have cl120 := Rm.out.c0
          have cl121 := Rm.out.c1
          have cl122 := Rm.out.c2
          have cl123 := Rq.out.c0
          have cl124 := Rq.out.c1
          have cl125 := Rq.out.c2
          have i1 := sameRange_yes b2' e2' M2 am aq km kq w119 (by rw [hm2.out]; exact LM2.out) Am.out Aq.out
          rw [hm2.out] at i1
          go_wp2_with (go_at_call 11; fail)
          clear cl120 cl121 cl122 cl123 cl124 cl125
          refine i1.mono ?_
          rintro r w126 ⟨rfl, b1⟩
          clear i1
          replace FZ := hid (FZ.out.world HO.out b1)
          replace CA := hid (CA.out.below b1 (Nat.le_refl _))
          replace RDa := hid (RDa.out.below b1)
          replace ADa := hid (ADa.out.below b1 (Nat.le_refl _))
          replace RDb := hid (RDb.out.below b1)
          replace ADb := hid (ADb.out.below b1 (Nat.le_refl _))
          replace Rc := hid (Rc.out.below b1)
          replace Ac := hid (Ac.out.below b1 (Nat.le_refl _))
          replace Rd := hid (Rd.out.below b1)
          replace Ad := hid (Ad.out.below b1 (Nat.le_refl _))
          replace Rm := hid (Rm.out.below b1)
          replace Am := hid (Am.out.below b1 (Nat.le_refl _))
          replace Rq := hid (Rq.out.below b1)
          replace Aq := hid (Aq.out.below b1 (Nat.le_refl _))
          clear b1
          clear Rc Ac Rd Ad Rm Am Rq Aq RDa ADa RDb ADb CA
          have FD := hid (FZ.out.world HO.out (Below.refl _ _).drew)
          have AP : Ap w126.drew w126.drew.heap.size gl gx gy := by
            have h1 := HO.out.l
            have h2 := HO.out.x
            have h3 := HO.out.mx
            have h4 := HO.out.y
            have h5 := HO.out.my
            have h6 := lt_of_heap FD.out.fy
            have h7 := HZ.out.lt
            exact ⟨by omega, by omega, by omega, by omega, by omega, by omega, by omega, by omega, by omega, HZ.out.below FD.out.bel HZ.out.lt⟩
          have i1 := again5_any fr xb xe yb ye Lr Xr Yr (behind 8) (behind 8) (behind 8) gl gx gy (n + 8) (nx + 8) (ny + 8) w126.drew hf1 hf2 AP (by rw [hnr.out]; exact hl) (by rw [hnxr.out]; exact hx) (by rw [hnyr.out]; exact hy) FD.out.rl FD.out.rx FD.out.ry
          rw [hnr.out, hnxr.out, hnyr.out] at i1
          have S0 := And.intro FD.out.fx.c0 (And.intro FD.out.fx.c1 (And.intro FD.out.fx.c2 (And.intro FD.out.fy.c0 (And.intro FD.out.fy.c1 FD.out.fy.c2))))
          have j1 : Calls Tryd.prog 32 #[.int .i64 fr, .slice (some ⟨gl, 0, none⟩) n (n + 8), rng xb xe (.slice (some ⟨gx, 0, none⟩) nx (nx + 8)), rng yb ye (.slice (some ⟨gy, 0, none⟩) ny (ny + 8))] w126.drew fun r w' => r = .returned (.bool true) ∧ Hid (Below w.heap.size w w') ∧ Hid (Rg w' vx xb xe (.slice (some ⟨gx, 0, none⟩) nx (nx + 8)) ∧ Rg w' vy yb ye (.slice (some ⟨gy, 0, none⟩) ny (ny + 8))) := i1.mono fun r w' h => by
            have h1 := HO.out.l
            have h2 := HO.out.x
            have h3 := HO.out.mx
            have h4 := HO.out.y
            have h6 := HO.out.my
            have h5 := FD.out.bel.size
            have h7 := lt_of_heap FD.out.fx
            have h8 := lt_of_heap FD.out.fy
            refine ⟨h.1, hid (FD.out.bel.trans (h.2.toBelow h5 (fun k hk => ?_))), hid ⟨(h.2.block vx h7 (fun hk => ?_)).trans FD.out.fx, (h.2.block vy h8 (fun hk => ?_)).trans FD.out.fy⟩⟩
            · rcases hk with e | e | e | e <;> omega
            · rcases hk with e | e | e | e <;> omega
            · rcases hk with e | e | e | e <;> omega
          clear i1 AP
          have g1 : (n : Int) ≤ (n : Int) + 8 := by omega
          go_wp2_with (fail)
          go_region_held3 (fun w' => w'.cell? ⟨vx, 0, none⟩ = some (.int .i64 xb) ∧ w'.cell? ⟨vx, 1, none⟩ = some (.int .i64 xe) ∧ w'.cell? ⟨vx, 2, none⟩ = some (.slice (some ⟨gx, 0, none⟩) nx (nx + 8)) ∧ w'.cell? ⟨vy, 0, none⟩ = some (.int .i64 yb) ∧ w'.cell? ⟨vy, 1, none⟩ = some (.int .i64 ye) ∧ w'.cell? ⟨vy, 2, none⟩ = some (.slice (some ⟨gy, 0, none⟩) ny (ny + 8))) (first | exact S0 | exact ⟨H9.out.1.c0, H9.out.1.c1, H9.out.1.c2, H9.out.2.c0, H9.out.2.c1, H9.out.2.c2⟩) (first | (go_at_call 32; refine j1.mono ?_; rintro e w9 ⟨rfl, B9, H9⟩))
          all_goals
            go_wp2
            go_ret
            exact ⟨rfl, B9.out⟩
end Go.Proofs.YtmldibbbfmnckaaDoor
