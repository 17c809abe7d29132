import Derived.Test.YticjokhfjkebpaaGreatDoorPkPR5
import Derived.Test.YticjokhfjkebpaaGreatDoorPkO36
import Derived.Test.YticjokhfjkebpaaGreatDoorPkO53
import Derived.Test.YticjokhfjkebpaaGreatDoorPkO56
/- Layer 14, the law: SpanProves -/
namespace Go.Proofs.YticjokhfjkebpaaGreatDoor
open Go.RowKit Go.Shelf
namespace Spn
theorem keepX14 {w w' : World} {X : Nat} (h : Below X w w') : Keep (fun k => X ≤ k) w w' := ⟨h.os, h.tape, h.output, h.size, fun k _ hk => h.block k (by omega)⟩
/-- what lies below the book -/
structure Gd (w : World) (X q h q' h' : Nat) (L : List (List UInt8)) (F F' : Nat → Prop) (g1 g2 : Nat) (a b c d : Int) : Prop where
  t : TrL w q h L F
  r : RtL w q' h' L F'
  s : SpI w g1 a b
  y : SpI w g2 c d
  f1 : ∀ k, F k → k < X
  f2 : ∀ k, F' k → k < X
  f3 : g1 < X
  f4 : g2 < X
theorem Gd.at {w w' : World} {X q h q' h' : Nat} {L : List (List UInt8)} {F F' : Nat → Prop} {g1 g2 : Nat} {a b c d : Int} (g : Gd w X q h q' h' L F F' g1 g2 a b c d) (hb : Below X w w') : Gd w' X q h q' h' L F F' g1 g2 a b c d :=
  ⟨g.t.keep (keepX14 hb) (fun k hk e => by have := g.f1 k hk; omega), g.r.keep (keepX14 hb) (fun k hk e => by have := g.f2 k hk; omega), (hb.block g1 g.f3).trans g.s, (hb.block g2 g.f4).trans g.y, g.f1, g.f2, g.f3, g.f4⟩
set_option maxRecDepth 100000 in
set_option maxHeartbeats 8000000 in
theorem proves14_any (raw : List Int) (ht sz : Int) (sb se : Int) (at' mn : Int) (a : Option Addr) (ca : Nat) (w : World) (h1 : -9223372036854775808 ≤ ht) (h2 : ht ≤ 9223372036854775807) (s1 : -9223372036854775808 ≤ sz) (s2 : sz ≤ 9223372036854775807) (t1 : -9223372036854775808 ≤ at') (t2 : at' ≤ 9223372036854775807) (m1 : -9223372036854775808 ≤ mn) (m2 : mn ≤ 9223372036854775807) (hr : raw.length ≤ 9223372036854775807) (hA : AtI w a raw) (Z : Tb w) :
    Calls Tryz.prog 6 #[.slice a raw.length ca, .int .i64 ht, .int .i64 sz, sg sb se, .int .i64 at', .int .i64 mn] w fun r w' => r = .returned (.bool true) ∧ Below w.heap.size w w' := by
  have ba0 := (Below.refl w.heap.size w).alloc (Nat.le_refl _) (.cells #[.int .i64 sb, .int .i64 se] 35)
  have S0 := hid (SpI.new w sb se)
  have HZ := hid Z
  have hT := Z.lt
  have i0 := known14_any _ (Z.below ba0 hT)
  have HA := hid hA
  have B0 := hid ba0
  obtain ⟨mr, hmr⟩ : ∃ mr, raw.length = mr := ⟨_, rfl⟩
  have j2 := fun w' (hb : Below w.heap.size w w') => numbered_any raw 200 (by omega) a ca w' hr (HA.out.below hb (Nat.le_refl _))
  rw [hmr] at j2 ⊢
  obtain ⟨L, hLL⟩ : ∃ L, nums raw 200 = L := ⟨_, rfl⟩
  have hL32 : Hid (Tree.Hs L) := by unfold Hid; rw [← hLL]; exact nums_hs raw 200
  have hl200 : L.length ≤ 200 := by rw [← hLL, nums_len]; omega
  rw [hLL] at j2
  simp only [show (((200 : Nat) : Int)) = 200 from rfl] at j2
  clear Z hA hLL hmr ba0
  go_enter Tryz.func6, Tryz.ntmps6
  go_wp2_with (go_at_call 8; fail)
  with_reducible refine i0.mono ?_
  rintro r w1 ⟨rfl, b1⟩
  have SB := hid (S0.out.below b1)
  have B1 := hid (B0.out.trans (b1.mono B0.out.size))
  clear i0 b1
  have k2 := j2 w1 B1.out
  clear j2
  go_wp2_with (go_at_call 9; fail)
  with_reducible refine k2.mono ?_
  rintro r w2 ⟨v2, rfl, o2, b2⟩
  obtain ⟨al, cl, hv2, hal, hlc, hcm⟩ := Own.at o2
  subst hv2
  have B2 := hid (B1.out.trans (b2.mono B1.out.size))
  have SB2 := hid (SB.out.below b2)
  have AL2 := hid hal
  obtain ⟨k, hk⟩ : ∃ k, L.length = k := ⟨_, rfl⟩
  have HK := hid hk
  have j3 := Bat.planted12_any ht L hL32.out (by omega) al cl w2 h1 h2 hal (HZ.out.below B2.out hT)
  rw [hk] at j3 hl200 hlc ⊢
  clear k2 o2 b2 hal B1 hk
  go_wp2_with (go_at_call 10; fail)
  with_reducible refine j3.mono ?_
  rintro r w3 ⟨q, h, F, rfl, t3, _, b3⟩
  have B3 := hid (B2.out.trans (b3.mono B2.out.size))
  have SB3 := hid (SB2.out.below b3)
  have AL3 := hid (AL2.out.below b3 (Nat.le_refl _))
  have TR3 := hid t3
  clear j3 t3 b3 B2 AL2
  obtain ⟨p8, hp, hp'⟩ : ∃ p : Nat, pk ht 8 = (p : Int) ∧ p < 8 := ⟨(pk ht 8).toNat, by have := pk_nonneg ht 8 (by omega); omega, by have := pk_lt ht 8 (by omega); have := pk_nonneg ht 8 (by omega); omega⟩
  have j4 := pick_any ht 8 h1 h2 (by omega) (by omega) w3
  rw [hp] at j4
  obtain ⟨h8, hn8⟩ : ∃ n : Nat, n = p8 + 1 := ⟨_, rfl⟩
  have j5 := rNew_any h8 (by omega) (by omega) w3 (Nat.le_trans hT B3.out.size)
  rw [show (h8 : Int) = 1 + (p8 : Int) by omega] at j5
  clear hp
  go_wp2_with (go_at_call 11; fail)
  with_reducible refine j4.mono ?_
  rintro r w4 ⟨rfl, h0⟩
  have h0 := h0.symm
  subst h0
  go_wp2_with (go_at_call 20; fail)
  with_reducible refine j5.mono ?_
  rintro r w4 ⟨q', F0, rfl, t4, f4, b4⟩
  have B4 := hid b4
  have RT4 := hid t4
  have FF4 := hid f4
  clear j4 j5 b4 t4 f4 hn8 hp'
  go_wp2
  go_loopw [18] (fun i w' => ∃ (j : Nat) (F' : Nat → Prop), j ≤ k ∧ i = .int .i64 (j : Int) ∧ Hid (RtL w' q' h8 (L.take j) F') ∧ Hid (∀ k, F' k → w3.heap.size ≤ k) ∧ Hid (Below w3.heap.size w3 w')) (fun i _ => k - (intOf i).toNat)
  case atStart => exact ⟨0, F0, by omega, rfl, by rw [List.take_zero]; exact RT4, FF4, B4⟩
  case round =>
    clear RT4 FF4 B4
    obtain ⟨j, F', hj, rfl, RT, FF, B⟩ := hrel
    by_cases hjk : j < k
    · have d0 : (j : Int) < (k : Int) := by omega
      have d1 : (0 : Int) ≤ (j : Int) := by omega
      have hjL : j < L.length := by rw [HK.out]; exact hjk
      obtain ⟨xl, rfl, _, hcx⟩ := (AL3.out.below B.out (Nat.le_refl _)) j L[j] (List.getElem?_eq_getElem hjL)
      have jA := rAdd_any RT.out L[j] (hL32.out _ (List.getElem_mem hjL)) (by rw [List.length_take]; omega) (Nat.le_trans hT (Nat.le_trans B3.out.size B.out.size))
      have etk : Hid (L.take (j + 1) = L.take j ++ [L[j]]) := by unfold Hid; rw [List.take_add_one, List.getElem?_eq_getElem hjL]; rfl
      generalize L[j] = y at *
      rw [show sv y = Value.string ⟨y.toArray⟩ from rfl] at jA hcx
      go_wp2_with (go_at_call 21; fail)
      with_reducible refine jA.mono ?_
      rintro r w5 ⟨rfl, F2, t5, m5⟩
      have N1 : Hid (RtL w5 q' h8 (L.take (j + 1)) F2) := by unfold Hid; rw [etk.out]; exact t5
      have N2 : Hid (∀ k, F2 k → w3.heap.size ≤ k) := fun k e => by
        rcases m5.new k e with e | e
        · exact FF.out k e
        · exact Nat.le_trans B.out.size e
      have N3 := hid (B.out.trans (keep_below14 m5.keep B.out.size FF.out))
      clear jA t5 m5
      go_wp2
      exact ⟨⟨j + 1, F2, by omega, by go_num, N1, N2, N3⟩, by simp [intOf]; omega⟩
    · obtain rfl : j = k := by omega
      have d0 : ¬ (j : Int) < (j : Int) := by omega
      rw [List.take_of_length_le (by rw [HK.out]; exact Nat.le_refl _)] at RT
      have B5 := hid (B3.out.trans (B.out.mono B3.out.size))
      have TR5 := hid (TR3.out.below B.out)
      have F5 := hid (fun k (e : F k) => TR3.out.lt k e)
      have SB5 := hid (SB3.out.below B.out)
      have RT5 := RT
      clear RT TR3 B AL3 B3 SB SB2 SB3 S0 B0
      obtain ⟨n, hn, hn'⟩ := pk_nat sz (j + 2) (by omega)
      have kA := pick_any sz ((j + 2 : Nat) : Int) s1 s2 (by omega) (by omega) wr
      rw [hn] at kA
      have hjw : IntKind.i64.wrap ((j : Int) + 2) = ((j + 2 : Nat) : Int) := by rw [IntKind.wrap_i64]; omega
      obtain ⟨jj, hjj⟩ : ∃ jj, j + 2 = jj := ⟨_, rfl⟩
      rw [hjj] at kA hjw hn'
      obtain ⟨b, hb, hb'⟩ := pk_nat at' (n + 1) (by omega)
      have kB := pick_any at' ((n + 1 : Nat) : Int) t1 t2 (by omega) (by omega) wr
      rw [hb] at kB
      have hnw : IntKind.i64.wrap ((n : Int) + 1) = ((n + 1 : Nat) : Int) := by rw [IntKind.wrap_i64]; omega
      obtain ⟨n1, hn1⟩ : ∃ n1, n + 1 = n1 := ⟨_, rfl⟩
      rw [hn1] at kB hnw hb'
      obtain ⟨d, hd⟩ : ∃ d : Nat, d = n - b + 1 := ⟨_, rfl⟩
      have hdw0 : IntKind.i64.wrap ((n : Int) - (b : Int)) = ((d - 1 : Nat) : Int) := by rw [IntKind.wrap_i64]; omega
      obtain ⟨d1, hd1⟩ : ∃ d1, d - 1 = d1 := ⟨_, rfl⟩
      rw [hd1] at hdw0
      have hdw : IntKind.i64.wrap ((d1 : Int) + 1) = (d : Int) := by rw [IntKind.wrap_i64]; omega
      obtain ⟨c, hc, hc'⟩ := pk_nat mn d (by omega)
      have kC := fun w' => pick_any mn d m1 m2 (by omega) (by omega) w'
      rw [hc] at kC
      obtain ⟨e, he⟩ : ∃ e : Nat, e = b + c := ⟨_, rfl⟩
      have hew : IntKind.i64.wrap ((b : Int) + (c : Int)) = (e : Int) := by rw [IntKind.wrap_i64]; omega
      have hjj' : jj ≤ 202 := by omega
      have hn40 : n ≤ 202 := by omega
      have hb40 : b ≤ 202 := by omega
      clear hn hb hc hd hd1 he hn' hb' hc' hjj hn1
      have ba := (Below.refl wr.heap.size wr).alloc (Nat.le_refl _) (.cells #[.int .i64 (b : Int), .int .i64 0] 35)
      have Y6 := hid (SpI.new wr (b : Int) 0)
      have SB6 := hid (SB5.out.below ba)
      have TR6 := hid (TR5.out.below ba)
      have RT6 := hid (RT5.out.below ba)
      have B6 := hid (B5.out.trans (ba.mono B5.out.size))
      have lF := hid RT5.out.lt
      have lT := hid TR5.out.lt
      have lS := hid (lt_of_heap SB5.out)
      go_wp2_with (first
        | (go_at_call 11; (first
            | ((with_reducible refine kA.mono ?_); rintro r w4' ⟨rfl, h0⟩; have h0 := h0.symm; subst h0)
            | ((with_reducible refine kB.mono ?_); rintro r w4' ⟨rfl, h0⟩; have h0 := h0.symm; subst h0))))
      generalize wr.alloc (.cells #[.int .i64 (b : Int), .int .i64 0] 35) = w6 at *
      have g2l := lt_of_heap Y6.out
      go_upto_region 13 with fail
      go_cut [] (fun w' => Hid (SpI w' wr.heap.size (b : Int) (e : Int)) ∧ Hid (Keep (fun k => k = wr.heap.size) w6 w'))
      case first =>
        have x0 : w6.drew.cell? ⟨wr.heap.size, 0, none⟩ = some (.int .i64 (b : Int)) := Y6.out.c0
        have x1 : w6.drew.cell? ⟨wr.heap.size, 1, none⟩ = some (.int .i64 0) := Y6.out.c1
        have x2 : w6.drew.frozen? ⟨wr.heap.size, 1, none⟩ = false := frozen_of_row _ _ 1 _ _ Y6.out
        have y0 := Y6.out.c0
        have y1 := Y6.out.c1
        have y2 : w6.frozen? ⟨wr.heap.size, 1, none⟩ = false := frozen_of_row _ _ 1 _ _ Y6.out
        go_region_with (first | (go_at_call 11; (with_reducible refine (kC _).mono ?_); rintro r w7 ⟨rfl, h0⟩; have h0 := h0.symm; subst h0))
        all_goals
          go_wp2_with fail
          go_meet
          exact ⟨heap_setCell_same w6 wr.heap.size 1 _ _ _ Y6.out, (Keep.ofSet (S := fun k => k = wr.heap.size) w6 wr.heap.size 1 _ rfl).trans (Keep.ofBelow ((Below.refl _ _).drew)) (fun _ _ e => e)⟩
      case rest =>
        obtain ⟨Y7, K7⟩ := hcut
        have g2l := lt_of_heap Y7.out
        have bX := (Below.refl wc.heap.size wc).alloc (Nat.le_refl _) (.cells #[.slice none 0 0, .slice none 0 0, .slice none 0 0, .slice none 0 0, .slice none 0 0] 55)
        have T7 := TR6.out.keep K7.out (fun k hk e => by have := lT.out k hk; omega)
        have R7 := RT6.out.keep K7.out (fun k hk e => by have := lF.out k hk; omega)
        have S7 := SpI.keep SB6.out K7.out (fun e => by have := lS.out; omega)
        have hk7 := K7.out.size
        have G8 : Hid (Gd (wc.alloc (.cells #[.slice none 0 0, .slice none 0 0, .slice none 0 0, .slice none 0 0, .slice none 0 0] 55)) wc.heap.size q h q' h8 L F F' w.heap.size wr.heap.size sb se (b : Int) (e : Int)) :=
          ⟨T7.below bX, R7.below bX, S7.below bX, Y7.out.below bX, fun k hk => by have := lT.out k hk; omega, fun k hk => by have := lF.out k hk; omega, by have := lS.out; omega, g2l⟩
        have K8 := hid (Bk.nil (heap_alloc_new wc (.cells #[.slice none 0 0, .slice none 0 0, .slice none 0 0, .slice none 0 0, .slice none 0 0] 55)))
        have B7 := B6.out.trans (keep_below14 K7.out B6.out.size (fun k hk => by have := B5.out.size; omega))
        have B8 := hid (B7.trans (bX.mono B7.size))
        have zX : w.heap.size ≤ wc.heap.size := B7.size
        clear bX T7 R7 S7 B7 K7 Y7 TR6 RT6 SB6 B6 TR5 RT5 SB5 B5 Y6 kA kB kC
        go_upto_region 15 with fail
        generalize hG8 : wc.alloc (.cells #[.slice none 0 0, .slice none 0 0, .slice none 0 0, .slice none 0 0, .slice none 0 0] 55) = w8 at *
        clear hG8
        generalize wc.heap.size = X at *
        go_wp2
        go_loopw [22] (fun i w' => ∃ (t : Nat) (vf vw : Value) (us cc : List Value) (Ls : List (List (List UInt8))), t ≤ 4 ∧ i = .int .i64 (t : Int) ∧ Hid (Bk w' X vf vw us cc Ls) ∧ Hid (us.length = t) ∧ Hid (Below X w8 w')) (fun i _ => 4 - (intOf i).toNat)
        case atStart => exact ⟨0, _, _, _, _, _, by omega, rfl, K8, rfl, Below.refl _ _⟩
        case round =>
          obtain ⟨t, vf, vw, us, cc, Ls, ht4, rfl, hK, hus, hB⟩ := hrel
          have G9 := hid (G8.out.at hB.out)
          have lX := lt_of_heap hK.out.row
          by_cases htl : t < 4
          · have d0' : (t : Int) < 4 := by omega
            obtain ⟨t2, ht2, ht2'⟩ : ∃ t2 : Nat, Hid (t % 2 = t2) ∧ t2 < 2 := ⟨t % 2, rfl, Nat.mod_lt _ (by omega)⟩
            have rm : (t : Int).tmod 2 = (t2 : Int) := by rw [← ht2.out, Int.tmod_eq_emod_of_nonneg (by omega)]; omega
            have rm' : (t : Int) % 2 = (t2 : Int) := by rw [← ht2.out]; omega
            have u0 := G9.out.s.c0
            have u1 := G9.out.s.c1
            have u2 := G9.out.y.c0
            have u3 := G9.out.y.c1
            have Z9 := SpI.new wr sb se
            have bz := (Below.refl wr.heap.size wr).alloc (Nat.le_refl _) (.cells #[.int .i64 sb, .int .i64 se] 35)
            have u4 := (G9.out.y.below bz).c0
            have u5 := (G9.out.y.below bz).c1
            have z0 := Z9.c0
            have z1 := Z9.c1
            have z2 := frozen_of_row _ _ 0 _ _ Z9
            have z3 := frozen_of_row _ _ 1 _ _ Z9
            by_cases hp : t2 = 0
            · have rq : ((t2 : Int) == 1) = false := by simp; omega
              go_upto_region 23 with fail
              have bz' := (Below.refl wr.heap.size wr).alloc (Nat.le_refl _) (.cells #[.int .i64 sb, .int .i64 se] 35)
              have Y9 := hid (SpI.new wr sb se)
              have K9 := hid (hK.out.below bz')
              have bzX := bz'.mono (Nat.le_of_lt lX)
              have G10 := hid (G9.out.at bzX)
              have BX := hid (hB.out.trans bzX)
              have l9 := bz'.size
              clear u0 u1 u2 u3 u4 u5 z0 z1 z2 z3 Z9 bz bz' bzX hK hB G9 rm rm' rq
              generalize wr.alloc (.cells #[.int .i64 sb, .int .i64 se] 35) = w9 at *
              have hZ9 := HZ.out.below (B8.out.trans (BX.out.mono zX)) hT
              have jP := prove14_any G10.out.t hZ9 sz sb se
              have jQ := fun w' (hb : Below X w9 w') => rprove14_any (G10.out.at hb).r (by rw [HK.out]; omega) sz sb se
              have hPl := prvH_len (L := L) (by rw [HK.out]; omega) sz sb se
              generalize prvT L.length sz sb se = pv at jP jQ
              obtain ⟨p1, p2, p3, p4⟩ := pv
              generalize prvH L sz sb se = PH at jP jQ hPl
              simp only [] at jP jQ
              have z0 := Y9.out.c0
              have z1 := Y9.out.c1
              clear hZ9
              go_wp2_with (go_at_call 12; fail)
              with_reducible refine jP.mono ?_
              rintro r w10 ⟨v10, rfl, o10, b10⟩
              obtain ⟨a10, c10, hv10, hat10, _, _⟩ := Own.at o10
              subst hv10
              obtain ⟨nP, hnP⟩ : ∃ nP, PH.length = nP := ⟨_, rfl⟩
              have HnP := hid hnP
              have O10 := hid o10
              unfold Hid at O10
              rw [hnP] at jQ hPl O10 ⊢
              have O10 := hid O10
              have baR := (Below.refl w10.heap.size w10).alloc (Nat.le_refl _) (.cells #[.int .i64 p1, .int .i64 p2, .int .i64 p3, .slice a10 nP c10] 30)
              have b11 := b10.trans (baR.mono b10.size)
              have R11 := hid (RnI.new w10 p1 p2 p3 (.slice a10 nP c10))
              have K11 := hid (K9.out.below b11)
              have Y11 := hid (Y9.out.below b11)
              have A11 := hid (hat10.below baR (Nat.le_refl _))
              have O11 := hid (O10.out.below baR (Nat.le_refl _))
              have X11 := hid (b11.mono (show X ≤ w9.heap.size by omega))
              have l11 := b11.size
              have y0 := Y11.out.c0
              have y1 := Y11.out.c1
              clear jP b10 b11 o10 O10 hat10 baR hnP z0 z1
              go_wp2_with (go_at_call 22; fail)
              generalize w10.alloc (.cells #[.int .i64 p1, .int .i64 p2, .int .i64 p3, .slice a10 nP c10] 30) = w11 at *
              with_reducible refine (jQ w11 X11.out).mono ?_
              rintro r w12 ⟨a12, c12, rfl, hat12, b12⟩
              have baS := (Below.refl w12.heap.size w12).alloc (Nat.le_refl _) (.cells #[.int .i64 p1, .int .i64 p2, .int .i64 p3, .slice a12 nP c12] 30)
              have b13 := b12.trans (baS.mono b12.size)
              have S13 := hid (RnI.new w12 p1 p2 p3 (.slice a12 nP c12))
              have R13 := hid (R11.out.below b13)
              have K13 := hid (K11.out.below b13)
              have A13 := A11.out.below b13 (Nat.le_refl _)
              have D13 := hat12.below baS (Nat.le_refl _)
              have O13 := hid (O11.out.below b13 (Nat.le_refl _))
              have X13 := hid (X11.out.trans (b13.mono (show X ≤ w11.heap.size by omega)))
              have l13 := b13.size
              have kS := same_yes PH a10 a12 c10 c12 _ A13 D13 (by rw [HnP.out]; omega)
              rw [HnP.out] at kS
              have r0 := R13.out.c3
              have r1 := S13.out.c3
              clear jQ b12 b13 hat12 baS A13 D13 R11 K11 A11 O11 X11 Y11 y0 y1
              go_wp2_with (go_at_call 16; fail)
              generalize w12.alloc (.cells #[.int .i64 p1, .int .i64 p2, .int .i64 p3, .slice a12 nP c12] 30) = w13 at *
              with_reducible refine kS.mono ?_
              rintro r w14 ⟨rfl, b14, _⟩
              have R14 := R13.out.below b14
              have S14 := S13.out.below b14
              have K14 := hid (K13.out.below b14)
              have O14 := hid (O13.out.below b14 (Nat.le_refl _))
              have X14 := hid (X13.out.trans (b14.mono (show X ≤ w13.heap.size by omega)))
              have l14 := b14.size
              have r0 := R14.c0
              have r1 := R14.c1
              have r2 := R14.c2
              have r3 := R14.c3
              have r4 := S14.c0
              have r5 := S14.c1
              have r6 := S14.c2
              have hFr : Fr X vf vw us (.slice a10 nP c10) := K9.out.fresh O14.out (Nat.le_refl _)
              have jK := takes_any X X w9.heap.size vf vw (.slice none 0 0) (.slice none 0 0) (.slice none 0 0) a10 nP c10 us cc PH w14 K14.out.row K14.out.free K14.out.was O14.out (by have := hus.out; omega) (by have := hus.out; have := K14.out.l1; have := K14.out.l2; omega) (by rw [HnP.out]; omega) (Nat.le_of_lt (lt_of_heap K14.out.row)) K14.out.dX.1 K14.out.dX.2 K14.out.dFW (fun k hk => ⟨(hFr k hk).1, (hFr k hk).2.1, (hFr k hk).2.2.1⟩)
              have HFr := hid hFr
              clear kS b14 R14 S14 R13 S13 K13 O13 X13 hFr
              go_wp2_with (go_at_call 23; fail)
              with_reducible refine jK.mono ?_
              rintro r w15 ⟨rfl, vf', vw', cN, T15⟩
              have K15 := hid (K14.out.take T15 O14.out (by omega) (by rw [HnP.out]; omega) HFr.out)
              have X15 := hid (BX.out.trans (X14.out.trans (keep_below14 T15.keep (by omega) (fun k hk => by
                rcases hk with rfl | e' | e'
                · exact Nat.le_refl _
                · exact K14.out.free.ge k e'
                · exact K14.out.was.ge k e'))))
              have hus' : Hid ((us ++ [Value.slice a10 nP c10]).length = t + 1) := by unfold Hid; rw [List.length_append, hus.out]; rfl
              clear T15 jK K14 O14 X14 K9 G10 BX
              go_wp2
              exact ⟨⟨t + 1, _, _, _, _, _, by omega, by go_num, K15, hus', X15⟩, by simp [intOf]; omega⟩
            · have rq : ((t2 : Int) == 1) = true := by simp; omega
              go_upto_region 23 with fail
              have bz' := (Below.refl wr.heap.size wr).alloc (Nat.le_refl _) (.cells #[.int .i64 (b : Int), .int .i64 (e : Int)] 35)
              have Y9 := hid (SpI.new wr (b : Int) (e : Int))
              have K9 := hid (hK.out.below bz')
              have bzX := bz'.mono (Nat.le_of_lt lX)
              have G10 := hid (G9.out.at bzX)
              have BX := hid (hB.out.trans bzX)
              have l9 := bz'.size
              clear u0 u1 u2 u3 u4 u5 z0 z1 z2 z3 Z9 bz bz' bzX hK hB G9 rm rm' rq
              generalize wr.alloc (.cells #[.int .i64 (b : Int), .int .i64 (e : Int)] 35) = w9 at *
              have hZ9 := HZ.out.below (B8.out.trans (BX.out.mono zX)) hT
              have jP := prove14_any G10.out.t hZ9 (n : Int) (b : Int) (e : Int)
              have jQ := fun w' (hb : Below X w9 w') => rprove14_any (G10.out.at hb).r (by rw [HK.out]; omega) (n : Int) (b : Int) (e : Int)
              have hPl := prvH_len (L := L) (by rw [HK.out]; omega) (n : Int) (b : Int) (e : Int)
              generalize prvT L.length (n : Int) (b : Int) (e : Int) = pv at jP jQ
              obtain ⟨p1, p2, p3, p4⟩ := pv
              generalize prvH L (n : Int) (b : Int) (e : Int) = PH at jP jQ hPl
              simp only [] at jP jQ
              have z0 := Y9.out.c0
              have z1 := Y9.out.c1
              clear hZ9
              go_wp2_with (go_at_call 12; fail)
              with_reducible refine jP.mono ?_
              rintro r w10 ⟨v10, rfl, o10, b10⟩
              obtain ⟨a10, c10, hv10, hat10, _, _⟩ := Own.at o10
              subst hv10
              obtain ⟨nP, hnP⟩ : ∃ nP, PH.length = nP := ⟨_, rfl⟩
              have HnP := hid hnP
              have O10 := hid o10
              unfold Hid at O10
              rw [hnP] at jQ hPl O10 ⊢
              have O10 := hid O10
              have baR := (Below.refl w10.heap.size w10).alloc (Nat.le_refl _) (.cells #[.int .i64 p1, .int .i64 p2, .int .i64 p3, .slice a10 nP c10] 30)
              have b11 := b10.trans (baR.mono b10.size)
              have R11 := hid (RnI.new w10 p1 p2 p3 (.slice a10 nP c10))
              have K11 := hid (K9.out.below b11)
              have Y11 := hid (Y9.out.below b11)
              have A11 := hid (hat10.below baR (Nat.le_refl _))
              have O11 := hid (O10.out.below baR (Nat.le_refl _))
              have X11 := hid (b11.mono (show X ≤ w9.heap.size by omega))
              have l11 := b11.size
              have y0 := Y11.out.c0
              have y1 := Y11.out.c1
              clear jP b10 b11 o10 O10 hat10 baR hnP z0 z1
              go_wp2_with (go_at_call 22; fail)
              generalize w10.alloc (.cells #[.int .i64 p1, .int .i64 p2, .int .i64 p3, .slice a10 nP c10] 30) = w11 at *
              with_reducible refine (jQ w11 X11.out).mono ?_
              rintro r w12 ⟨a12, c12, rfl, hat12, b12⟩
              have baS := (Below.refl w12.heap.size w12).alloc (Nat.le_refl _) (.cells #[.int .i64 p1, .int .i64 p2, .int .i64 p3, .slice a12 nP c12] 30)
              have b13 := b12.trans (baS.mono b12.size)
              have S13 := hid (RnI.new w12 p1 p2 p3 (.slice a12 nP c12))
              have R13 := hid (R11.out.below b13)
              have K13 := hid (K11.out.below b13)
              have A13 := A11.out.below b13 (Nat.le_refl _)
              have D13 := hat12.below baS (Nat.le_refl _)
              have O13 := hid (O11.out.below b13 (Nat.le_refl _))
              have X13 := hid (X11.out.trans (b13.mono (show X ≤ w11.heap.size by omega)))
              have l13 := b13.size
              have kS := same_yes PH a10 a12 c10 c12 _ A13 D13 (by rw [HnP.out]; omega)
              rw [HnP.out] at kS
              have r0 := R13.out.c3
              have r1 := S13.out.c3
              clear jQ b12 b13 hat12 baS A13 D13 R11 K11 A11 O11 X11 Y11 y0 y1
              go_wp2_with (go_at_call 16; fail)
              generalize w12.alloc (.cells #[.int .i64 p1, .int .i64 p2, .int .i64 p3, .slice a12 nP c12] 30) = w13 at *
              with_reducible refine kS.mono ?_
              rintro r w14 ⟨rfl, b14, _⟩
              have R14 := R13.out.below b14
              have S14 := S13.out.below b14
              have K14 := hid (K13.out.below b14)
              have O14 := hid (O13.out.below b14 (Nat.le_refl _))
              have X14 := hid (X13.out.trans (b14.mono (show X ≤ w13.heap.size by omega)))
              have l14 := b14.size
              have r0 := R14.c0
              have r1 := R14.c1
              have r2 := R14.c2
              have r3 := R14.c3
              have r4 := S14.c0
              have r5 := S14.c1
              have r6 := S14.c2
              have hFr : Fr X vf vw us (.slice a10 nP c10) := K9.out.fresh O14.out (Nat.le_refl _)
              have jK := takes_any X X w9.heap.size vf vw (.slice none 0 0) (.slice none 0 0) (.slice none 0 0) a10 nP c10 us cc PH w14 K14.out.row K14.out.free K14.out.was O14.out (by have := hus.out; omega) (by have := hus.out; have := K14.out.l1; have := K14.out.l2; omega) (by rw [HnP.out]; omega) (Nat.le_of_lt (lt_of_heap K14.out.row)) K14.out.dX.1 K14.out.dX.2 K14.out.dFW (fun k hk => ⟨(hFr k hk).1, (hFr k hk).2.1, (hFr k hk).2.2.1⟩)
              have HFr := hid hFr
              clear kS b14 R14 S14 R13 S13 K13 O13 X13 hFr
              go_wp2_with (go_at_call 23; fail)
              with_reducible refine jK.mono ?_
              rintro r w15 ⟨rfl, vf', vw', cN, T15⟩
              have K15 := hid (K14.out.take T15 O14.out (by omega) (by rw [HnP.out]; omega) HFr.out)
              have X15 := hid (BX.out.trans (X14.out.trans (keep_below14 T15.keep (by omega) (fun k hk => by
                rcases hk with rfl | e' | e'
                · exact Nat.le_refl _
                · exact K14.out.free.ge k e'
                · exact K14.out.was.ge k e'))))
              have hus' : Hid ((us ++ [Value.slice a10 nP c10]).length = t + 1) := by unfold Hid; rw [List.length_append, hus.out]; rfl
              clear T15 jK K14 O14 X14 K9 G10 BX
              go_wp2
              exact ⟨⟨t + 1, _, _, _, _, _, by omega, by go_num, K15, hus', X15⟩, by simp [intOf]; omega⟩
          · obtain rfl : t = 4 := by omega
            have d0' : ¬ ((4 : Nat) : Int) < 4 := by omega
            have jst := still12_any X X 4 vf vw us cc Ls wr hK.out.row hK.out.free hK.out.was hus.out (by have := hK.out.l1; have := hK.out.l2; have := hus.out; omega) (by have := hK.out.l1; have := hus.out; omega) (by omega) (by omega) hK.out.own hK.out.cpy (fun i u g a b => (hK.out.apU i u g a b).1) hK.out.di (Nat.le_of_lt lX)
            go_wp2_with (go_at_call 24; fail)
            with_reducible refine jst.mono ?_
            rintro r w15 ⟨rfl, k15⟩
            have b15 : Below X wr w15 := keep_below14 k15 (Nat.le_of_lt lX) (fun k hk => by
              rcases hk with rfl | ⟨i, u, h5, h6⟩
              · exact Nat.le_refl _
              · obtain ⟨L', hL'⟩ : ∃ L', Ls[i]? = some L' := ⟨_, List.getElem?_eq_getElem (by have := (List.getElem?_eq_some_iff.1 h5).1; have := hK.out.l1; omega)⟩
                exact (hK.out.own i u L' h5 hL').1.ge k h6)
            have G15 := hid (G9.out.at b15)
            have jS := tSizeL G15.out.t
            rw [HK.out] at jS
            have B15 := hid (B8.out.trans ((hB.out.trans b15).mono zX))
            have hjj : ((j : Int) == (j : Int)) = true := by simp
            clear jst k15 b15
            go_wp2_with (go_at_call 25; (with_reducible refine jS.mono ?_); rintro r w16 ⟨rfl, h0⟩; have h0 := h0.symm; subst h0)
            go_ret
            exact ⟨rfl, B15.out⟩
end Spn
end Go.Proofs.YticjokhfjkebpaaGreatDoor
