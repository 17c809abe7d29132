import Derived.Test.YtenklmjeeejfdaaGreatDoorPkCX5
import Derived.Test.YtenklmjeeejfdaaGreatDoorPkCR6
import Derived.Deep.DeepCutAuto
/- Layer 13, the law: the book's expands: its walk (written by genCX10.py) -/
namespace Go.Proofs.YtenklmjeeejfdaaGreatDoor
open Go.RowKit Go.Shelf
namespace Chn
namespace Gb
theorem exR_len (cs : List Int) (H : List (List UInt8)) : (exR cs H).length ≤ 63 ∧ (exR cs H).length ≤ cs.length - 1 := by
  have h1 := (exR_few cs H).1
  refine ⟨h1, ?_⟩
  unfold exR
  split
  · rename_i he
    obtain ⟨hs, rfl, HH, _, _⟩ := exE_ok he
    rw [ix_toN]
    simp [exL, ix]
  · simp
theorem copy_overT (w : World) (H : Nat) (a : Option Addr) (cap' : Nat) (old ps rest : List (List UInt8)) (ho : old.length = ps.length) (hs : At w a ps) (hR : Row w H (old ++ rest)) (cap : Nat) :
    ∃ w', (Builtin.copy_ #[23, 23] 3 #[.slice (some ⟨H, 0, none⟩) ps.length cap, .slice a ps.length cap']).run Tryz.prog w = .ok (goInt ps.length) w' ∧ Row w' H (ps ++ rest) ∧ But H w w' := by
  by_cases h0 : ps.length = 0
  · obtain rfl : ps = [] := List.length_eq_zero_iff.1 h0
    obtain rfl : old = [] := List.length_eq_zero_iff.1 (by omega)
    exact ⟨w, run_copy_none (P := Tryz.prog) w _ _ _ 9 _ _ _ _ _ _ Tryz.underlying23 infoS1 (by simp), by simpa using hR, But.refl _ _⟩
  · obtain ⟨x, rfl, hx, _⟩ := hs 0 _ (List.getElem?_eq_getElem (by omega))
    have h := run_copy_row (P := Tryz.prog) w 23 23 3 9 H 0 ps.length cap x ps.length cap' _ 9 (svs ps) Tryz.underlying23 infoS1 hR
      (by rw [svs_length]; exact (Nat.min_self _).symm) (fun j u hu => by
        simp only [svs, List.getElem?_map, Option.map_eq_some_iff] at hu
        obtain ⟨p, hp, rfl⟩ := hu
        obtain ⟨y, hy, _, hc⟩ := hs j p hp
        cases hy
        exact hc) (by simp [svs]; omega) (fun u hu => svs_one' hu)
    refine ⟨_, h.trans (by rw [svs_length]), ?_, (But.refl _ _).setRow _⟩
    unfold Row
    rw [setRow_heap _ _ _ _ _ _ hR]
    refine congrArg (fun A => some (Obj.cells A 9 (0, 0))) ?_
    simp [svs, ho]
theorem tok_map {ps : List (List (List UInt8))} (h : ∀ p ∈ ps, p.length ≤ 41) : ∀ W ∈ ps.map svs, TOK W := fun W hW => by
  obtain ⟨p, hp, rfl⟩ := List.mem_map.1 hW
  exact ⟨by rw [svs_length]; have := h p hp; omega, p, rfl⟩
theorem LL_ge {B : Nat} {w : World} {v : Value} {ps : List (List (List UInt8))} (h : LL B w v ps) : ∀ c, v.ownBlock = some c → B ≤ c := by
  obtain ⟨_, _, _, _, h3⟩ := h
  exact fun c hc => (h3 c hc).1
theorem rowT_pre {w : World} {g : Nat} {L M : List (List UInt8)} (h : Row w g (L ++ M)) : At w (some ⟨g, 0, none⟩) L := by
  have := h.at.take L.length
  rwa [List.take_left] at this
set_option maxRecDepth 100000 in
set_option maxHeartbeats 8000000 in
theorem expands13_any {B0 X : Nat} {m w : World} {ρ : Nat → Nat} {vh vw : Value} {hT wT : List Value} {WT : List (List Value)} (d : Bd B0 X m ρ w vh vw (.slice none 0 0) (.slice none 0 0) hT wT [] [] WT []) (Z : ∀ w', Below B0 m w' → Tb w') (cs : List Int) (H R : List (List UInt8)) (n k l : Nat) (hn : cs.length = n) (hk : H.length = k) (hl : R.length = l) (ln : n ≤ 17592186043904) (lk : k ≤ 8796093021952) (ll : l ≤ 8796093021952) (lT : WT.length + 3 * min 63 (n - 1) ≤ 890)
    (hs : ∀ x ∈ H, x.length ≤ 140737488355000) (ac ah ar : Option Addr) (cc chp cr : Nat) (hA : AtIK w ρ ac cs) (hAh : AtK w ρ ah H) (hAr : AtK w ρ ar R) (q1 : k ≤ chp) (q2 : chp ≤ 9223372036854775807) :
    Calls Tryz.prog 6 #[.pointer (some ⟨X, 0, none⟩), ch (.slice ac n cc) (.slice ah k chp), .slice ar l cr] w fun r w' => r = .returned (.bool true) ∧ ∃ WT', Bl B0 X m (.slice none 0 0) (.slice none 0 0) [] [] [] w ρ WT' w' ∧ WT'.length ≤ WT.length + 3 * min 63 (n - 1) ∧ ((∀ W ∈ WT, TOK W) → ∀ W ∈ WT', TOK W) := by
  have b0 := (Below.refl w.heap.size w).alloc (Nat.le_refl _) (.cells #[.slice ac n cc, .slice ah k chp] 25)
  have s0 := ChI.new w (.slice ac n cc) (.slice ah k chp)
  have j1 := hid fun w' (b : Below w.heap.size w w') => lentInts13_any cs ac cc w' (by omega) (hA.at.below b (Nat.le_refl _))
  have j2 := hid fun w' (b : Below w.heap.size w w') => lentTexts13_any H ah chp w' (by omega) (hAh.at.below b (Nat.le_refl _))
  have j3 := hid fun w' (b : Below w.heap.size w w') => lentTexts13_any R ar cr w' (by omega) (hAr.at.below b (Nat.le_refl _))
  unfold Hid at j1 j2 j3
  rw [hn] at j1
  rw [hk] at j2
  rw [hl] at j3
  have j1 := hid j1
  have j2 := hid j2
  have j3 := hid j3
  have HD := hid d
  have HZ := hid Z
  have HA := hid hA
  have HH := hid hAh
  have HR := hid hAr
  have HS := hid hs
  have HN := hid hn
  have HK := hid hk
  have HL := hid hl
  have k1 := j1.out _ b0
  have x0 := s0.c0
  have x1 := s0.c1
  have B0' := hid b0
  have S0 := hid s0
  clear d Z hA hAh hAr hs hn hk hl b0 s0
  have z0 : (n : Int) ≤ (n : Int) + 8 := by omega
  have z1 : (k : Int) ≤ (k : Int) + 8 := by omega
  have z2 : (l : Int) ≤ (l : Int) + 8 := by omega
  go_enter Tryz.func6, Tryz.ntmps6
  go_upto_region 2 with (go_at_call 22; (with_reducible refine k1.mono ?_); rintro r w1 ⟨rfl, R1, b1⟩)
  have B1 := hid (B0'.out.trans (b1.mono B0'.out.size))
  have S1 := hid (S0.out.below b1)
  rw [size_alloc] at R1
  obtain ⟨g4, hg4⟩ : ∃ g4, w.heap.size = g4 := ⟨_, rfl⟩
  obtain ⟨gH, hgH⟩ : ∃ gH, g4 + 1 = gH := ⟨_, rfl⟩
  obtain ⟨gT, hgT⟩ : ∃ gT, w1.heap.size = gT := ⟨_, rfl⟩
  rw [hg4] at S1
  rw [hg4, hgH] at R1
  try rw [hg4]
  try rw [hgH]
  have HG4 := hid hg4
  have HGH := hid hgH
  have HGT := hid hgT
  have HRL1 := hid R1.lt
  have k2 := j2.out _ B1.out
  have y1 := S1.out.c1
  have R1 := hid R1
  clear x0 x1 k1 j1 b1 S0 B0' hg4 hgH hgT
  go_upto_region 3 with (go_at_call 23; (with_reducible refine k2.mono ?_); rintro r w2 ⟨rfl, R2, b2⟩)
  have B2 := hid (B1.out.trans (b2.mono B1.out.size))
  have S2 := hid (S1.out.below b2)
  have R12 := hid (R1.out.below b2 R1.out.lt)
  obtain ⟨gR, hgR⟩ : ∃ gR, w2.heap.size = gR := ⟨_, rfl⟩
  rw [HGT.out] at R2 ⊢
  have HRL2 := hid R2.lt
  have R2 := hid R2
  have k3 := j3.out _ B2.out
  have HGR := hid hgR
  clear y1 k2 j2 b2 S1 B1 R1 hgR
  go_upto_region 4 with (go_at_call 23; (with_reducible refine k3.mono ?_); rintro r w3 ⟨rfl, R3, b3⟩)
  have B3 := hid (B2.out.trans (b3.mono B2.out.size))
  have S3 := hid (S2.out.below b3)
  have R13 := hid (R12.out.below b3 R12.out.lt)
  have R23 := hid (R2.out.below b3 R2.out.lt)
  rw [HGR.out] at R3 ⊢
  have R3 := hid R3
  have y0 := S3.out.c0
  have y1 := S3.out.c1
  clear k3 j3 b3 S2 B2 R12 R2
  go_cut [10] from 45 to 55 (fun v w' => ∃ g, v = .pointer (some ⟨g, 0, none⟩) ∧ w3.heap.size ≤ g ∧ Hid (ChI w' g (.slice (some ⟨gH, 0, none⟩) n (n + 8)) (.slice (some ⟨gT, 0, none⟩) k (k + 8))) ∧ Hid (Below w3.heap.size w3 w'))
  case first =>
    have bA := (Below.refl w3.heap.size w3).alloc (Nat.le_refl _) (.cells #[.slice none 0 0, .slice none 0 0] 25)
    have a0 := (S3.out.below bA).c0
    have a1 := (S3.out.below bA).c1
    have aN := ChI.new w3 (.slice none 0 0) (.slice none 0 0)
    have HaN := hid aN
    have fA := frozen_of_row _ _ 0 _ _ aN
    have fB := frozen_of_row _ _ 1 _ _ aN
    have cA := aN.c0
    have cB := aN.c1
    clear bA aN
    go_region
    all_goals go_wp2
    all_goals go_meet
    all_goals exact ⟨_, rfl, Nat.le_refl _, ChI.new w3 _ _, ((Below.refl w3.heap.size w3).alloc (Nat.le_refl _) _).drew⟩
  case rest =>
  obtain ⟨gB, rfl, hgB, bx, b5⟩ := hcut
  have lH := R13.out.lt
  have l1 : gH < gT := by have := HGT.out; have := HRL1.out; omega
  have l2 : gT < gR := by have := HGR.out; have := HRL2.out; omega
  have l3 := R3.out.lt
  have h4 := HG4.out
  have hH := HGH.out
  have B5 := hid (B3.out.trans (b5.out.mono B3.out.size))
  obtain ⟨ρ5, hρ5⟩ : ∃ ρ5 : Nat → Nat, (fun i => if i < w.heap.size then ρ i else if i = gT then 4001 else 0) = ρ5 := ⟨_, rfl⟩
  have e5 : ∀ i, i < w.heap.size → ρ5 i = ρ i := fun i hi => by rw [← hρ5]; exact if_pos hi
  have r5 : ∀ i, w.heap.size ≤ i → i ≠ gT → ρ5 i = 0 := fun i hi hn => by rw [← hρ5]; show (if i < w.heap.size then ρ i else if i = gT then 4001 else 0) = 0; rw [if_neg (by omega), if_neg hn]
  have t5 : ρ5 gT = 4001 := by rw [← hρ5]; show (if gT < w.heap.size then ρ gT else if gT = gT then 4001 else 0) = 4001; rw [if_neg (by omega), if_pos rfl]
  have D5 := hid (HD.out.below B5.out ρ5 e5)
  have E5 : Hid (Ev wc ρ5 g4 gB gH gT gR ac ah ar cc chp cs H R H) := by
    have q4 : ChI wc g4 (.slice ac n cc) (.slice ah k chp) := S3.out.below b5.out
    have q5 := bx.out
    refine ⟨by rw [HN.out, HK.out]; exact q4, r5 g4 (by omega) (by omega), by rw [HN.out, HK.out]; exact q5, r5 gB (by omega) (by omega), R13.out.below b5.out R13.out.lt, r5 gH (by omega) (by omega), R23.out.below b5.out R23.out.lt, t5, R3.out.below b5.out R3.out.lt, r5 gR (by omega) (by omega), HA.out.stay (stays_below B5.out e5), HH.out.stay (stays_below B5.out e5), HR.out.stay (stays_below B5.out e5)⟩
  have HGTw : Hid (w.heap.size ≤ gT) := by unfold Hid; omega
  have S5 : Hid (Stays w wc ρ ρ5) := stays_below B5.out e5
  clear lH l1 l2 l3 h4 hH hρ5 e5 r5 t5 R13 R23 R3 S3 bx b5 hgB HRL1 HRL2 HG4 HGH HGT HGR y0 y1 HD HA HH HR B3
  obtain ⟨P, hP⟩ : ∃ P, exR cs H = P := ⟨_, rfl⟩
  have HP := hid hP
  have fP := exR_few cs H
  have lP := exR_len cs H
  have i6 := hid fun (w' : World) (T : Tabs w') (A1 : AtI w' (some ⟨gH, 0, none⟩) cs) (A2 : At w' (some ⟨gT, 0, none⟩) H) => expand13_all cs H n k HN HK (some ⟨gH, 0, none⟩) (some ⟨gT, 0, none⟩) (n + 8) (k + 8) w' A1 A2 (by omega) (by omega) T
  rw [hP] at fP lP
  go_upto_region 6 with fail
  have HB5 := hid B5.out.size
  have p0 := E5.out.b10.c0
  have p1 := E5.out.b10.c1
  rw [HN.out] at p0
  rw [HK.out] at p1
  have ix := i6.out wc (HZ.out wc D5.out.bel).t (row_pre E5.out.zH) (rowT_pre E5.out.zT)
  go_upto_region 7 with (go_at_call 17; (refine ix.mono ?_); rintro r w6 ⟨vx, rfl, LL_, bb⟩)
  have HX0 : Hid (∀ c, vx.ownBlock = some c → w.heap.size ≤ c) := fun c hc => Nat.le_trans HB5.out (LL_ge LL_ c hc)
  clear HB5
  rw [HP.out] at LL_
  obtain ⟨vsX, ρ6, X_, ee⟩ := lx_of (ρ := ρ5) LL_ 4002 (WT.length)
  clear LL_
  have D6 := hid (D5.out.below bb ρ6 ee)
  have E6 := hid (E5.out.below bb ee)
  have S6 := hid (stays_trans S5.out (stays_below bb ee))
  have B6 := hid (B5.out.trans (bb.mono B5.out.size))
  have X6 := hid X_
  clear ix bb ee B5 D5 E5 S5 p0 p1 X_
  have p0 := E6.out.b10.c0
  have p1 := E6.out.b10.c1
  rw [HN.out] at p0
  rw [HK.out] at p1
  have ix := i6.out w6 (HZ.out w6 D6.out.bel).t (row_pre E6.out.zH) (rowT_pre E6.out.zT)
  go_upto_region 8 with (go_at_call 17; (refine ix.mono ?_); rintro r w7 ⟨vv, rfl, LL_, bb⟩)
  rw [HP.out] at LL_
  obtain ⟨vsV, ρ7, V_, ee⟩ := lx_of (ρ := ρ6) LL_ 0 (WT.length + P.length)
  clear LL_
  have D7 := hid (D6.out.below bb ρ7 ee)
  have E7 := hid (E6.out.below bb ee)
  have S7 := hid (stays_trans S6.out (stays_below bb ee))
  have X7 := hid (X6.out.below bb ee)
  have B7 := hid (B6.out.trans (bb.mono B6.out.size))
  have V7 := hid V_
  clear ix bb ee B6 D6 E6 S6 X6 p0 p1 V_ i6
  have p0 := E7.out.b4.c0
  have p1 := E7.out.b4.c1
  rw [HN.out] at p0
  rw [HK.out] at p1
  have ix := rexpand13_all cs H n k HN HK ac ah cc chp w7 E7.out.ia.at E7.out.ta.at (by omega) q1 q2
  go_upto_region 9 with (go_at_call 24; (refine ix.mono ?_); rintro r w8 ⟨vy, rfl, LL_, bb⟩)
  rw [HP.out] at LL_
  obtain ⟨vsY, Y_⟩ := lx_ofR (ρ := ρ7) LL_
  obtain ⟨ρ8, hρ⟩ : ∃ ρ, rx ρ7 w7 0 = ρ := ⟨_, rfl⟩
  rw [hρ] at Y_
  have ee : ∀ i, i < w7.heap.size → ρ8 i = ρ7 i := fun i hi => by rw [← hρ]; exact rx_old hi
  clear hρ LL_
  have D8 := hid (D7.out.below bb ρ8 ee)
  have E8 := hid (E7.out.below bb ee)
  have S8 := hid (stays_trans S7.out (stays_below bb ee))
  have X8 := hid (X7.out.below bb ee)
  have V8 := hid (V7.out.below bb ee)
  have B8 := hid (B7.out.trans (bb.mono B7.out.size))
  have Y8 := hid Y_
  clear ix bb ee B7 D7 E7 S7 X7 V7 p0 p1 Y_
  have p0 := E8.out.b10.c0
  have p1 := E8.out.b10.c1
  rw [HN.out] at p0
  rw [HK.out] at p1
  have ix := checkC_any cs H R n k l HN HK HL (some ⟨gH, 0, none⟩) (some ⟨gT, 0, none⟩) (some ⟨gR, 0, none⟩) (n + 8) (k + 8) (l + 8) w8 (row_pre E8.out.zH) (rowT_pre E8.out.zT) (rowT_pre E8.out.zR) (HZ.out w8 D8.out.bel).t (by omega) (by omega) (by omega)
  go_upto_region 10 with (go_at_call 19; (refine ix.mono ?_); rintro r w9 ⟨rfl, bb⟩)
  obtain ⟨ρ9, hρ⟩ : ∃ ρ, rx ρ8 w8 0 = ρ := ⟨_, rfl⟩
  have ee : ∀ i, i < w8.heap.size → ρ9 i = ρ8 i := fun i hi => by rw [← hρ]; exact rx_old hi
  clear hρ
  have D9 := hid (D8.out.below bb ρ9 ee)
  have E9 := hid (E8.out.below bb ee)
  have S9 := hid (stays_trans S8.out (stays_below bb ee))
  have X9 := hid (X8.out.below bb ee)
  have V9 := hid (V8.out.below bb ee)
  have Y9 := hid (Y8.out.below bb ee)
  have B9 := hid (B8.out.trans (bb.mono B8.out.size))
  clear ix bb ee B8 D8 E8 S8 X8 V8 Y8 p0 p1
  have p0 := E9.out.b4.c0
  have p1 := E9.out.b4.c1
  rw [HN.out] at p0
  rw [HK.out] at p1
  have ix := rCheck_any cs H R n k l HN HK HL ac ah ar cc chp cr w9 E9.out.ia.at E9.out.ta.at E9.out.ra.at q1 q2 (by omega) (by omega) (by omega)
  go_upto_region 11 with (go_at_call 25; (refine ix.mono ?_); rintro r w10 ⟨rfl, bb⟩)
  obtain ⟨ρ10, hρ⟩ : ∃ ρ, rx ρ9 w9 0 = ρ := ⟨_, rfl⟩
  have ee : ∀ i, i < w9.heap.size → ρ10 i = ρ9 i := fun i hi => by rw [← hρ]; exact rx_old hi
  clear hρ
  have D10 := hid (D9.out.below bb ρ10 ee)
  have E10 := hid (E9.out.below bb ee)
  have S10 := hid (stays_trans S9.out (stays_below bb ee))
  have X10 := hid (X9.out.below bb ee)
  have V10 := hid (V9.out.below bb ee)
  have Y10 := hid (Y9.out.below bb ee)
  have B10 := hid (B9.out.trans (bb.mono B9.out.size))
  clear ix bb ee B9 D9 E9 S9 X9 V9 Y9 p0 p1
  have p0 := E10.out.b4.c0
  have p1 := E10.out.b4.c1
  rw [HN.out] at p0
  rw [HK.out] at p1
  have ik := keptInts13_any cs gH (n + 8) ac cc w10 (by rw [HN.out]; omega) E10.out.zH E10.out.ia.at
  rw [HN.out] at ik
  have ix := ik
  go_upto_region 12 with (go_at_call 26; (refine ix.mono ?_); rintro r w11 ⟨rfl, bb, _⟩)
  obtain ⟨ρ11, hρ⟩ : ∃ ρ, rx ρ10 w10 0 = ρ := ⟨_, rfl⟩
  have ee : ∀ i, i < w10.heap.size → ρ11 i = ρ10 i := fun i hi => by rw [← hρ]; exact rx_old hi
  clear hρ
  have D11 := hid (D10.out.below bb ρ11 ee)
  have E11 := hid (E10.out.below bb ee)
  have S11 := hid (stays_trans S10.out (stays_below bb ee))
  have X11 := hid (X10.out.below bb ee)
  have V11 := hid (V10.out.below bb ee)
  have Y11 := hid (Y10.out.below bb ee)
  have B11 := hid (B10.out.trans (bb.mono B10.out.size))
  clear ix bb ee B10 D10 E10 S10 X10 V10 Y10 p0 p1 ik
  have p0 := E11.out.b4.c0
  have p1 := E11.out.b4.c1
  rw [HN.out] at p0
  rw [HK.out] at p1
  have ik := keptTexts13_any H gT (k + 8) ah chp w11 (by rw [HK.out]; omega) E11.out.zT E11.out.ta.at
  rw [HK.out] at ik
  have ix := ik
  go_upto_region 13 with (go_at_call 27; (refine ix.mono ?_); rintro r w12 ⟨rfl, bb, _⟩)
  obtain ⟨ρ12, hρ⟩ : ∃ ρ, rx ρ11 w11 0 = ρ := ⟨_, rfl⟩
  have ee : ∀ i, i < w11.heap.size → ρ12 i = ρ11 i := fun i hi => by rw [← hρ]; exact rx_old hi
  clear hρ
  have D12 := hid (D11.out.below bb ρ12 ee)
  have E12 := hid (E11.out.below bb ee)
  have S12 := hid (stays_trans S11.out (stays_below bb ee))
  have X12 := hid (X11.out.below bb ee)
  have V12 := hid (V11.out.below bb ee)
  have Y12 := hid (Y11.out.below bb ee)
  have B12 := hid (B11.out.trans (bb.mono B11.out.size))
  clear ix bb ee B11 D11 E11 S11 X11 V11 Y11 p0 p1 ik
  have ik := keptTexts13_any R gR (l + 8) ar cr w12 (by rw [HL.out]; omega) E12.out.zR E12.out.ra.at
  rw [HL.out] at ik
  have ix := ik
  go_upto_region 14 with (go_at_call 27; (refine ix.mono ?_); rintro r w13 ⟨rfl, bb, _⟩)
  obtain ⟨ρ13, hρ⟩ : ∃ ρ, rx ρ12 w12 0 = ρ := ⟨_, rfl⟩
  have ee : ∀ i, i < w12.heap.size → ρ13 i = ρ12 i := fun i hi => by rw [← hρ]; exact rx_old hi
  clear hρ
  have D13 := hid (D12.out.below bb ρ13 ee)
  have E13 := hid (E12.out.below bb ee)
  have S13 := hid (stays_trans S12.out (stays_below bb ee))
  have X13 := hid (X12.out.below bb ee)
  have V13 := hid (V12.out.below bb ee)
  have Y13 := hid (Y12.out.below bb ee)
  have B13 := hid (B12.out.trans (bb.mono B12.out.size))
  clear ix bb ee B12 D12 E12 S12 X12 V12 Y12 ik
  have ix := lists13_lx X13.out Y13.out ⟨by omega, fun p hp => by have := fP.2 p hp; omega⟩
  go_upto_region 15 with (go_at_call 28; (refine ix.mono ?_); rintro r w14 ⟨rfl, bb⟩)
  obtain ⟨ρ14, hρ⟩ : ∃ ρ, rx ρ13 w13 0 = ρ := ⟨_, rfl⟩
  have ee : ∀ i, i < w13.heap.size → ρ14 i = ρ13 i := fun i hi => by rw [← hρ]; exact rx_old hi
  clear hρ
  have D14 := hid (D13.out.below bb ρ14 ee)
  have E14 := hid (E13.out.below bb ee)
  have S14 := hid (stays_trans S13.out (stays_below bb ee))
  have X14 := hid (X13.out.below bb ee)
  have V14 := hid (V13.out.below bb ee)
  have Y14 := hid (Y13.out.below bb ee)
  have B14 := hid (B13.out.trans (bb.mono B13.out.size))
  clear ix bb ee B13 D13 E13 S13 X13 V13 Y13
  have ix := lists13_lx V14.out Y14.out ⟨by omega, fun p hp => by have := fP.2 p hp; omega⟩
  go_upto_region 16 with (go_at_call 28; (refine ix.mono ?_); rintro r w15 ⟨rfl, bb⟩)
  obtain ⟨ρ15, hρ⟩ : ∃ ρ, rx ρ14 w14 0 = ρ := ⟨_, rfl⟩
  have ee : ∀ i, i < w14.heap.size → ρ15 i = ρ14 i := fun i hi => by rw [← hρ]; exact rx_old hi
  clear hρ
  have D15 := hid (D14.out.below bb ρ15 ee)
  have E15 := hid (E14.out.below bb ee)
  have S15 := hid (stays_trans S14.out (stays_below bb ee))
  have X15 := hid (X14.out.below bb ee)
  have V15 := hid (V14.out.below bb ee)
  have Y15 := hid (Y14.out.below bb ee)
  have B15 := hid (B14.out.trans (bb.mono B14.out.size))
  clear ix bb ee B14 D14 E14 S14 X14 V14 Y14
  obtain ⟨N, hN⟩ : ∃ N, P.length = N := ⟨_, rfl⟩
  have HNP := hid hN
  obtain ⟨eE, hE⟩ : ∃ e, exE cs H = e := ⟨_, rfl⟩
  obtain ⟨eC, hC⟩ : ∃ e, ckO cs H R = e := ⟨_, rfl⟩
  have m0 : (eE != eE) = false := by simp
  have m1 : (eC != eC) = false := by simp
  have m2 : (eE == eE) = true := by simp
  have m3 : (eC == eC) = true := by simp
  rw [hE]
  rw [hC]
  clear hE hC
  obtain ⟨ax, cx, hvx⟩ := X15.out.shape
  subst hvx
  rw [hN] at X15 HX0 ⊢
  have lN : N ≤ 63 ∧ N ≤ n - 1 := by have := HN.out; omega
  clear hN
  have ix := lists13_book D15.out X15.out Y15.out (.inr (.inr (by omega))) (.inl rfl) (by have := HNP.out; omega)
  go_upto_region 19 with (go_at_call 29; (refine ix.mono ?_); rintro r w16 ⟨rfl, ρ16, vh16, vw16, hT16, wT16, d16, s16⟩)
  have D16 := hid d16
  have E16 := hid (E15.out.stay s16)
  have X16 := hid (X15.out.stay s16 (.inr (.inr (by omega))) (fun i hi => .inr (.inl (by have := HNP.out; omega))))
  have V16 := hid (V15.out.stay s16 (.inl rfl) (fun i hi => .inr (.inl (by have := HNP.out; omega))))
  have Y16 := hid (Y15.out.stay s16 (.inl rfl) (fun i hi => .inl rfl))
  have S16 := hid (stays_trans S15.out s16)
  clear ix D15 E15 S15 X15 V15 Y15 d16 s16 m0 m1 m2 m3
  have WX0 := hid (Wx.start (b := w.heap.size) X16.out HX0.out)
  unfold Hid at WX0
  rw [HNP.out] at WX0
  have WX0 := hid WX0
  go_wp2
  go_loopw [25] (fun i w' => ∃ j : Nat, j ≤ N ∧ i = .int .i64 (j : Int) ∧ Hid (Wx w.heap.size w16 ρ16 w' ρ16 (.slice ax N cx) N)) (fun i _ => N - (intOf i).toNat)
  case atStart => exact ⟨0, by omega, rfl, WX0⟩
  case round =>
    clear WX0 X16
    obtain ⟨j, hj, rfl, hW⟩ := hrel
    by_cases hjN : j < N
    · have b0 : (j : Int) < (N : Int) := by omega
      have j0 : (0 : Int) ≤ (j : Int) := by omega
      obtain ⟨g, c, eg, W2, ⟨y, hy⟩, hf⟩ := hW.out.put hjN
      injection eg with eg _ ec
      clear ec
      subst eg
      have W2 := hid W2
      clear hW
      go_wp2
      exact ⟨⟨j + 1, by omega, by go_num, W2⟩, by simp [intOf]; omega⟩
    · have b0 : ¬ (j : Int) < (N : Int) := by omega
      go_wp2
      go_loopw [12, 26] (fun x i w' => ∃ (j : Nat) (ρ' : Nat → Nat), j ≤ 4 ∧ i = .int .i64 (j : Int) ∧ Hid (Wx w.heap.size w16 ρ16 w' ρ' x (N + j))) (fun _ i _ => 4 - (intOf i).toNat)
      case atStart => exact ⟨0, ρ16, by omega, rfl, hW⟩
      case round =>
        clear hW hj hjN b0
        obtain ⟨j, ρ17, hj, rfl, hW⟩ := hrel
        by_cases hj4 : j < 4
        · have b0 : (j : Int) < 4 := by omega
          obtain ⟨v', w', hap, W3⟩ := hW.out.grow (by omega) S16.out.2.1
          have W3 := hid W3
          clear hW
          go_wp2_with (at_builtin; go_must (refine Lib.wpList_append_run _ rfl _ _ 28 28 rfl _ _ rfl rfl _ _ hap ?_))
          exact ⟨⟨j + 1, _, by omega, by go_num, W3⟩, by simp [intOf]; omega⟩
        · have b0 : ¬ (j : Int) < 4 := by omega
          obtain ⟨w17, hw17⟩ : ∃ w17, wr = w17 := ⟨_, rfl⟩
          rw [hw17] at hW ⊢
          have sW := hW.out.1
          have oW := hW.out.2.1
          have D17 := hid (bd_wr D16.out sW (by omega) oW.1 oW.2.1 oW.2.2)
          have E17 := hid (E16.out.wr sW)
          have V17 := hid (V16.out.wr sW (by omega) (fun i hi => by have := HNP.out; omega))
          have Y17 := hid (Y16.out.wr sW (by omega) (fun i hi => by omega))
          have S17 := hid (Writes.stays S16.out sW)
          clear hW sW oW S16 D16 E16 V16 Y16 hw17 hj hj4
          have ix := lists13_lx V17.out Y17.out ⟨by have := HNP.out; omega, fun p hp => by have := fP.2 p hp; omega⟩
          go_upto_region 28 with (go_at_call 28; (refine ix.mono ?_); rintro r w18 ⟨rfl, bb⟩)
          have b18 := hid bb
          obtain ⟨ρ18, hρ⟩ : ∃ ρ, rx ρ17 w17 0 = ρ := ⟨_, rfl⟩
          have ee : ∀ i, i < w17.heap.size → ρ18 i = ρ17 i := fun i hi => by rw [← hρ]; exact rx_old hi
          have D18 := hid (D17.out.below bb ρ18 ee)
          have E18 := hid (E17.out.below bb ee)
          have V18 := hid (V17.out.below bb ee)
          have Y18 := hid (Y17.out.below bb ee)
          have S18 := hid (stays_trans S17.out (stays_below bb ee))
          clear ix bb ee hρ S17 D17 E17 V17 Y17
          have hWl : (WT ++ P.map svs).length = WT.length + N := by rw [List.length_append, List.length_map, HNP.out]
          have V18' := V18.out
          rw [HNP.out, ← hWl] at V18'
          have ix := lists13_book D18.out V18' Y18.out (.inl rfl) (.inl rfl) (by rw [hWl]; have := HNP.out; omega)
          go_upto_region 31 with (go_at_call 29; (refine ix.mono ?_); rintro r w19 ⟨rfl, ρ19, vh19, vw19, hT19, wT19, d19, s19⟩)
          have D19 := hid d19
          have E19 := hid (E18.out.stay s19)
          have S19 := hid (stays_trans S18.out s19)
          clear ix S18 D18 E18 V18 V18' Y18 d19 s19 b18
          have U1 := E19.out.b4.c1
          rw [HK.out] at U1
          have g4l := lt_of_heap E19.out.b4
          have HU1 := hid U1
          go_wp2
          clear U1
          go_loopw [27, 28] (fun o i w' => ∃ (j : Nat) (L : List (List UInt8)), j ≤ k ∧ i = .int .i64 (j : Int) ∧ Hid (L.length = j ∧ ∀ x ∈ L, x.length = 32) ∧ Hid (Own w' w19.heap.size o (svs L)) ∧ Hid (Below w19.heap.size w19 w')) (fun _ i _ => k - (intOf i).toNat)
          case atStart => exact ⟨0, [], by omega, rfl, ⟨rfl, fun x hx => by cases hx⟩, Own.nil _ _, Below.refl _ _⟩
          case round =>
            obtain ⟨j, L, hj, rfl, hL, hO, hB⟩ := hrel
            have U1 := (hB.out.cell (p := ⟨g4, 1, none⟩) g4l).trans HU1.out
            by_cases hjk : j < k
            · have b0 : (j : Int) < (k : Int) := by omega
              have j0 : (0 : Int) ≤ (j : Int) := by omega
              obtain ⟨s, hs'⟩ : ∃ s, H[j]? = some s := ⟨_, List.getElem?_eq_getElem (by rw [HK.out]; exact hjk)⟩
              obtain ⟨z, rfl, hz, _, hc⟩ := E19.out.ta j s hs'
              have c1 := (hB.out.cell (p := z.add j) (by rw [addr_block]; exact hz)).trans hc
              rw [show sv s = Value.string ⟨s.toArray⟩ from rfl] at c1
              have iH := hash8_any ⟨s.toArray⟩ (by rw [sv_size]; exact HS.out s (List.mem_of_getElem? hs')) wr
              rw [show ((⟨s.toArray⟩ : ByteArray).data.toList) = s from rfl, show sv (Sha.sha s) = Value.string ⟨(Sha.sha s).toArray⟩ from rfl] at iH
              clear hs' hc hz
              go_wp2_with (go_at_call 14; fail)
              refine iH.mono ?_
              rintro r w20 ⟨rfl, b20⟩
              obtain ⟨v', w21, hap, O21, b21⟩ := append_textG w20 w19.heap.size u27 L (Sha.sha s) (hO.out.below b20 (Nat.le_refl _)) (by rw [hL.out.1]; omega) (Nat.le_trans hB.out.size b20.size)
              have O21 := hid O21
              have B21 := hid ((hB.out.trans (b20.mono hB.out.size)).trans b21)
              have L21 : Hid ((L ++ [Sha.sha s]).length = j + 1 ∧ ∀ x ∈ L ++ [Sha.sha s], x.length = 32) := by
                refine ⟨by rw [List.length_append, hL.out.1]; rfl, fun x hx => ?_⟩
                rcases List.mem_append.1 hx with e | e
                · exact hL.out.2 x e
                · rw [List.mem_singleton.1 e]; exact Sha.sha_length _
              clear iH b20 b21 hO hB hL U1 c1
              obtain ⟨a3, c3, hv3⟩ := Own.shape O21.out
              obtain ⟨nn, hnn⟩ : ∃ nn, (svs (L ++ [Sha.sha s])).length = nn := ⟨_, rfl⟩
              rw [hnn] at hv3
              subst hv3
              clear hnn
              go_wp2_with (at_builtin; go_must (refine Lib.wpList_append_run _ rfl _ _ 23 23 rfl _ _ rfl rfl _ _ hap ?_))
              exact ⟨⟨j + 1, _, by omega, by go_num, L21, O21, B21⟩, by simp [intOf]; omega⟩
            · have b0 : ¬ (j : Int) < (k : Int) := by omega
              have hLk : L.length = k := by rw [hL.out.1]; omega
              have HLk := hid hLk
              obtain ⟨wA, hwA⟩ : ∃ wA, wr = wA := ⟨_, rfl⟩
              rw [hwA] at hO hB U1 ⊢
              clear hwA
              have bb := hB.out
              obtain ⟨ρA, hρ⟩ : ∃ ρ, rx ρ19 w19 0 = ρ := ⟨_, rfl⟩
              have ee : ∀ i, i < w19.heap.size → ρA i = ρ19 i := fun i hi => by rw [← hρ]; exact rx_old hi
              have en : ∀ i, w19.heap.size ≤ i → ρA i = 0 := fun i hi => by rw [← hρ]; exact rx_new hi
              have DA := D19.out.below bb ρA ee
              have EA := E19.out.below bb ee
              have SA := stays_trans S19.out (stays_below bb ee)
              obtain ⟨oA, gA⟩ := own_M1 hO.out
              have hsl : (svs L).length = k := by rw [svs_length]; exact hLk
              rw [hsl] at oA
              obtain ⟨aA, cA, hvA, lA1, lA2⟩ := oA.shape
              subst hvA
              have KA : AtK wA ρA aA L := fun i x hx => by
                obtain ⟨g, c, e1, e2, e3⟩ := oA.cell (show (svs L)[i]? = some (sv x) by unfold svs; rw [List.getElem?_map, hx]; rfl)
                injection e1 with e1 _ _
                subst e1
                have hz : ρA g = 0 := en g (gA g rfl)
                exact ⟨⟨g, 0, none⟩, rfl, e3, ⟨by show Kr (ρA g); rw [hz]; exact .inl rfl, by show ρA g < 4001; omega⟩, by rw [Addr.add_mid, Nat.zero_add]; exact e2⟩
              obtain ⟨wB, hcp, zB, btB⟩ := copy_overT wA gT aA cA H L (behind13 8) (by rw [HK.out, hLk]) KA.at EA.zT (k + 8)
              rw [hLk] at hcp
              have gTl := EA.zT.lt
              have sB : Writes 4001 w.heap.size wA wB ρA ρA := ⟨fun _ _ => rfl, btB.size, fun i hi hn => btB.block i hi (fun e => by
                subst e
                rcases hn with hn | hn
                · exact hn EA.rT
                · exact absurd hn (Nat.not_lt.2 HGTw.out))⟩
              have DB := hid (bd_wr DA sB (by omega) btB.os btB.tape btB.output)
              have EB := hid (EA.over sB zB)
              have SB := hid (Writes.stays SA sB)
              have KB := hid (KA.wr sB (by omega))
              have W0 := EA.b10.c1
              rw [HK.out] at W0
              clear hO hB bb hρ ee en DA EA SA oA gA hsl KA zB sB gTl D19 E19 S19 HU1 g4l hj hjk
              have U0 := EB.out.b4.c0
              rw [HN.out] at U0
              go_upto_region 37 with fail
              clear hcp W0
              obtain ⟨gD, hgD⟩ : ∃ gD, wB.heap.size = gD := ⟨_, rfl⟩
              obtain ⟨wC, hwC⟩ : ∃ wC, wB.alloc (.cells #[.slice ac n cc, .slice aA k cA] 25) = wC := ⟨_, rfl⟩
              have bb : Below wB.heap.size wB wC := by rw [← hwC]; exact (Below.refl _ _).alloc (Nat.le_refl _) _
              have QC : Hid (ChI wC gD (.slice ac n cc) (.slice aA k cA)) := by unfold Hid; rw [← hwC, ← hgD]; exact ChI.new wB _ _
              obtain ⟨ρC, hρ⟩ : ∃ ρ, rx ρA wB 0 = ρ := ⟨_, rfl⟩
              have ee : ∀ i, i < wB.heap.size → ρC i = ρA i := fun i hi => by rw [← hρ]; exact rx_old hi
              have DC := hid (DB.out.below bb ρC ee)
              have EC := hid (EB.out.below bb ee)
              have SC := hid (stays_trans SB.out (stays_below bb ee))
              have KC := hid (KB.out.stay (stays_below bb ee))
              have HGD := hid hgD
              have HWC := hid hwC
              clear bb ee hρ DB EB SB KB hgD hwC
              go_upto_region 38 with fail
              try rw [HWC.out]
              try rw [HGD.out]
              clear U0
              obtain ⟨P2, hP2⟩ : ∃ P2, exR cs L = P2 := ⟨_, rfl⟩
              have HP2 := hid hP2
              have fP2 := exR_few cs L
              have lP2 := exR_len cs L
              rw [hP2] at fP2 lP2
              rw [HN.out] at lP2
              clear hP2
              have p0 := EC.out.b10.c0
              have p1 := EC.out.b10.c1
              rw [HN.out] at p0
              rw [HK.out] at p1
              have ix := expand13_all cs L n k HN HLk (some ⟨gH, 0, none⟩) (some ⟨gT, 0, none⟩) (n + 8) (k + 8) wC (row_pre EC.out.zH) (rowT_pre EC.out.zT) (by omega) (by omega) (HZ.out wC DC.out.bel).t
              go_upto_region 39 with (go_at_call 17; (refine ix.mono ?_); rintro r wE1 ⟨vw2, rfl, LL_, bb⟩)
              rw [HP2.out] at LL_
              obtain ⟨vsW, ρE1, W_, ee⟩ := lx_of (ρ := ρC) LL_ 0 (WT.length + N + N)
              clear LL_
              have DE1 := hid (DC.out.below bb ρE1 ee)
              have EE1 := hid (EC.out.below bb ee)
              have SE1 := hid (stays_trans SC.out (stays_below bb ee))
              have KE1 := hid (KC.out.stay (stays_below bb ee))
              have QE1 := hid (QC.out.below bb)
              have WE1 := hid W_
              clear ix bb ee DC EC SC KC QC p0 p1 W_
              have p0 := QE1.out.c0
              have p1 := QE1.out.c1
              have ix := rexpand13_all cs L n k HN HLk ac aA cc cA wE1 EE1.out.ia.at KE1.out.at (by omega) lA1 lA2
              go_upto_region 40 with (go_at_call 24; (refine ix.mono ?_); rintro r wE2 ⟨vz2, rfl, LL_, bb⟩)
              rw [HP2.out] at LL_
              obtain ⟨vsZ, Z_⟩ := lx_ofR (ρ := ρE1) LL_
              obtain ⟨ρE2, hρ⟩ : ∃ ρ, rx ρE1 wE1 0 = ρ := ⟨_, rfl⟩
              rw [hρ] at Z_
              have ee : ∀ i, i < wE1.heap.size → ρE2 i = ρE1 i := fun i hi => by rw [← hρ]; exact rx_old hi
              clear hρ LL_
              have DE2 := hid (DE1.out.below bb ρE2 ee)
              have EE2 := hid (EE1.out.below bb ee)
              have SE2 := hid (stays_trans SE1.out (stays_below bb ee))
              have KE2 := hid (KE1.out.stay (stays_below bb ee))
              have QE2 := hid (QE1.out.below bb)
              have WE2 := hid (WE1.out.below bb ee)
              have ZE2 := hid Z_
              clear ix bb ee DE1 EE1 SE1 KE1 QE1 WE1 p0 p1 Z_
              have p0 := EE2.out.b10.c0
              have p1 := EE2.out.b10.c1
              rw [HN.out] at p0
              rw [HK.out] at p1
              have ix := checkC_any cs L R n k l HN HLk HL (some ⟨gH, 0, none⟩) (some ⟨gT, 0, none⟩) (some ⟨gR, 0, none⟩) (n + 8) (k + 8) (l + 8) wE2 (row_pre EE2.out.zH) (rowT_pre EE2.out.zT) (rowT_pre EE2.out.zR) (HZ.out wE2 DE2.out.bel).t (by omega) (by omega) (by omega)
              go_upto_region 41 with (go_at_call 19; (refine ix.mono ?_); rintro r wE3 ⟨rfl, bb⟩)
              obtain ⟨ρE3, hρ⟩ : ∃ ρ, rx ρE2 wE2 0 = ρ := ⟨_, rfl⟩
              have ee : ∀ i, i < wE2.heap.size → ρE3 i = ρE2 i := fun i hi => by rw [← hρ]; exact rx_old hi
              clear hρ
              have DE3 := hid (DE2.out.below bb ρE3 ee)
              have EE3 := hid (EE2.out.below bb ee)
              have SE3 := hid (stays_trans SE2.out (stays_below bb ee))
              have KE3 := hid (KE2.out.stay (stays_below bb ee))
              have QE3 := hid (QE2.out.below bb)
              have WE3 := hid (WE2.out.below bb ee)
              have ZE3 := hid (ZE2.out.below bb ee)
              clear ix bb ee DE2 EE2 SE2 KE2 QE2 WE2 ZE2 p0 p1
              have p0 := QE3.out.c0
              have p1 := QE3.out.c1
              have ix := rCheck_any cs L R n k l HN HLk HL ac aA ar cc cA cr wE3 EE3.out.ia.at KE3.out.at EE3.out.ra.at lA1 lA2 (by omega) (by omega) (by omega)
              go_upto_region 42 with (go_at_call 25; (refine ix.mono ?_); rintro r wE4 ⟨rfl, bb⟩)
              obtain ⟨ρE4, hρ⟩ : ∃ ρ, rx ρE3 wE3 0 = ρ := ⟨_, rfl⟩
              have ee : ∀ i, i < wE3.heap.size → ρE4 i = ρE3 i := fun i hi => by rw [← hρ]; exact rx_old hi
              clear hρ
              have DE4 := hid (DE3.out.below bb ρE4 ee)
              have EE4 := hid (EE3.out.below bb ee)
              have SE4 := hid (stays_trans SE3.out (stays_below bb ee))
              have KE4 := hid (KE3.out.stay (stays_below bb ee))
              have QE4 := hid (QE3.out.below bb)
              have WE4 := hid (WE3.out.below bb ee)
              have ZE4 := hid (ZE3.out.below bb ee)
              clear ix bb ee DE3 EE3 SE3 KE3 QE3 WE3 ZE3 p0 p1
              have ix := lists13_lx WE4.out ZE4.out ⟨by omega, fun p hp => by have := fP2.2 p hp; omega⟩
              go_upto_region 43 with (go_at_call 28; (refine ix.mono ?_); rintro r wE5 ⟨rfl, bb⟩)
              obtain ⟨ρE5, hρ⟩ : ∃ ρ, rx ρE4 wE4 0 = ρ := ⟨_, rfl⟩
              have ee : ∀ i, i < wE4.heap.size → ρE5 i = ρE4 i := fun i hi => by rw [← hρ]; exact rx_old hi
              clear hρ
              have DE5 := hid (DE4.out.below bb ρE5 ee)
              have EE5 := hid (EE4.out.below bb ee)
              have SE5 := hid (stays_trans SE4.out (stays_below bb ee))
              have KE5 := hid (KE4.out.stay (stays_below bb ee))
              have QE5 := hid (QE4.out.below bb)
              have WE5 := hid (WE4.out.below bb ee)
              have ZE5 := hid (ZE4.out.below bb ee)
              clear ix bb ee DE4 EE4 SE4 KE4 QE4 WE4 ZE4
              have hWl : (WT ++ P.map svs ++ P.map svs).length = WT.length + N + N := by rw [List.length_append, List.length_append, List.length_map, HNP.out]
              have W_ := WE5.out
              rw [← hWl] at W_
              have ix := lists13_book DE5.out W_ ZE5.out (.inl rfl) (.inl rfl) (by rw [hWl]; omega)
              obtain ⟨eE, hE⟩ : ∃ e, exE cs L = e := ⟨_, rfl⟩
              obtain ⟨eC, hC⟩ : ∃ e, ckO cs L R = e := ⟨_, rfl⟩
              rw [hE]
              rw [hC]
              have m2 : (eE == eE) = true := by simp
              have m3 : (eC == eC) = true := by simp
              clear hE hC
              go_upto_region 44 with (go_at_call 29; (refine ix.mono ?_); rintro r wF ⟨rfl, ρF, vhF, vwF, hTF, wTF, dF, sF⟩)
              have SF := hid (stays_trans SE5.out sF)
              have DF := hid dF
              clear ix W_ DE5 EE5 SE5 KE5 QE5 WE5 ZE5 dF sF
              go_wp2
              go_ret
              refine ⟨rfl, _, ⟨ρF, vhF, vwF, hTF, wTF, DF.out, SF.out⟩, ?_, fun hTx W hW => ?_⟩
              · have := HNP.out
                simp only [List.length_append, List.length_map]
                omega
              · rcases List.mem_append.1 hW with e | e
                · rcases List.mem_append.1 e with e | e
                  · rcases List.mem_append.1 e with e | e
                    · exact hTx W e
                    · exact tok_map fP.2 W e
                  · exact tok_map fP.2 W e
                · exact tok_map fP2.2 W e
end Gb
end Chn
end Go.Proofs.YtenklmjeeejfdaaGreatDoor
