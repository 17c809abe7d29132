import Derived.Test.YtenklmjeeejfdaaGreatDoorPkCG7
import Derived.Deep.DeepCutAuto
import Derived.Test.YtenklmjeeejfdaaGreatDoorPkI1
import Derived.Test.YtenklmjeeejfdaaGreatDoorPkO2
import Derived.Lib.SmallJoins
import Derived.Test.YtenklmjeeejfdaaGreatDoorPkCP6
/- Layer 13, the law: ChainExpands (written by genCX12.py) -/
namespace Go.Proofs.YtenklmjeeejfdaaGreatDoor
open Go.RowKit Go.Shelf
namespace Chn
namespace Gb
structure Ib (B0 X : Nat) (m w : World) (ρ : Nat → Nat) (t g4 : Nat) (ac ah ar ae : Option Addr) (n k cc chp : Nat) (cs : List Int) (H R E : List (List UInt8)) : Prop where
  s : Xs B0 X m w ρ t
  q : ChI w g4 (.slice ac n cc) (.slice ah k chp)
  r4 : ρ g4 = 0
  a1 : AtIK w ρ ac cs
  a2 : AtK w ρ ah H
  a3 : AtK w ρ ar R
  a4 : AtK w ρ ae E
theorem Ib.step {B0 X t t' g4 n k cc chp : Nat} {m w w' : World} {ρ ρ' : Nat → Nat} {ac ah ar ae : Option Addr} {cs : List Int} {H R E : List (List UInt8)} (i : Ib B0 X m w ρ t g4 ac ah ar ae n k cc chp cs H R E) (sx : Stays w w' ρ ρ') (s : Xs B0 X m w' ρ' t') : Ib B0 X m w' ρ' t' g4 ac ah ar ae n k cc chp cs H R E :=
  ⟨s, (sx.ch i.q i.r4).1, (sx.ch i.q i.r4).2, i.a1.stay sx, i.a2.stay sx, i.a3.stay sx, i.a4.stay sx⟩
set_option maxRecDepth 100000 in
set_option maxHeartbeats 8000000 in
theorem chainExpands13 (cs : List Int) (H R E : List (List UInt8)) (wh : Int) (n k l e : Nat) (hn : Hid (cs.length = n)) (hk : Hid (H.length = k)) (hl : Hid (R.length = l)) (he : Hid (E.length = e)) (ln : n ≤ 17592186043904) (lk : k ≤ 8796093021952) (ll : l ≤ 8796093021952) (hw : -9223372036854775808 ≤ wh ∧ wh ≤ 9223372036854775807)
    (hr : ∀ c ∈ cs, -9223372036854775808 ≤ c ∧ c ≤ 9223372036854775807) (sH : ∀ x ∈ H, x.length ≤ 140737488355000) (sR : ∀ x ∈ R, x.length ≤ 140737488355000) (sE : ∀ x ∈ E, x.length ≤ 140737488355000) (ac ah ar ae : Option Addr) (cc chp cr ce : Nat) (q1 : k ≤ chp) (q2 : chp ≤ 9223372036854775807) (w : World) (hA : AtI w ac cs) (hH : At w ah H) (hR : At w ar R) (hE : At w ae E) (Z : Tb w) :
    Calls Tryz.prog 3 #[ch (.slice ac n cc) (.slice ah k chp), .slice ar l cr, .slice ae e ce, .int .i64 wh] w fun r w' => r = .returned (.bool true) ∧ Below w.heap.size w w' := by
  have b0 := (Below.refl w.heap.size w).alloc (Nat.le_refl _) (.cells #[.slice ac n cc, .slice ah k chp] 25)
  have s0 := ChI.new w (.slice ac n cc) (.slice ah k chp)
  have i1 := known13_any (w.alloc (.cells #[.slice ac n cc, .slice ah k chp] 25)) (Z.below b0 Z.lt).t
  have B0' := hid b0
  have S0 := hid s0
  have HA := hid hA
  have HH := hid hH
  have HR := hid hR
  have HE := hid hE
  have HZ0 := hid Z
  have SH := hid sH
  have SR := hid sR
  have SE := hid sE
  have HC := hid hr
  clear b0 s0 hA hH hR hE Z sH sR sE hr
  go_enter Tryz.func3, Tryz.ntmps3
  go_upto_region 2 with (go_at_call 4; refine i1.mono ?_; rintro r w1 ⟨rfl, b1⟩)
  have B1 := hid (B0'.out.trans (b1.mono B0'.out.size))
  have Q1 := hid (S0.out.below b1)
  have X2 := xs_start w w1 B1.out
  obtain ⟨w2, hw2⟩ : ∃ w2, w1.alloc (.cells #[.slice none 0 0, .slice none 0 0, .slice none 0 0, .slice none 0 0, .slice none 0 0, .slice none 0 0, .slice none 0 0, .slice none 0 0, .slice none 0 0] 32) = w2 := ⟨_, rfl⟩
  obtain ⟨X, hX⟩ : ∃ X, w1.heap.size = X := ⟨_, rfl⟩
  obtain ⟨ρ2, hρ⟩ : ∃ ρ2 : Nat → Nat, (fun i => if i = X then 1 else 0) = ρ2 := ⟨_, rfl⟩
  have bA : Below w1.heap.size w1 w2 := by rw [← hw2]; exact (Below.refl _ _).alloc (Nat.le_refl _) _
  have B2 := B1.out.trans (bA.mono B1.out.size)
  have lw : w.heap.size < X := by rw [← hX]; exact lt_of_heap Q1.out
  have z2 : ∀ i, i < X → ρ2 i = 0 := fun i hi => by rw [← hρ]; exact if_neg (by omega)
  rw [hX, hw2, hρ] at X2
  have HZ : Hid (∀ w', Below w.heap.size w2 w' → Tb w') := fun w' b => HZ0.out.below (B2.trans b) HZ0.out.lt
  have ka : ∀ {a : Option Addr} {T : List (List UInt8)}, At w a T → AtK w2 ρ2 a T := fun h j p hp => by
    obtain ⟨x, e, h1, h2⟩ := h j p hp
    have hz : ρ2 x.block = 0 := z2 _ (by omega)
    exact ⟨x, e, Nat.lt_of_lt_of_le h1 B2.size, ⟨by rw [hz]; exact .inl rfl, by omega⟩, (B2.cell (p := x.add j) (by rw [addr_block]; exact h1)).trans h2⟩
  have ki : AtIK w2 ρ2 ac cs := fun j p hp => by
    obtain ⟨x, e, h1, h2⟩ := HA.out j p hp
    have hz : ρ2 x.block = 0 := z2 _ (by omega)
    exact ⟨x, e, Nat.lt_of_lt_of_le h1 B2.size, ⟨by rw [hz]; exact .inl rfl, by omega⟩, (B2.cell (p := x.add j) (by rw [addr_block]; exact h1)).trans h2⟩
  obtain ⟨g4, hg4⟩ : ∃ g4, w.heap.size = g4 := ⟨_, rfl⟩
  have Q2 : ChI w2 g4 (.slice ac n cc) (.slice ah k chp) := by rw [← hg4]; exact Q1.out.below bA
  have I2 : Hid (Ib w.heap.size X w2 w2 ρ2 0 g4 ac ah ar ae n k cc chp cs H R E) := ⟨X2, Q2, z2 g4 (by omega), ki, ka HH.out, ka HR.out, ka HE.out⟩
  have BW2 := hid B2
  have HX := hid hX
  have HW2 := hid hw2
  have HG4 := hid hg4
  clear b1 B1 Q1 X2 bA B2 z2 ka ki Q2 hρ S0 B0' HA HH HR HE i1 hX hw2 hg4
  go_upto_region 3 with fail
  try rw [HX.out]
  try rw [HW2.out]
  try rw [HG4.out]
  have p0 := I2.out.q.c0
  have ix := few13_any cs n hn ac cc w2 (by omega) I2.out.a1.at
  go_upto_region 5 with (go_at_call 5; (refine ix.mono ?_); rintro r w4 ⟨⟨fb, rfl⟩, bb⟩)
  obtain ⟨ρ4, hρ⟩ : ∃ ρ, rx ρ2 w2 0 = ρ := ⟨_, rfl⟩
  have ee : ∀ i, i < w2.heap.size → ρ4 i = ρ2 i := fun i hi => by rw [← hρ]; exact rx_old hi
  have en : ∀ i, w2.heap.size ≤ i → ρ4 i = 0 := fun i hi => by rw [← hρ]; exact rx_new hi
  have sx : Stays w2 w4 ρ2 ρ4 := stays_below bb ee
  have I4 := hid (I2.out.step sx (I2.out.s.below bb ee))
  clear ix sx I2  bb ee en hρ p0
  go_upto_if 43 with fail
  go_cut [11] from 44 to 47 (fun v w' => v = .bool true ∧ Hid (∃ ρ', Ib w.heap.size X w2 w' ρ' 189 g4 ac ah ar ae n k cc chp cs H R E))
  case first =>
    cases fb with
    | false =>
      go_wp2
      go_meet
      exact ⟨rfl, ρ4, I4.out.step (stays_below (Below.refl _ _) (fun _ _ => rfl)) (I4.out.s.wide (by omega))⟩
    | true =>
      have p0 := I4.out.q.c0
      have p1 := I4.out.q.c1
      have ix := I4.out.s.expands HZ.out cs H R n k l hn.out hk.out hl.out ln lk ll (by omega) SH.out ac ah ar cc chp cr I4.out.a1 I4.out.a2 I4.out.a3 q1 q2
      go_wp2_with (go_at_call 6; (refine ix.mono ?_); rintro r w5 ⟨rfl, ρ5, S5, sx⟩)
      go_meet
      exact ⟨rfl, ρ5, I4.out.step sx (S5.wide (by omega))⟩
  case rest =>
  obtain ⟨rfl, I5⟩ := hcut
  obtain ⟨w5, hw5⟩ : ∃ w5, wc = w5 := ⟨_, rfl⟩
  rw [hw5] at I5 ⊢
  obtain ⟨ρ5, I5⟩ := I5.out
  have I5 := hid I5
  clear I4 hw5
  have p0 := I5.out.q.c0
  have ix := rising13_any cs 60 20 (by omega) (by omega) (by omega) (by omega) n hn (by omega) ac cc w5 I5.out.a1.at HC.out
  go_upto_region 8 with (go_at_call 7; (refine ix.mono ?_); rintro r w6 ⟨vl, hs, rfl, ol, HD, hx60, hle, gl, bb⟩)
  obtain ⟨ρ6, hρ⟩ : ∃ ρ, rx ρ5 w5 0 = ρ := ⟨_, rfl⟩
  have ee : ∀ i, i < w5.heap.size → ρ6 i = ρ5 i := fun i hi => by rw [← hρ]; exact rx_old hi
  have en : ∀ i, w5.heap.size ≤ i → ρ6 i = 0 := fun i hi => by rw [← hρ]; exact rx_new hi
  have sx : Stays w5 w6 ρ5 ρ6 := stays_below bb ee
  have Oi_ : Oi w6 ρ6 vl hs := ⟨ol, fun b hb => en b (gl b hb)⟩
  obtain ⟨al, cl, el, ka⟩ := Oi_.atK
  subst el
  have Oi6 := hid Oi_
  have HDS := hid HD
  have I6 := hid (I5.out.step sx (I5.out.s.below bb ee))
  clear ix sx I5  bb ee en hρ p0 ol gl Oi_ ka HD
  obtain ⟨nl, hnl⟩ : ∃ nl, hs.length = nl := ⟨_, rfl⟩
  have HNL := hid hnl
  have HNX : Hid ((ix hs).length = nl) := by unfold Hid; rw [ix_len]; exact hnl
  rw [hnl] at hle ⊢
  clear hnl
  have mB : mayB (ix hs) = true := hds_mayB HDS.out
  have hE0 : ndE (ix hs) = 0 := by unfold ndE; rw [if_pos mB]
  have hL0 : ndL (ix hs) = told hs := by unfold ndL; rw [if_pos mB, ix_toN]
  obtain ⟨nt, hnt⟩ : ∃ nt, (told hs).length = nt := ⟨_, rfl⟩
  have lt : nt ≤ 2583 := by rw [← hnt]; exact tol_few HDS.out (by have := HDS.out.ne; omega)
  have HNT := hid hnt
  clear hnt
  have ix := rNodes13_any (ix hs) nl HNX al cl w6 Oi6.out.k.at (by omega)
  go_upto_region 9 with (go_at_call 8; (refine ix.mono ?_); rintro r w7 ⟨bb, vs, rfl, os, gs⟩)
  obtain ⟨ρ7, hρ⟩ : ∃ ρ, rx ρ6 w6 0 = ρ := ⟨_, rfl⟩
  have ee : ∀ i, i < w6.heap.size → ρ7 i = ρ6 i := fun i hi => by rw [← hρ]; exact rx_old hi
  have en : ∀ i, w6.heap.size ≤ i → ρ7 i = 0 := fun i hi => by rw [← hρ]; exact rx_new hi
  have sx : Stays w6 w7 ρ6 ρ7 := stays_below bb ee
  rw [hL0] at os
  obtain ⟨as7, cs7, evs, _, _⟩ := OwnM.shape os
  rw [HNT.out] at evs
  subst evs
  try rw [hE0]
  clear os gs
  have I7 := hid (I6.out.step sx (I6.out.s.below bb ee))
  have Oi7 := hid (Oi6.out.stay sx)
  clear ix sx I6 Oi6 bb ee en hρ
  clear hL0 hE0
  have p1 := I7.out.q.c1
  have ix := hashes13_any H k nt hk SH.out ah chp w7 I7.out.a2.at (by omega) (by omega)
  go_upto_region 13 with (go_at_call 9; (refine ix.mono ?_); rintro r w8 ⟨vh, HS, rfl, lHS, sHS, oHS, bb⟩)
  obtain ⟨ρ8, hρ⟩ : ∃ ρ, rx ρ7 w7 4000 = ρ := ⟨_, rfl⟩
  have ee : ∀ i, i < w7.heap.size → ρ8 i = ρ7 i := fun i hi => by rw [← hρ]; exact rx_old hi
  have en : ∀ i, w7.heap.size ≤ i → ρ8 i = 4000 := fun i hi => by rw [← hρ]; exact rx_new hi
  have sx : Stays w7 w8 ρ7 ρ8 := stays_below bb ee
  have oh_ : Os w8 ρ8 vh HS 4000 := Os.of oHS rfl en
  obtain ⟨ahs, chs, eh, lh1, lh2, kh⟩ := oh_.atK (.inr (.inr (by omega))) (by omega)
  subst eh
  rw [lHS] at lh1 oh_
  try rw [lHS]
  have Oh8 := hid oh_
  have HLH := hid lHS
  have HSH := hid sHS
  have I8 := hid (I7.out.step sx (I7.out.s.below bb ee))
  have Oi8 := hid (Oi7.out.stay sx)
  clear ix sx I7 Oi7 bb ee en hρ p1 oHS oh_ kh lHS sHS
  have ix := hashes13_any R l nl hl SR.out ar cr w8 I8.out.a3.at (by omega) (by omega)
  go_upto_region 14 with (go_at_call 9; (refine ix.mono ?_); rintro r w9 ⟨vr, RS, rfl, lRS, sRS, oRS, bb⟩)
  obtain ⟨ρ9, hρ⟩ : ∃ ρ, rx ρ8 w8 0 = ρ := ⟨_, rfl⟩
  have ee : ∀ i, i < w8.heap.size → ρ9 i = ρ8 i := fun i hi => by rw [← hρ]; exact rx_old hi
  have en : ∀ i, w8.heap.size ≤ i → ρ9 i = 0 := fun i hi => by rw [← hρ]; exact rx_new hi
  have sx : Stays w8 w9 ρ8 ρ9 := stays_below bb ee
  have or_ : Os w9 ρ9 vr RS 0 := Os.of oRS rfl en
  obtain ⟨ars, crs, er, lr1, lr2, kr⟩ := or_.atK (.inl rfl) (by omega)
  subst er
  rw [lRS] at lr1 or_
  try rw [lRS]
  have Or9 := hid or_
  have HLR := hid lRS
  have I9 := hid (I8.out.step sx (I8.out.s.below bb ee))
  have Oi9 := hid (Oi8.out.stay sx)
  have Oh9 := hid (Oh8.out.stay sx (.inr (.inr (by omega))))
  clear ix sx I8 Oi8 Oh8 bb ee en hρ oRS or_ kr lRS sRS
  have ix := I9.out.s.expands HZ.out (ix hs) HS RS nl nt nl HNX.out HLH.out HLR.out (by omega) (by omega) (by omega) (by omega) (fun x hx => by have := HSH.out x hx; omega) al ahs ars cl chs crs Oi9.out.k (Oh9.out.k (.inr (.inr (by omega))) (by omega)) (Or9.out.k (.inl rfl) (by omega)) lh1 lh2
  go_upto_region 15 with (go_at_call 6; (refine ix.mono ?_); rintro r w10 ⟨rfl, ρ10, S_, sx⟩)
  have I10 := hid (I9.out.step sx (S_.wide (t' := 246) (by omega)))
  have Oi10 := hid (Oi9.out.stay sx)
  have Oh10 := hid (Oh9.out.stay sx (.inr (.inr (by omega))))
  have Or10 := hid (Or9.out.stay sx (.inl rfl))
  clear ix sx I9 Oi9 Oh9 Or9 S_
  have v1 : IntKind.i64.wrap ((nt : Int) + 1) = (nt : Int) + 1 := by rw [IntKind.wrap_i64]; omega
  have p1 := I10.out.q.c1
  have ix := hashes13_any H k (nt + 1) hk SH.out ah chp w10 I10.out.a2.at (by omega) (by omega)
  rw [show ((nt + 1 : Nat) : Int) = (nt : Int) + 1 by omega] at ix
  go_wp2_with (go_at_call 9; fail)
  refine ix.mono ?_
  rintro r w11 ⟨vh3, HS3, rfl, lHS3, sHS3, oHS3, bb⟩
  obtain ⟨ρ11, hρ⟩ : ∃ ρ, rx ρ10 w10 0 = ρ := ⟨_, rfl⟩
  have ee : ∀ i, i < w10.heap.size → ρ11 i = ρ10 i := fun i hi => by rw [← hρ]; exact rx_old hi
  have en : ∀ i, w10.heap.size ≤ i → ρ11 i = 0 := fun i hi => by rw [← hρ]; exact rx_new hi
  have sx : Stays w10 w11 ρ10 ρ11 := stays_below bb ee
  have oh_ : Os w11 ρ11 vh3 HS3 0 := Os.of oHS3 rfl en
  obtain ⟨ahs3, chs3, eh, lh31, lh32, kh⟩ := oh_.atK (.inl rfl) (by omega)
  subst eh
  rw [lHS3] at lh31
  try rw [lHS3]
  have Kx11 := hid kh
  have HLH3 := hid lHS3
  have HSH3 := hid sHS3
  have I11 := hid (I10.out.step sx (I10.out.s.below bb ee))
  have Oi11 := hid (Oi10.out.stay sx)
  have Oh11 := hid (Oh10.out.stay sx (.inr (.inr (by omega))))
  have Or11 := hid (Or10.out.stay sx (.inl rfl))
  clear ix sx I10 Oi10 Oh10 Or10 bb ee en hρ p1 oHS3 oh_ kh lHS3 sHS3
  have ix := I11.out.s.expands HZ.out (ix hs) HS3 RS nl (nt + 1) nl HNX.out HLH3.out HLR.out (by omega) (by omega) (by omega) (by omega) (fun x hx => by have := HSH3.out x hx; omega) al ahs3 ars cl chs3 crs Oi11.out.k Kx11.out (Or11.out.k (.inl rfl) (by omega)) lh31 lh32
  go_upto_region 16 with (go_at_call 6; (refine ix.mono ?_); rintro r w12 ⟨rfl, ρ12, S_, sx⟩)
  have I12 := hid (I11.out.step sx (S_.wide (t' := 303) (by omega)))
  have Oi12 := hid (Oi11.out.stay sx)
  have Oh12 := hid (Oh11.out.stay sx (.inr (.inr (by omega))))
  have Or12 := hid (Or11.out.stay sx (.inl rfl))
  have Kx12 := hid (Kx11.out.stay sx)
  clear ix sx I11 Oi11 Oh11 Or11 Kx11 S_ HLH3 HSH3
  have l1 : 1 ≤ nl := by have := HDS.out.ne; have := HNL.out; omega
  have hRl : (RS.drop 1).length = nl - 1 := by rw [List.length_drop, HLR.out]
  have y1 : (1 : Int) ≤ (nl : Int) := by omega
  have y2 : (nl : Int) ≤ (crs : Int) := by omega
  go_cut [21] from 84 to 90 (fun v w' => v = .bool true ∧ Hid (∃ ρ', Xs w.heap.size X w2 w' ρ' 360 ∧ Stays w12 w' ρ12 ρ'))
  case first =>
    have e0 : crs = 1 → AtK w12 ρ12 ars (RS.drop 1) := fun e j p hp => by
      have hz : RS.drop 1 = [] := List.eq_nil_of_length_eq_zero (by rw [hRl]; omega)
      rw [hz] at hp
      cases hp
    have e1 := AtK.tailO (Or12.out.k (.inl rfl) (by omega))
    have ix := fun a2 c2 a2k => I12.out.s.expands HZ.out (ix hs) HS (RS.drop 1) nl nt (nl - 1) HNX.out HLH.out hRl (by omega) (by omega) (by omega) (by omega) (fun x hx => by have := HSH.out x hx; omega) al ahs a2 cl chs c2 Oi12.out.k (Oh12.out.k (.inr (.inr (by omega))) (by omega)) a2k lh1 lh2
    go_wp2_with (go_at_call 6; fail)
    · have e2 := e0 ‹crs = 1›
      have hc1 : crs = 1 := ‹crs = 1›
      clear e0
      subst hc1
      refine (ix _ _ e2).mono ?_
      rintro r w13 ⟨rfl, ρ13, S_, sx⟩
      go_wp2
      go_meet
      exact ⟨rfl, ρ13, S_.wide (by omega), sx⟩
    · refine (ix _ _ e1).mono ?_
      rintro r w13 ⟨rfl, ρ13, S_, sx⟩
      go_wp2
      go_meet
      exact ⟨rfl, ρ13, S_.wide (by omega), sx⟩
  case rest =>
  obtain ⟨rfl, S_⟩ := hcut
  obtain ⟨w13, hw13⟩ : ∃ w13, wc = w13 := ⟨_, rfl⟩
  rw [hw13] at S_ ⊢
  obtain ⟨ρ13, S_, sx⟩ := S_.out
  clear hw13
  have ix := 0
  have I13 := hid (I12.out.step sx S_)
  have Oi13 := hid (Oi12.out.stay sx)
  have Oh13 := hid (Oh12.out.stay sx (.inr (.inr (by omega))))
  have Or13 := hid (Or12.out.stay sx (.inl rfl))
  clear ix sx I12 Oi12 Oh12 Or12 S_
  have ix := trees13_any wh E 60 e he (by omega) ae ce w13 hw.1 hw.2 I13.out.a4.at SE.out (HZ.out _ I13.out.s.bel)
  rw [show ((60 : Nat) : Int) = 60 from rfl] at ix
  go_upto_if 98 with (go_at_call 10; (refine ix.mono ?_); rintro r w14 ⟨qt, q, ht, Lf, Ft, F, rfl, hLf, tt⟩)
  have bb := tt.bel
  have T14 := hid tt.r
  have HLF := hid hLf
  have Hs32 := hid tt.r.hs
  clear ix tt hLf
  obtain ⟨ρ14, hρ⟩ : ∃ ρ, rx ρ13 w13 0 = ρ := ⟨_, rfl⟩
  have ee : ∀ i, i < w13.heap.size → ρ14 i = ρ13 i := fun i hi => by rw [← hρ]; exact rx_old hi
  have en : ∀ i, w13.heap.size ≤ i → ρ14 i = 0 := fun i hi => by rw [← hρ]; exact rx_new hi
  have sx : Stays w13 w14 ρ13 ρ14 := stays_below bb ee
  have I14 := hid (I13.out.step sx (I13.out.s.below bb ee))
  have ix := 0
  have Oi14 := hid (Oi13.out.stay sx)
  have Oh14 := hid (Oh13.out.stay sx (.inr (.inr (by omega))))
  have Or14 := hid (Or13.out.stay sx (.inl rfl))
  clear ix sx I13 Oi13 Oh13 Or13 bb ee en hρ
  obtain ⟨xa, exa⟩ : ∃ x, al = some x := by
    obtain ⟨p, hp⟩ : ∃ p, (ix hs)[0]? = some p := ⟨_, List.getElem?_eq_getElem (by rw [HNX.out]; omega)⟩
    obtain ⟨x, e, _⟩ := Oi14.out.k 0 p hp
    exact ⟨x, e⟩
  subst exa
  have ix := rProve_ok hs HDS.out nl nt HNL HNT T14.out (fun x hx => by rw [HLF.out]; exact hx60 x hx) xa cl Oi14.out.k.at
  go_upto_region 21 with (go_at_call 11; (refine ix.mono ?_); rintro r w15 ⟨ai, ci, ahd, chd, rfl, oi_, gi_, od_, bb⟩)
  clear ix
  obtain ⟨ρ15, hρ⟩ : ∃ ρ, rx ρ14 w14 0 = ρ := ⟨_, rfl⟩
  have ee : ∀ i, i < w14.heap.size → ρ15 i = ρ14 i := fun i hi => by rw [← hρ]; exact rx_old hi
  have en : ∀ i, w14.heap.size ≤ i → ρ15 i = 0 := fun i hi => by rw [← hρ]; exact rx_new hi
  have sx : Stays w14 w15 ρ14 ρ15 := stays_below bb ee
  have oe_ : Oi w15 ρ15 (.slice ai nl ci) hs := ⟨by rw [HNL.out]; exact oi_, fun b hb => en b (gi_ b hb)⟩
  have op_ : Os w15 ρ15 (.slice ahd nt chd) (pvH Lf hs) 0 := Os.of od_ rfl en
  have Oe15 := hid oe_
  have Od15 := hid op_
  have T15 := hid (T14.out.below bb)
  obtain ⟨cd1, cd2⟩ : nt ≤ chd ∧ chd ≤ 9223372036854775807 := by
    obtain ⟨a', c', e', z1, z2, _⟩ := op_.atK (.inl rfl) (by omega)
    injection e' with _ e2 e3
    exact ⟨by omega, by omega⟩
  have I15 := hid (I14.out.step sx (I14.out.s.below bb ee))
  have ix := 0
  have Oi15 := hid (Oi14.out.stay sx)
  have Oh15 := hid (Oh14.out.stay sx (.inr (.inr (by omega))))
  have Or15 := hid (Or14.out.stay sx (.inl rfl))
  clear ix sx I14 Oi14 Oh14 Or14 bb ee en hρ oi_ gi_ od_ oe_ op_ T14
  have bb := (Below.refl w15.heap.size w15).alloc (Nat.le_refl _) (.cells #[.slice ai nl ci, .slice ahd nt chd] 25)
  have qd_ := ChI.new w15 (.slice ai nl ci) (.slice ahd nt chd)
  obtain ⟨g16, hg16⟩ : ∃ g, w15.heap.size = g := ⟨_, rfl⟩
  obtain ⟨w16, hw16⟩ : ∃ w2, w15.alloc (.cells #[.slice ai nl ci, .slice ahd nt chd] 25) = w2 := ⟨_, rfl⟩
  rw [hw16] at bb qd_ ⊢
  rw [show (Value.pointer (some ⟨w15.heap.size, 0, none⟩)) = Value.pointer (some ⟨g16, 0, none⟩) by rw [hg16]]
  have HG16 := hid hg16
  clear hw16 hg16
  obtain ⟨ρ16, hρ⟩ : ∃ ρ, rx ρ15 w15 0 = ρ := ⟨_, rfl⟩
  have ee : ∀ i, i < w15.heap.size → ρ16 i = ρ15 i := fun i hi => by rw [← hρ]; exact rx_old hi
  have en : ∀ i, w15.heap.size ≤ i → ρ16 i = 0 := fun i hi => by rw [← hρ]; exact rx_new hi
  have sx : Stays w15 w16 ρ15 ρ16 := stays_below bb ee
  have qe_ : ChI w16 g16 (.slice ai nl ci) (.slice ahd nt chd) ∧ ρ16 g16 = 0 := ⟨by rw [← HG16.out]; exact qd_, en _ (Nat.le_of_eq HG16.out)⟩
  have Qd16 := hid qe_
  have T16 := hid (T15.out.below bb)
  have I16 := hid (I15.out.step sx (I15.out.s.below bb ee))
  have ix := 0
  have Oi16 := hid (Oi15.out.stay sx)
  have Oh16 := hid (Oh15.out.stay sx (.inr (.inr (by omega))))
  have Or16 := hid (Or15.out.stay sx (.inl rfl))
  have Oe16 := hid (Oe15.out.stay sx)
  have Od16 := hid (Od15.out.stay sx (.inl rfl))
  clear ix sx I15 Oi15 Oh15 Or15 Oe15 Od15 bb ee en hρ qd_ qe_ T15
  go_wp2
  go_loopw [26, 27, 28, 29] (fun v i _ _ w' => ∃ (j : Nat) (RT : List (List UInt8)), j ≤ nl ∧ i = .int .i64 (j : Int) ∧ Hid (RT.length = j ∧ ∀ x ∈ RT, x.length ≤ 32) ∧ Hid (Own w' w16.heap.size v (svs RT)) ∧ Hid (Below w16.heap.size w16 w')) (fun _ i _ _ _ => nl - (intOf i).toNat)
  case atStart => exact ⟨0, [], by omega, rfl, ⟨rfl, fun x hx => by cases hx⟩, Own.nil _ _, Below.refl _ _⟩
  case round =>
    obtain ⟨j, RT, hj, rfl, hR_, hO_, hB_⟩ := hrel
    by_cases hjn : j < nl
    · have b0 : (j : Int) < (nl : Int) := by omega
      have j0 : (0 : Int) ≤ (j : Int) := by omega
      have cj := (Oi16.out.k.at.below hB_.out (Nat.le_refl _)) j _ (ix_at (by rw [HNL.out]; exact hjn))
      obtain ⟨x0, ex0, _, cj⟩ := cj
      obtain rfl := Option.some.inj ex0
      obtain ⟨z, y, hz, hz32⟩ := part_few Lf Hs32.out ((hs.getD j 0 : Nat) : Int)
      have ix := rRoot7_any (T16.out.below hB_.out) ((hs.getD j 0 : Nat) : Int) hz
      generalize hs.getD j 0 = p at *
      have hlen : RT.length ≤ 2000000 := by rw [hR_.out.1]; omega
      rw [show sv z = Value.string ⟨z.toArray⟩ from rfl] at ix
      have fin : ∀ w2, Below wr.heap.size wr w2 → ∃ v' w3, (Builtin.append_ #[23, 23] 23 #[u26, .slice (some ⟨w2.heap.size, 0, none⟩) 1 1]).run Tryz.prog (w2.alloc (.cells #[.string ⟨z.toArray⟩] 9)) = .ok v' w3 ∧ Hid ((RT ++ [z]).length = j + 1 ∧ ∀ x ∈ RT ++ [z], x.length ≤ 32) ∧ Hid (Own w3 w16.heap.size v' (svs (RT ++ [z]))) ∧ Hid (Below w16.heap.size w16 w3) := fun w2 b2 => by
        have B2 := hB_.out.trans (b2.mono hB_.out.size)
        obtain ⟨v', w3, h1, h2, h3⟩ := append_text w2 w16.heap.size u26 RT z (hO_.out.below b2 (Nat.le_refl _)) hlen B2.size
        refine ⟨v', w3, h1, ⟨by rw [List.length_append, hR_.out.1]; rfl, fun x hx => ?_⟩, h2, B2.trans h3⟩
        rcases List.mem_append.1 hx with e | e
        · exact hR_.out.2 x e
        · rw [List.mem_singleton.1 e]; exact hz32
      have HFIN := hid fin
      clear fin hO_ hB_ hR_ hlen hz hz32 ex0
      go_wp2_with (go_at_call 12; fail)
      refine ix.mono ?_
      rintro r w2 ⟨rfl, b2⟩
      obtain ⟨v', w3, hap, L3, O3, B3⟩ := HFIN.out w2 b2
      clear ix HFIN b2
      obtain ⟨a3, c3, hv3⟩ := Own.shape O3.out
      obtain ⟨nn, hnn⟩ : ∃ nn, (svs (RT ++ [z])).length = nn := ⟨_, rfl⟩
      rw [hnn] at hv3
      subst hv3
      go_wp2_with (at_builtin; go_must (refine Lib.wpList_append_run _ rfl _ _ 23 23 rfl _ _ rfl rfl _ _ hap ?_))
      exact ⟨⟨j + 1, RT ++ [z], by omega, by go_num, L3, O3, B3⟩, by simp [intOf]; omega⟩
    · obtain rfl : nl = j := by omega
      have e0 : ¬ (nl : Int) < (nl : Int) := by omega
      have bb := hB_.out
      have hRT := hid hR_.out.1
      have hR32 := hid hR_.out.2
      obtain ⟨ρ17, hρ⟩ : ∃ ρ, rx ρ16 w16 3999 = ρ := ⟨_, rfl⟩
      have ee : ∀ i, i < w16.heap.size → ρ17 i = ρ16 i := fun i hi => by rw [← hρ]; exact rx_old hi
      have en : ∀ i, w16.heap.size ≤ i → ρ17 i = 3999 := fun i hi => by rw [← hρ]; exact rx_new hi
      have sx : Stays w16 wr ρ16 ρ17 := stays_below bb ee
      have og_ : Os wr ρ17 u26 RT 3999 := Os.of hO_.out rfl en
      obtain ⟨art, crt, ert, rt1, rt2, _⟩ := og_.atK (.inr (.inr (by omega))) (by omega)
      subst ert
      rw [hRT.out] at og_ rt1 ⊢
      have Og17 := hid og_
      have I17 := hid (I16.out.step sx (I16.out.s.below bb ee))
      have ix := 0
      have Oi17 := hid (Oi16.out.stay sx)
      have Oh17 := hid (Oh16.out.stay sx (.inr (.inr (by omega))))
      have Or17 := hid (Or16.out.stay sx (.inl rfl))
      have Oe17 := hid (Oe16.out.stay sx)
      have Od17 := hid (Od16.out.stay sx (.inl rfl))
      have Qd17 := hid (sx.ch Qd16.out.1 Qd16.out.2)
      clear ix sx I16 Oi16 Oh16 Or16 Oe16 Od16 Qd16 bb ee en hρ og_ hO_ hB_ hR_ T16
      have hPV : (pvH Lf hs).length = nt := by unfold pvH; rw [List.length_map]; exact HNT.out
      have hP32 : ∀ x ∈ pvH Lf hs, x.length ≤ 140737488355000 := fun x hx => by rw [pvH_32 Hs32.out hs x hx]; omega
      have hP32 := hid hP32
      have p0 := Qd17.out.1.c0
      have p1 := Qd17.out.1.c1
      have ix := I17.out.s.expands HZ.out (ix hs) (pvH Lf hs) RT nl nt nl HNX.out hPV hRT.out (by omega) (by omega) (by omega) (by omega) hP32.out ai ahd art ci chd crt Oe17.out.k (Od17.out.k (.inl rfl) (by omega)) (Og17.out.k (.inr (.inr (by omega))) (by omega)) cd1 cd2
      go_upto_region 28 with (go_at_call 6; (refine ix.mono ?_); rintro r w18 ⟨rfl, ρ18, S_, sx⟩)
      have I18 := hid (I17.out.step sx (S_.wide (t' := 417) (by omega)))
      have Oi18 := hid (Oi17.out.stay sx)
      have Oh18 := hid (Oh17.out.stay sx (.inr (.inr (by omega))))
      have Or18 := hid (Or17.out.stay sx (.inl rfl))
      have Oe18 := hid (Oe17.out.stay sx)
      have Od18 := hid (Od17.out.stay sx (.inl rfl))
      have Qd18 := hid (sx.ch Qd17.out.1 Qd17.out.2)
      have Og18 := hid (Og17.out.stay sx (.inr (.inr (by omega))))
      clear ix sx I17 Oi17 Oh17 Or17 Oe17 Od17 Qd17 Og17 S_ p0 p1
      have S18 := hid I18.out.s
      clear I18
      have ip := fun w' => pick_any wh (nl : Int) hw.1 hw.2 (by omega) (by omega) w'
      obtain ⟨kk, hkk⟩ : ∃ kk : Nat, pk wh (nl : Int) = kk := ⟨(pk wh (nl : Int)).toNat, by have := pk_nonneg wh (nl : Int) (by omega); omega⟩
      have kl : kk < nl := by have := pk_lt wh (nl : Int) (by omega); omega
      rw [hkk] at ip
      clear hkk
      go_upto_region 29 with (go_at_call 13; refine (ip _).mono ?_; rintro r w_ ⟨rfl, h0⟩; have h0 := h0.symm; subst h0)
      clear ip
      obtain ⟨gr, cr_, y, er, hc29, hy, hgr, hP⟩ := Og18.out.putB (.inr (.inr (by omega))) hRT.out kl
      injection er with er _ _
      subst er
      have y32 : y.length ≤ 32 := hR32.out y (List.mem_of_getElem? hy)
      obtain ⟨Y, hY⟩ : ∃ Y : List UInt8, Y = Sha.sha y := ⟨_, rfl⟩
      have iH := hid fun w' => hash8_any ⟨y.toArray⟩ (by rw [sv_size]; omega) w'
      unfold Hid at iH
      rw [show ((⟨y.toArray⟩ : ByteArray).data.toList) = y from rfl, ← hY, show sv Y = Value.string ⟨Y.toArray⟩ from rfl] at iH
      have iH := hid iH
      have HP := hid hP
      have HY := hid hY
      have k0 : (0 : Int) ≤ (kk : Int) := by omega
      have k1 : (kk : Int) < (nl : Int) := by omega
      rw [show sv y = Value.string ⟨y.toArray⟩ from rfl] at hc29
      clear hP hy hY y32
      go_upto_region 30 with (go_at_call 14; (refine (iH.out _).mono ?_); rintro r w19 ⟨rfl, bb⟩; obtain ⟨ρ19, hρ⟩ : ∃ ρ, rx ρ18 w18 0 = ρ := ⟨_, rfl⟩; have ee : ∀ i, i < w18.heap.size → ρ19 i = ρ18 i := (fun i hi => by rw [← hρ]; exact rx_old hi); obtain ⟨hc30, hf30, ow, sw, so, sp, su⟩ := HP.out w19 ρ19 bb ee Y; rw [show sv y = Value.string ⟨y.toArray⟩ from rfl] at hc30; rw [show sv Y = Value.string ⟨Y.toArray⟩ from rfl] at ow sw so sp su; have sx : Stays w18 w19 ρ18 ρ19 := stays_below bb ee; have SW := hid sw; have OW := hid ow; have SO := hid (And.intro so (And.intro sp su)); have SX := hid sx; have S19 := hid (S18.out.below bb ee); clear ow sw so sp su sx hρ bb ee)
      have sx := SX.out
      clear SX
      have S18b := S18
      clear S18
      have S18 := S18b
      clear S18b
      have Oi19 := hid (Oi18.out.stay sx)
      have Oh19 := hid (Oh18.out.stay sx (.inr (.inr (by omega))))
      have Or19 := hid (Or18.out.stay sx (.inl rfl))
      have Oe19 := hid (Oe18.out.stay sx)
      have Od19 := hid (Od18.out.stay sx (.inl rfl))
      have Qd19 := hid (sx.ch Qd18.out.1 Qd18.out.2)
      have Og19 := hid (Og18.out.stay sx (.inr (.inr (by omega))))
      clear Oi18 Oh18 Or18 Oe18 Od18 Qd18 Og18 S18  sx iH HP HY hc29 hc30 hf30
      obtain ⟨w20, hw_⟩ : ∃ v, w19.setCell ⟨gr, kk, none⟩ (.string ⟨Y.toArray⟩) = v := ⟨_, rfl⟩
      have sw := SW.out
      have ow := OW.out
      have so := SO.out
      rw [hw_] at sw ow so ⊢
      clear SW OW SO hw_
      have S20 := hid (S19.out.wr sw (by omega) so.1 so.2.1 so.2.2)
      have Oi20 := hid (Oi19.out.wr sw (by omega))
      have Oh20 := hid (Oh19.out.wr sw (by omega))
      have Or20 := hid (Or19.out.wr sw (by omega))
      have Oe20 := hid (Oe19.out.wr sw (by omega))
      have Od20 := hid (Od19.out.wr sw (by omega))
      have Qd20 := hid (ChI.wrC Qd19.out sw (by omega))
      have Og20 := hid ow
      clear Oi19 Oh19 Or19 Oe19 Od19 Qd19 Og19 S19 sw ow so
      have hRT2 : (RT.set kk Y).length = nl := by rw [List.length_set]; exact hRT.out
      have HR2 := hid hRT2
      clear hRT2
      have p0 := Qd20.out.1.c0
      have p1 := Qd20.out.1.c1
      have ix := S20.out.expands HZ.out (ix hs) (pvH Lf hs) (RT.set kk Y) nl nt nl HNX.out hPV HR2.out (by omega) (by omega) (by omega) (by omega) hP32.out ai ahd (some ⟨gr, 0, none⟩) ci chd cr_ Oe20.out.k (Od20.out.k (.inl rfl) (by omega)) (Og20.out.k (.inr (.inr (by omega))) (by omega)) cd1 cd2
      go_upto_region 31 with (go_at_call 6; (refine ix.mono ?_); rintro r w21 ⟨rfl, ρ21, S_, sx⟩)
      have S21 := hid (S_.wide (t' := 474) (by omega))
      have Oi21 := hid (Oi20.out.stay sx)
      have Oh21 := hid (Oh20.out.stay sx (.inr (.inr (by omega))))
      have Or21 := hid (Or20.out.stay sx (.inl rfl))
      have Oe21 := hid (Oe20.out.stay sx)
      have Od21 := hid (Od20.out.stay sx (.inl rfl))
      have Qd21 := hid (sx.ch Qd20.out.1 Qd20.out.2)
      have Og21 := hid (Og20.out.stay sx (.inr (.inr (by omega))))
      clear Oi20 Oh20 Or20 Oe20 Od20 Qd20 Og20 S20  S_ ix sx p0 p1
      obtain ⟨gr_, cr2, y, er, hc31, hy, hgr2, hP⟩ := Og21.out.putB (.inr (.inr (by omega))) HR2.out kl
      injection er with er _ ecr
      injection er with er
      injection er with er _ _
      subst er
      obtain ⟨_, hf31, ow, sw, so⟩ := hP w21 ρ21 (Below.refl _ _) (fun _ _ => rfl) [115, 104, 111, 114, 116]
      rw [show sv y = Value.string ⟨y.toArray⟩ from rfl] at hc31
      rw [show sv [115, 104, 111, 114, 116] = Value.string ⟨#[115, 104, 111, 114, 116]⟩ from rfl] at ow sw so
      have SW := hid sw
      have OW := hid ow
      have SO := hid so
      clear hP ow sw so hy ecr cr2
      go_upto_region 32 with fail
      obtain ⟨w22, hw_⟩ : ∃ v, w21.setCell ⟨gr, kk, none⟩ (.string ⟨#[115, 104, 111, 114, 116]⟩) = v := ⟨_, rfl⟩
      have sw := SW.out
      have ow := OW.out
      have so := SO.out
      rw [hw_] at sw ow so ⊢
      clear SW OW SO hw_ hc31 hf31
      have S22 := hid (S21.out.wr sw (by omega) so.1 so.2.1 so.2.2)
      have Oi22 := hid (Oi21.out.wr sw (by omega))
      have Oh22 := hid (Oh21.out.wr sw (by omega))
      have Or22 := hid (Or21.out.wr sw (by omega))
      have Oe22 := hid (Oe21.out.wr sw (by omega))
      have Od22 := hid (Od21.out.wr sw (by omega))
      have Qd22 := hid (ChI.wrC Qd21.out sw (by omega))
      have Og22 := hid ow
      clear Oi21 Oh21 Or21 Oe21 Od21 Qd21 Og21 S21 sw ow so
      have hRT3 : ((RT.set kk Y).set kk [115, 104, 111, 114, 116]).length = nl := by rw [List.length_set]; exact HR2.out
      have HR3 := hid hRT3
      clear hRT3
      have p0 := Qd22.out.1.c0
      have p1 := Qd22.out.1.c1
      have ix := S22.out.expands HZ.out (ix hs) (pvH Lf hs) ((RT.set kk Y).set kk [115, 104, 111, 114, 116]) nl nt nl HNX.out hPV HR3.out (by omega) (by omega) (by omega) (by omega) hP32.out ai ahd (some ⟨gr, 0, none⟩) ci chd cr_ Oe22.out.k (Od22.out.k (.inl rfl) (by omega)) (Og22.out.k (.inr (.inr (by omega))) (by omega)) cd1 cd2
      go_upto_region 33 with (go_at_call 6; (refine ix.mono ?_); rintro r w23 ⟨rfl, ρ23, S_, sx⟩)
      have S23 := hid (S_.wide (t' := 531) (by omega))
      have Oi23 := hid (Oi22.out.stay sx)
      have Oh23 := hid (Oh22.out.stay sx (.inr (.inr (by omega))))
      have Or23 := hid (Or22.out.stay sx (.inl rfl))
      have Oe23 := hid (Oe22.out.stay sx)
      have Od23 := hid (Od22.out.stay sx (.inl rfl))
      have Qd23 := hid (sx.ch Qd22.out.1 Qd22.out.2)
      have Og23 := hid (Og22.out.stay sx (.inr (.inr (by omega))))
      clear Oi22 Oh22 Or22 Oe22 Od22 Qd22 Og22 S22  S_ ix sx p0 p1
      obtain ⟨tb, htb⟩ : ∃ b : Bool, decide (0 < nt) = b := ⟨_, rfl⟩
      have htc : decide ((0 : Int) < (nt : Int)) = tb := by rw [← htb]; exact decide_eq_decide.2 (by omega)
      go_upto_if 152 with fail
      go_cut [11, 34, 35] from 153 to 177 (fun v _ _ w' => v = .bool true ∧ Hid (∃ ρ', Xs w.heap.size X w2 w' ρ' 645))
      case first =>
        cases tb with
        | true =>
          have ht0 : 0 < nt := of_decide_eq_true htb
          clear htb htc
          have t0 : (0 : Int) < (nt : Int) := by omega
          have ip := fun w' => pick_any wh (nt : Int) hw.1 hw.2 (by omega) (by omega) w'
          obtain ⟨kk2, hkk⟩ : ∃ kk : Nat, pk wh (nt : Int) = kk := ⟨(pk wh (nt : Int)).toNat, by have := pk_nonneg wh (nt : Int) (by omega); omega⟩
          have kl2 : kk2 < nt := by have := pk_lt wh (nt : Int) (by omega); omega
          rw [hkk] at ip
          clear hkk
          obtain ⟨gh, ch2, y, eh, hc34, hy, hgh, hP⟩ := Oh23.out.putB (.inr (.inr (by omega))) HLH.out kl2
          injection eh with eh _ ech
          subst eh
          subst ech
          obtain ⟨_, hf34, ow, sw, so⟩ := hP w23 ρ23 (Below.refl _ _) (fun _ _ => rfl) [115, 104, 111, 114, 116]
          rw [show sv y = Value.string ⟨y.toArray⟩ from rfl] at hc34
          rw [show sv [115, 104, 111, 114, 116] = Value.string ⟨#[115, 104, 111, 114, 116]⟩ from rfl] at ow sw so
          have SW := hid sw
          have OW := hid ow
          have SO := hid so
          have k20 : (0 : Int) ≤ (kk2 : Int) := by omega
          have k21 : (kk2 : Int) < (nt : Int) := by omega
          clear hP ow sw so hy
          go_upto_region 35 with (go_at_call 13; refine (ip _).mono ?_; rintro r w_ ⟨rfl, h0⟩; have h0 := h0.symm; subst h0)
          obtain ⟨w24, hw_⟩ : ∃ v, w23.setCell ⟨gh, kk2, none⟩ (.string ⟨#[115, 104, 111, 114, 116]⟩) = v := ⟨_, rfl⟩
          have sw := SW.out
          have ow := OW.out
          have so := SO.out
          rw [hw_] at sw ow so ⊢
          clear SW OW SO hw_ hc34 hf34 ip
          have S24 := hid (S23.out.wr sw (by omega) so.1 so.2.1 so.2.2)
          have Oi24 := hid (Oi23.out.wr sw (by omega))
          have Oh24 := hid ow
          have Or24 := hid (Or23.out.wr sw (by omega))
          have Oe24 := hid (Oe23.out.wr sw (by omega))
          have Od24 := hid (Od23.out.wr sw (by omega))
          have Qd24 := hid (ChI.wrC Qd23.out sw (by omega))
          have Og24 := hid (Og23.out.wr sw (by omega))
          clear Oi23 Oh23 Or23 Oe23 Od23 Qd23 Og23 S23 sw ow so
          have hH2 : (HS.set kk2 [115, 104, 111, 114, 116]).length = nt := by rw [List.length_set]; exact HLH.out
          have HH2 := hid hH2
          clear hH2
          have hH3 : ((HS.set kk2 [115, 104, 111, 114, 116]).drop 1).length = nt - 1 := by rw [List.length_drop, HH2.out]
          have sH2 : ∀ x ∈ HS.set kk2 [115, 104, 111, 114, 116], x.length ≤ 140737488355000 := fun x hx => by
            rcases List.mem_or_eq_of_mem_set hx with e | e
            · have := HSH.out x e; omega
            · rw [e]; decide
          have SH2 := hid sH2
          clear sH2
          have ix := S24.out.expands HZ.out (ix hs) (HS.set kk2 [115, 104, 111, 114, 116]) RS nl nt nl HNX.out HH2.out HLR.out (by omega) (by omega) (by omega) (by omega) SH2.out (some xa) (some ⟨gh, 0, none⟩) ars cl chs crs Oi24.out.k (Oh24.out.k (.inr (.inr (by omega))) (by omega)) (Or24.out.k (.inl rfl) (by omega)) lh1 lh2
          go_upto_region 36 with (go_at_call 6; (refine ix.mono ?_); rintro r w25 ⟨rfl, ρ25, S_, sx⟩)
          have S25 := hid (S_.wide (t' := 588) (by omega))
          have Oi25 := hid (Oi24.out.stay sx)
          have Oh25 := hid (Oh24.out.stay sx (.inr (.inr (by omega))))
          have Or25 := hid (Or24.out.stay sx (.inl rfl))
          have Oe25 := hid (Oe24.out.stay sx)
          have Od25 := hid (Od24.out.stay sx (.inl rfl))
          have Qd25 := hid (sx.ch Qd24.out.1 Qd24.out.2)
          have Og25 := hid (Og24.out.stay sx (.inr (.inr (by omega))))
          clear Oi24 Oh24 Or24 Oe24 Od24 Qd24 Og24 S24  S_ ix sx
          have y3 : (1 : Int) ≤ (nt : Int) := by omega
          have y4 : (nt : Int) ≤ (chs : Int) := by omega
          have e0 : chs = 1 → AtK w25 ρ25 (some ⟨gh, 0, none⟩) ((HS.set kk2 [115, 104, 111, 114, 116]).drop 1) := fun e j p hp => by
            have hz : (HS.set kk2 [115, 104, 111, 114, 116]).drop 1 = [] := List.eq_nil_of_length_eq_zero (by rw [hH3]; omega)
            rw [hz] at hp
            cases hp
          have e1 := AtK.tailO (Oh25.out.k (.inr (.inr (by omega))) (by omega))
          have lq : nt - 1 ≤ chs - 1 := by omega
          have ix := fun a2 c2 a2k q1 q2 => S25.out.expands HZ.out (ix hs) ((HS.set kk2 [115, 104, 111, 114, 116]).drop 1) RS nl (nt - 1) nl HNX.out hH3 HLR.out (by omega) (by omega) (by omega) (by omega) (fun x hx => SH2.out x (List.mem_of_mem_drop hx)) (some xa) a2 ars cl c2 crs Oi25.out.k a2k (Or25.out.k (.inl rfl) (by omega)) q1 q2
          go_wp2_with (go_at_call 6; fail)
          · have e2 := e0 ‹chs = 1›
            have hc1 : chs = 1 := ‹chs = 1›
            clear e0
            subst hc1
            refine (ix _ 0 e2 (by omega) (by omega)).mono ?_
            rintro r w26 ⟨rfl, ρ26, S_, sx⟩
            go_wp2
            go_meet
            exact ⟨rfl, ρ26, S_.wide (by omega)⟩
          · refine (ix _ _ e1 lq (by omega)).mono ?_
            rintro r w26 ⟨rfl, ρ26, S_, sx⟩
            go_wp2
            go_meet
            exact ⟨rfl, ρ26, S_.wide (by omega)⟩
        | false =>
          clear htb htc
          go_wp2
          go_meet
          exact ⟨rfl, ρ23, S23.out.wide (by omega)⟩
      case rest =>
      obtain ⟨rfl, S_⟩ := hcut
      obtain ⟨w27, hw27⟩ : ∃ w13, wc = w13 := ⟨_, rfl⟩
      rw [hw27] at S_ ⊢
      obtain ⟨ρ27, S_⟩ := S_.out
      clear hw27 htb htc
      have b27 := S_.bel
      have ix := S_.still (by omega)
      go_upto_region 39 with (go_at_call 15; (refine ix.mono ?_); rintro r w28 ⟨rfl, b28⟩)
      have B28 := hid (BW2.out.trans (b27.trans b28))
      clear ix b27 b28 S_
      go_wp2
      go_ret
      exact ⟨rfl, B28.out⟩
end Gb
end Chn
end Go.Proofs.YtenklmjeeejfdaaGreatDoor

namespace Go.Proofs.YtenklmjeeejfdaaGreatDoor
open Go.ChangeShapes Go.WideShapes Go.ChangeAt Go.RowKit
theorem gDB : Tryz.prog.globalNamed "math/bits.deBruijn64tab" = some 1 := by kernel_rfl
theorem gDBType : (Tryz.prog.globals[1]?).map (·.type) = some 165 := by kernel_rfl
theorem cells64b : Tryz.prog.cellsOf 165 = 64 := by kernel_rfl
theorem cells1b : Tryz.prog.cellsOf 5 = 1 := by kernel_rfl
def four : List (String × DataW Unit) := [("math/bits.deBruijn32tab", Rows.laid_math_bits_deBruijn32tab), ("math/bits.deBruijn64tab", Rows.laid_math_bits_deBruijn64tab), ("scrivener/digest.start", Rows.laid_scrivener_digest_start), ("scrivener/digest.rounds", Rows.laid_scrivener_digest_rounds)]
theorem tb_of {W : World} (h : laidMet Tryz.prog four W) : Tb W := by
  have h1 := laidMet.tail h
  have h2 : Lib.TabIs Tryz.prog W "math/bits.deBruijn64tab" .u8 (Lib.deBruijn64tab.map Int.ofNat) :=
    Lib.tabIs_of_head gDB gDBType Tryz.underlying165 Tryz.underlying5 cells1b cells64b (show laidMet Tryz.prog (("math/bits.deBruijn64tab", Lib.tabData .u8 (Lib.deBruijn64tab.map Int.ofNat)) :: _) W from h1)
  refine ⟨tabs_of (laidMet.tail h1), fun j hj => ?_⟩
  have := h2.cell gDB j (by rw [List.length_map]; exact hj)
  rw [this]
  simp [List.getD_eq_getElem?_getD]
  rw [List.getElem?_eq_getElem (show j < Lib.deBruijn64tab.length from hj)]; simp
noncomputable def laidWorld5 (os : Os) : World :=
  { laidWorld os with
    heap := ((laidWorld os).heap.modify 0 (fillObj (Lib.deBruijn32tab.map fun n => Value.int .u8 (Int.ofNat n)).toArray)).modify 1 (fillObj (Lib.deBruijn64tab.map fun n => Value.int .u8 (Int.ofNat n)).toArray) }
end Go.Proofs.YtenklmjeeejfdaaGreatDoor

namespace Go.Proofs.YtenklmjeeejfdaaGreatDoor
open Go.ChangeShapes Go.WideShapes Go.ChangeAt Go.RowKit
theorem bytesS : Tryz.prog.bytesOf 9 = 16 := by kernel_rfl
set_option maxRecDepth 100000 in
theorem open_atF {H : Type} {enc : TypeId × Value → H} {W : World} {base : Nat} {v : Value} {d : DataW H} {p : List MemPlace}
    (hval : Value.okWide Tryz.prog W .any base 23 v) (hd : DataW.Trod enc Tryz.prog W 0 (fun _ => true) true 23 v d p) (hk : ∀ x ∈ DataW.weights Tryz.prog 23 d, x ≤ reachBytes) :
    ∃ a l cap, v = .slice a l.length cap ∧ At W a l ∧ l.length ≤ cap ∧ cap ≤ 9223372036854775807 ∧ l.length ≤ 8796093021952 := by
  obtain ⟨a0, len0, cap0, rfl⟩ := okWide_slice Tryz.underlying23 hval
  obtain ⟨fuel, hf⟩ := hd
  rcases open_strings Tryz.underlying23 Tryz.underlying9 cellsS hf with ⟨hcs, hx⟩ | ⟨a, len, cap, ss, hcs, _, hl, hm, hz, hx, hcell, hsz⟩
  · simp [Value.cells] at hcs
    obtain ⟨rfl, rfl, rfl⟩ := hcs
    exact ⟨none, [], 0, rfl, At.nil _ _, by simp, by omega, by simp⟩
  · simp [Value.cells] at hcs
    obtain ⟨rfl, rfl, rfl⟩ := hcs
    simp only [Prod.mk.injEq] at hx
    obtain ⟨rfl, _⟩ := hx
    simp only [if_true] at hz
    have hlen : ((ss.take len0).map (·.data.toList)).length = len0 := by simp; omega
    have hw : cap0 * 16 ≤ reachBytes := by
      refine hk _ ?_
      rw [DataW.weights, Tryz.underlying23]
      simp only [bytesS]
      have e : (strs (H := H) (ss.take len0)).length + (strs (H := H) (ss.drop len0)).length = cap0 := by simp [strs]; omega
      rw [e]
      exact List.mem_cons_self
    have hr : reachBytes = 140737488351232 := rfl
    refine ⟨some a, (ss.take len0).map (·.data.toList), cap0, by rw [hlen], fun j p hp => ?_, by omega, hm, by omega⟩
    rw [List.getElem?_map, Option.map_eq_some_iff] at hp
    obtain ⟨s, hs, rfl⟩ := hp
    rw [List.getElem?_take] at hs
    split at hs
    · have hj := (List.getElem?_eq_some_iff.1 hs).1
      have hc := hcell j hj
      rw [List.getD_eq_getElem?_getD, hs] at hc
      refine ⟨a, rfl, ?_, hc⟩
      have := block_lt_of_cell hc
      rwa [addr_block] at this
    · cases hs
theorem weights_head {H : Type} {P : Program} {t : TypeId} {ts : List TypeId} {d : DataW H} {r : List (DataW H)} (h : (DataW.weightsEach P (t :: ts) (d :: r)).all (· ≤ reachBytes) = true) : ∀ x ∈ DataW.weights P t d, x ≤ reachBytes := fun x hx => by
  have := List.all_eq_true.1 h x (by rw [DataW.weightsEach]; exact List.mem_append_left _ hx)
  simpa using this
theorem weights_mem {H : Type} {P : Program} {e : TypeId} {d : DataW H} {x : Nat} : ∀ {l : List (DataW H)}, d ∈ l → x ∈ DataW.weights P e d → x ∈ DataW.weightsAll P e l
  | [], h, _ => by cases h
  | f :: r, h, hx => by
    rw [DataW.weightsAll]
    rcases List.mem_cons.1 h with rfl | h
    · exact List.mem_append_left _ hx
    · exact List.mem_append_right _ (weights_mem h hx)
theorem weights_tail {H : Type} {P : Program} {t : TypeId} {ts : List TypeId} {d : DataW H} {r : List (DataW H)} (h : (DataW.weightsEach P (t :: ts) (d :: r)).all (· ≤ reachBytes) = true) : (DataW.weightsEach P ts r).all (· ≤ reachBytes) = true := by
  rw [List.all_eq_true] at h ⊢
  exact fun x hx => h x (by rw [DataW.weightsEach]; exact List.mem_append_right _ hx)
set_option maxRecDepth 100000 in
theorem open_atG {H : Type} {enc : TypeId × Value → H} {W : World} {base : Nat} {v : Value} {d : DataW H} {p : List MemPlace}
    (hval : Value.okWide Tryz.prog W .any base 23 v) (hd : DataW.Trod enc Tryz.prog W 0 (fun _ => true) true 23 v d p) (hk : ∀ x ∈ DataW.weights Tryz.prog 23 d, x ≤ reachBytes) :
    ∃ a l cap, v = .slice a l.length cap ∧ At W a l ∧ l.length ≤ cap ∧ cap ≤ 9223372036854775807 ∧ l.length ≤ 8796093021952 ∧ ∀ q ∈ l, q.length ≤ 140737488351232 := by
  obtain ⟨a0, len0, cap0, rfl⟩ := okWide_slice Tryz.underlying23 hval
  obtain ⟨fuel, hf⟩ := hd
  rcases open_strings Tryz.underlying23 Tryz.underlying9 cellsS hf with ⟨hcs, hx⟩ | ⟨a, len, cap, ss, hcs, _, hl, hm, hz, hx, hcell, hsz⟩
  · simp [Value.cells] at hcs
    obtain ⟨rfl, rfl, rfl⟩ := hcs
    exact ⟨none, [], 0, rfl, At.nil _ _, by simp, by omega, by simp, by simp⟩
  · simp [Value.cells] at hcs
    obtain ⟨rfl, rfl, rfl⟩ := hcs
    simp only [Prod.mk.injEq] at hx
    obtain ⟨rfl, _⟩ := hx
    simp only [if_true] at hz
    have hlen : ((ss.take len0).map (·.data.toList)).length = len0 := by simp; omega
    have hr : reachBytes = 140737488351232 := rfl
    have hw : cap0 * 16 ≤ reachBytes := by
      refine hk _ ?_
      rw [DataW.weights, Tryz.underlying23]
      simp only [bytesS]
      have e : (strs (H := H) (ss.take len0)).length + (strs (H := H) (ss.drop len0)).length = cap0 := by simp [strs]; omega
      rw [e]
      exact List.mem_cons_self
    have hq : ∀ s ∈ ss.take len0, s.data.toList.length ≤ reachBytes := fun s hs => by
      refine hk _ ?_
      rw [DataW.weights, Tryz.underlying23]
      refine List.mem_cons_of_mem _ (List.mem_append_left _ (weights_mem (d := .lit (.string s.data.toList)) ?_ ?_))
      · unfold strs
        exact List.mem_map.2 ⟨s, hs, rfl⟩
      · simp [DataW.weights]
    refine ⟨some a, (ss.take len0).map (·.data.toList), cap0, by rw [hlen], fun j p hp => ?_, by omega, hm, by omega, fun q hq' => ?_⟩
    rotate_left
    · obtain ⟨s, hs, rfl⟩ := List.mem_map.1 hq'
      have := hq s hs
      omega
    rw [List.getElem?_map, Option.map_eq_some_iff] at hp
    obtain ⟨s, hs, rfl⟩ := hp
    rw [List.getElem?_take] at hs
    split at hs
    · have hj := (List.getElem?_eq_some_iff.1 hs).1
      have hc := hcell j hj
      rw [List.getD_eq_getElem?_getD, hs] at hc
      refine ⟨a, rfl, ?_, hc⟩
      have := block_lt_of_cell hc
      rwa [addr_block] at this
    · cases hs
end Go.Proofs.YtenklmjeeejfdaaGreatDoor

namespace Go.Proofs.YtenklmjeeejfdaaGreatDoor
open Go.ChangeShapes Go.WideShapes Go.ChangeAt Go.RowKit
theorem bytesI : Tryz.prog.bytesOf 3 = 8 := by kernel_rfl
end Go.Proofs.YtenklmjeeejfdaaGreatDoor

/- Layer 13: a chain among the arguments -/
namespace Go.Proofs.YtenklmjeeejfdaaGreatDoor
open Go.ChangeShapes Go.WideShapes Go.ChangeAt Go.RowKit
namespace Chn
theorem cellsCh13 : Tryz.prog.cellsOf 25 = 2 := by kernel_rfl
set_option maxRecDepth 100000 in
theorem okr_texts13 {W : World} {v : Value} {H : Type} {enc : TypeId × Value → H} {x : DataW H × List MemPlace} {fuel : Nat} (hf : DataW.trod enc Tryz.prog W 0 (fun _ => true) true fuel 23 [v] = some x) (hk : ∀ y ∈ DataW.weights Tryz.prog 23 x.1, y ≤ reachBytes) :
    ∃ a l cap, v = .slice a l.length cap ∧ At W a l ∧ l.length ≤ cap ∧ cap ≤ 9223372036854775807 ∧ l.length ≤ 8796093021952 ∧ ∀ q ∈ l, q.length ≤ 140737488351232 := by
  rcases open_strings Tryz.underlying23 Tryz.underlying9 cellsS hf with ⟨hcs, hx⟩ | ⟨a, len0, cap0, ss, hcs, _, hl, hm, hz, hx, hcell, hsz⟩
  · simp only [List.cons.injEq, and_true] at hcs
    subst hcs
    exact ⟨none, [], 0, rfl, At.nil _ _, by simp, by omega, by simp, by simp⟩
  · simp only [List.cons.injEq, and_true] at hcs
    subst hcs
    subst hx
    simp only [if_true] at hz
    have hlen : ((ss.take len0).map (·.data.toList)).length = len0 := by simp; omega
    have hw : cap0 * 16 ≤ reachBytes := by
      refine hk _ ?_
      rw [DataW.weights, Tryz.underlying23]
      simp only [bytesS]
      have e : (strs (H := H) (ss.take len0)).length + (strs (H := H) (ss.drop len0)).length = cap0 := by simp [strs]; omega
      rw [e]
      exact List.mem_cons_self
    have hr : reachBytes = 140737488351232 := rfl
    have hq : ∀ s ∈ ss.take len0, s.data.toList.length ≤ reachBytes := fun s hs => by
      refine hk _ ?_
      rw [DataW.weights, Tryz.underlying23]
      refine List.mem_cons_of_mem _ (List.mem_append_left _ (weights_mem (d := .lit (.string s.data.toList)) ?_ ?_))
      · unfold strs
        exact List.mem_map.2 ⟨s, hs, rfl⟩
      · simp [DataW.weights]
    refine ⟨some a, (ss.take len0).map (·.data.toList), cap0, by rw [hlen], fun j p hp => ?_, by omega, hm, by omega, fun q hq' => ?_⟩
    rotate_left
    · obtain ⟨s, hs, rfl⟩ := List.mem_map.1 hq'
      have := hq s hs
      omega
    rw [List.getElem?_map, Option.map_eq_some_iff] at hp
    obtain ⟨s, hs, rfl⟩ := hp
    rw [List.getElem?_take] at hs
    split at hs
    · have hj := (List.getElem?_eq_some_iff.1 hs).1
      have hc := hcell j hj
      rw [List.getD_eq_getElem?_getD, hs] at hc
      refine ⟨a, rfl, ?_, hc⟩
      have := block_lt_of_cell hc
      rwa [addr_block] at this
    · cases hs
set_option maxRecDepth 100000 in
theorem okr_ints13 {W : World} {v : Value} {H : Type} {enc : TypeId × Value → H} {x : DataW H × List MemPlace} {fuel : Nat} (hf : DataW.trod enc Tryz.prog W 0 (fun _ => true) true fuel 22 [v] = some x) (hk : ∀ y ∈ DataW.weights Tryz.prog 22 x.1, y ≤ reachBytes) :
    ∃ a l cap, v = .slice a l.length cap ∧ AtI W a l ∧ l.length ≤ cap ∧ cap ≤ 9223372036854775807 ∧ l.length ≤ 17592186043904 ∧ ∀ c ∈ l, -9223372036854775808 ≤ c ∧ c ≤ 9223372036854775807 := by
  rcases open_ints Tryz.underlying22 Tryz.underlying3 cellsI hf with ⟨hcs, hx⟩ | ⟨a, len0, cap0, zs, hcs, _, hl, hm, hz, hx, hcell, hwf⟩
  · simp only [List.cons.injEq, and_true] at hcs
    subst hcs
    exact ⟨none, [], 0, rfl, fun j p hp => by simp at hp, by simp, by omega, by simp, fun c hc => by simp at hc⟩
  · simp only [List.cons.injEq, and_true] at hcs
    subst hcs
    subst hx
    simp only [if_true] at hz
    have hlen : (zs.take len0).length = len0 := by simp; omega
    have hw : cap0 * 8 ≤ reachBytes := by
      refine hk _ ?_
      rw [DataW.weights, Tryz.underlying22]
      simp only [bytesI]
      have e : (lits (H := H) .i64 (zs.take len0)).length + (lits (H := H) .i64 (zs.drop len0)).length = cap0 := by simp [lits]; omega
      rw [e]
      exact List.mem_cons_self
    have hr : reachBytes = 140737488351232 := rfl
    refine ⟨some a, zs.take len0, cap0, by rw [hlen], fun j c hc => ?_, by omega, hm, by omega, fun c hc => wf_i64 (hwf c (List.mem_of_mem_take hc))⟩
    rw [List.getElem?_take] at hc
    split at hc
    · have hj := (List.getElem?_eq_some_iff.1 hc).1
      have hc' := hcell j hj
      rw [List.getD_eq_getElem?_getD, hc] at hc'
      refine ⟨a, rfl, ?_, hc'⟩
      have := block_lt_of_cell hc'
      rwa [addr_block] at this
    · cases hc
set_option maxRecDepth 100000 in
theorem open_chn13 {H : Type} {enc : TypeId × Value → H} {W : World} {base : Nat} {v : Value} {d : DataW H} {p : List MemPlace}
    (hval : Value.okWide Tryz.prog W .any base 25 v) (hd : DataW.Trod enc Tryz.prog W 0 (fun _ => true) true 25 v d p) (hk : ∀ x ∈ DataW.weights Tryz.prog 25 d, x ≤ reachBytes) :
    ∃ ai cs ci ah l cp, v = ch (.slice ai cs.length ci) (.slice ah l.length cp) ∧ AtI W ai cs ∧ cs.length ≤ 17592186043904 ∧ (∀ c ∈ cs, -9223372036854775808 ≤ c ∧ c ≤ 9223372036854775807) ∧ At W ah l ∧ l.length ≤ cp ∧ cp ≤ 9223372036854775807 ∧ l.length ≤ 8796093021952 ∧ ∀ q ∈ l, q.length ≤ 140737488351232 := by
  obtain ⟨v1, v2, y1, y2, n, rfl, rfl, _, h1, h2⟩ := Joins.open_agg2 Tryz.underlying25 (by kernel_rfl) cellsCh13 hval hd
  obtain ⟨ai, cs, ci, rfl, q1, _, _, q2, q3⟩ := okr_ints13 h1 (fun x hx => hk x (by
    rw [DataW.weights, Tryz.underlying25]
    show x ∈ DataW.weightsEach Tryz.prog [22, 23] [y1.1, y2.1]
    rw [DataW.weightsEach, DataW.weightsEach]
    exact List.mem_append_left _ hx))
  obtain ⟨ah, l, cp, rfl, q4, q6, q7, q5, q8⟩ := okr_texts13 h2 (fun x hx => hk x (by
    rw [DataW.weights, Tryz.underlying25]
    show x ∈ DataW.weightsEach Tryz.prog [22, 23] [y1.1, y2.1]
    rw [DataW.weightsEach, DataW.weightsEach]
    exact List.mem_append_right _ (List.mem_append_left _ hx)))
  exact ⟨ai, cs, ci, ah, l, cp, rfl, q1, q2, q3, q4, q6, q7, q5, q8⟩
end Chn
end Go.Proofs.YtenklmjeeejfdaaGreatDoor
