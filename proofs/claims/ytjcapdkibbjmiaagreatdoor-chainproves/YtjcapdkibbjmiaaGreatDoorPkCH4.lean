import Derived.Test.YtjcapdkibbjmiaaGreatDoorPkCH2
/- Layer 13, the law: the book's proves: its walk (written by genCH4.py) -/
namespace Go.Proofs.YtjcapdkibbjmiaaGreatDoor
open Go.RowKit Go.Shelf
namespace Chn
namespace Gb
theorem all_snoc {α : Type} {p : α → Prop} {l : List α} {x : α} (h : ∀ W ∈ l, p W) (hx : p x) : ∀ W ∈ l ++ [x], p W := fun W hW => (List.mem_append.1 hW).elim (h W) (fun e => by rw [List.mem_singleton.1 e]; exact hx)
theorem But.keepB {H : Nat} {w w' : World} (h : But H w w') : Keep (fun k => k = H) w w' := ⟨h.os, h.tape, h.output, h.size, fun k hk hn => h.block k hk hn⟩
set_option maxRecDepth 100000 in
set_option maxHeartbeats 8000000 in
theorem proves13_any {B0 X : Nat} {m w : World} {ρ : Nat → Nat} {vh vw vi vj : Value} {hT wT hI wI : List Value} {WT WI : List (List Value)} {q q' h : Nat} {L : List (List UInt8)} {F F' : Nat → Prop} (b : Bw B0 X m ρ w vh vw vi vj hT wT hI wI WT WI q q' h L F F') (Z : Tb w) (lT : WT.length ≤ 800) (lI : WI.length ≤ 800) (cs : List Int) (n : Nat) (hn : cs.length = n) (ln : n ≤ 17592186043904) (a : Option Addr) (cap : Nat) (hA : AtI w a cs) :
    Calls Tryz.prog 9 #[.pointer (some ⟨X, 0, none⟩), .pointer (some ⟨q, 0, none⟩), .pointer (some ⟨q', 0, none⟩), .slice a n cap] w fun r w' => r = .returned (.bool true) ∧ ∃ ρ' vh' vw' vi' vj' hT' wT' hI' wI' WT' WI', Bw B0 X m ρ' w' vh' vw' vi' vj' hT' wT' hI' wI' WT' WI' q q' h L F F' ∧ WT'.length = WT.length + 3 ∧ WI'.length = WI.length + 3 ∧ w.heap.size ≤ w'.heap.size := by
  obtain ⟨I, H, c, P⟩ := pvs_is cs L
  obtain ⟨I2, H2, c2, P2⟩ := pvs_is (cs.map inc8) L
  have fw := P.few
  have fw2 := P2.few
  have i1 := lentInts13_any cs a cap w (by omega) hA
  rw [hn] at i1
  have hn2 : (cs.map inc8).length = n := by rw [List.length_map]; exact hn
  have HB := hid b
  have HZ := hid Z
  have HA := hid hA
  have HN := hid hn
  have HN2 := hid hn2
  have HP := hid P
  have HP2 := hid P2
  have hms := hid b.d.bel.size
  clear b Z hA hn hn2 P P2
  go_enter Tryz.func9, Tryz.ntmps9
  have z0 : (n : Int) ≤ (n : Int) + 8 := by omega
  go_upto_region 3 with (go_at_call 28; (with_reducible refine i1.mono ?_); rintro r w1 ⟨rfl, R1, b1⟩)
  obtain ⟨gi, hgi⟩ : ∃ gi, w.heap.size = gi := ⟨_, rfl⟩
  have D1 := HB.out.below b1 (rx ρ w 4000) (fun k hk => rx_old hk)
  have rgi : Hid (rx ρ w 4000 w.heap.size = 4000) := rx_new (Nat.le_refl _)
  have lF : Hid (∀ k, F k → k < w.heap.size) := HB.out.t.lt
  have lG : Hid (∀ k, F' k → k < w.heap.size) := HB.out.r.lt
  rw [hgi] at R1 rgi lF lG ⊢
  have lgi := R1.lt
  have A1 : AtI w1 (some ⟨gi, 0, none⟩) cs := row_pre R1
  have B1 := hid b1
  have i3 := prove13_all HP.out D1.t (HZ.out.below b1 HZ.out.lt) n HN.out (by omega) (some ⟨gi, 0, none⟩) (n + 8) A1
  obtain ⟨ρ1, hρ1⟩ : ∃ ρ1, rx ρ w 4000 = ρ1 := ⟨_, rfl⟩
  rw [hρ1] at D1 rgi
  have HD1 := hid D1
  have HR1 := hid R1
  have HGI0 := hid hgi
  clear i1 b1 D1 R1 A1 hρ1 hgi HB
  go_upto_region 4 with (go_at_call 29; (refine i3.mono ?_); rintro r w2 ⟨ai, ci, ah, chp, rfl, o1, o2, h1, h2, b2⟩)
  have T3 := tol_of (ρ := ρ1) (ri := 3000 + WI.length) (rt := 3 + WT.length) o1 o2 h1 h2 b2
  have b3 := b2.trans (((Below.refl w2.heap.size w2).alloc (Nat.le_refl _) (.cells #[.slice ai I.length ci, .slice ah H.length chp] 45)).mono b2.size)
  obtain ⟨w3, hw3⟩ : ∃ w3, w2.alloc (.cells #[.slice ai I.length ci, .slice ah H.length chp] 45) = w3 := ⟨_, rfl⟩
  obtain ⟨g1, hg1⟩ : ∃ g1, w2.heap.size = g1 := ⟨_, rfl⟩
  obtain ⟨ρ3, hρ3⟩ : ∃ ρ3, nr ρ1 w1 (.slice ah H.length chp) (.slice ai I.length ci) (3 + WT.length) (3000 + WI.length) = ρ3 := ⟨_, rfl⟩
  have e3 : ∀ k, k < w1.heap.size → ρ3 k = ρ1 k := fun k hk => by rw [← hρ3]; exact nr_old hk
  rw [hw3, hg1, hρ3] at T3
  rw [hw3] at b3 ⊢
  rw [hg1]
  have D3 := hid (HD1.out.below b3 ρ3 e3)
  have R3 := hid (HR1.out.below b3 lgi)
  have g3 : Hid (ρ3 gi = 4000) := by unfold Hid; rw [e3 gi lgi]; exact rgi.out
  have B3 := hid (B1.out.trans (b3.mono B1.out.size))
  have T3 := hid T3
  have i4 := prove13_all HP.out D3.out.t (HZ.out.below B3.out HZ.out.lt) n HN.out (by omega) (some ⟨gi, 0, none⟩) (n + 8) (row_pre R3.out)
  clear o1 o2 h1 h2 b2 b3 hw3 hg1 hρ3 e3 HD1 HR1 rgi B1 i3
  go_upto_region 5 with (go_at_call 29; (refine i4.mono ?_); rintro r w4 ⟨ai4, ci4, ah4, ch4, rfl, o1, o2, h1, h2, b4⟩)
  have T5 := tol_of (ρ := ρ3) (ri := 3000 + (WI.length + 1)) (rt := 3 + (WT.length + 1)) o1 o2 h1 h2 b4
  have b5 := b4.trans (((Below.refl w4.heap.size w4).alloc (Nat.le_refl _) (.cells #[.slice ai4 I.length ci4, .slice ah4 H.length ch4] 45)).mono b4.size)
  obtain ⟨w5, hw5⟩ : ∃ w5, w4.alloc (.cells #[.slice ai4 I.length ci4, .slice ah4 H.length ch4] 45) = w5 := ⟨_, rfl⟩
  obtain ⟨g2, hg2⟩ : ∃ g2, w4.heap.size = g2 := ⟨_, rfl⟩
  obtain ⟨ρ5, hρ5⟩ : ∃ ρ5, nr ρ3 w3 (.slice ah4 H.length ch4) (.slice ai4 I.length ci4) (3 + (WT.length + 1)) (3000 + (WI.length + 1)) = ρ5 := ⟨_, rfl⟩
  have e5 : ∀ k, k < w3.heap.size → ρ5 k = ρ3 k := fun k hk => by rw [← hρ5]; exact nr_old hk
  rw [hw5, hg2, hρ5] at T5
  rw [hw5] at b5 ⊢
  rw [hg2]
  have D5 := hid (D3.out.below b5 ρ5 e5)
  have R5 := hid (R3.out.below b5 R3.out.lt)
  have g5 : Hid (ρ5 gi = 4000) := by unfold Hid; rw [e5 gi R3.out.lt]; exact g3.out
  have T35 := hid (T3.out.below b5 e5)
  have B5 := hid (B3.out.trans (b5.mono B3.out.size))
  have T5 := hid T5
  have i5 := rprove13_all HP.out D5.out.r n HN.out (by omega) a cap (HA.out.below B5.out (Nat.le_refl _))
  clear o1 o2 h1 h2 b4 b5 hw5 hg2 hρ5 e5 D3 R3 g3 T3 B3 i4
  go_upto_region 6 with (go_at_call 18; (refine i5.mono ?_); rintro r w6 ⟨ai6, ci6, ah6, ch6, rfl, o1, o2, h1, h2, b6⟩)
  have T7 := tol_ofR (ρ := ρ5) o1 o2 h1 h2 b6
  have b7 := b6.trans (((Below.refl w6.heap.size w6).alloc (Nat.le_refl _) (.cells #[.slice ai6 I.length ci6, .slice ah6 H.length ch6] 45)).mono b6.size)
  obtain ⟨w7, hw7⟩ : ∃ w7, w6.alloc (.cells #[.slice ai6 I.length ci6, .slice ah6 H.length ch6] 45) = w7 := ⟨_, rfl⟩
  obtain ⟨g4, hg4⟩ : ∃ g4, w6.heap.size = g4 := ⟨_, rfl⟩
  obtain ⟨ρ7, hρ7⟩ : ∃ ρ7, rx ρ5 w5 0 = ρ7 := ⟨_, rfl⟩
  have e7 : ∀ k, k < w5.heap.size → ρ7 k = ρ5 k := fun k hk => by rw [← hρ7]; exact rx_old hk
  rw [hw7, hg4, hρ7] at T7
  rw [hw7] at b7 ⊢
  rw [hg4]
  have D7 := hid (D5.out.below b7 ρ7 e7)
  have R7 := hid (R5.out.below b7 R5.out.lt)
  have g7 : Hid (ρ7 gi = 4000) := by unfold Hid; rw [e7 gi R5.out.lt]; exact g5.out
  have T37 := hid (T35.out.below b7 e7)
  have T57 := hid (T5.out.below b7 e7)
  have B7 := hid (B5.out.trans (b7.mono B5.out.size))
  have T7 := hid T7
  have i6 := keptInts13_any cs gi (n + 8) a cap w7 (by rw [HN.out]; omega) R7.out (HA.out.below B7.out (Nat.le_refl _))
  rw [HN.out] at i6
  clear o1 o2 h1 h2 b6 b7 hw7 hg4 hρ7 e7 D5 R5 g5 T35 T5 B5 i5
  go_upto_region 7 with (go_at_call 30; (refine i6.mono ?_); rintro r w8 ⟨rfl, b8, _⟩)
  have i7 := next13_any cs n HN a cap w8 (by omega) (HA.out.below (B7.out.trans (b8.mono B7.out.size)) (Nat.le_refl _))
  have HB8 := hid b8
  clear i6 b8
  go_upto_region 8 with (go_at_call 27; (refine i7.mono ?_); rintro r w9 ⟨v18, rfl, X9⟩)
  obtain ⟨a18, c18, e18, A18⟩ := own_atZ X9.own
  rw [HN2.out] at e18
  subst e18
  have b9 := HB8.out.trans (X9.bel.mono HB8.out.size)
  obtain ⟨ρ9, hρ9⟩ : ∃ ρ9, rx ρ7 w7 0 = ρ9 := ⟨_, rfl⟩
  have e9 : ∀ k, k < w7.heap.size → ρ9 k = ρ7 k := fun k hk => by rw [← hρ9]; exact rx_old hk
  have D9 := D7.out.below b9 ρ9 e9
  have R9 := R7.out.below b9 R7.out.lt
  have g9 : ρ9 gi = 4000 := by rw [e9 gi R7.out.lt]; exact g7.out
  have T39 := T37.out.below b9 e9
  have T59 := T57.out.below b9 e9
  have T79 := T7.out.below b9 e9
  have B9 := B7.out.trans (b9.mono B7.out.size)
  have o18 : ∀ k, (Value.slice a18 n c18).ownBlock = some k → w8.heap.size ≤ k := X9.ge
  have l18 := X9.own.lt
  obtain ⟨w10, hcp, R10, bt⟩ := copy_over13 w9 gi a18 c18 cs (cs.map inc8) (List.replicate 8 77) (by rw [List.length_map]) A18 R9 (n + 8)
  rw [HN2.out] at hcp
  have hbt : ∀ k, k < w9.heap.size → ρ9 k ≠ 4000 → w10.heap[k]? = w9.heap[k]? := fun k hk hne => bt.block k hk (fun e => hne (by rw [e]; exact g9))
  have lgm : m.heap.size ≤ gi := Nat.le_trans hms.out (Nat.le_of_eq HGI0.out)
  have z9 := bt.size
  have kF : ∀ k, F k → ¬ k = gi := fun k hk e => by have := lF.out k hk; omega
  have kG : ∀ k, F' k → ¬ k = gi := fun k hk e => by have := lG.out k hk; omega
  have D10 : Hid (Bw B0 X m ρ9 w10 vh vw vi vj hT wT hI wI WT WI q q' h L F F') := ⟨D9.d.wr bt.os bt.tape bt.output z9 hbt (fun _ _ => rfl), D9.t.keep (But.keepB bt) kF, D9.r.keep (But.keepB bt) kG, D9.f, D9.g, D9.off, D9.tx, D9.ti⟩
  have T310 := hid (T39.wr z9 hbt (fun _ _ => rfl) (by omega) (by omega))
  have T510 := hid (T59.wr z9 hbt (fun _ _ => rfl) (by omega) (by omega))
  have T710 := hid (T79.wr z9 hbt (fun _ _ => rfl) (by omega) (by omega))
  have A10 : Hid (AtI w10 a18 (cs.map inc8)) := fun j p hp => by
    obtain ⟨x, e, y1, y2⟩ := A18 j p hp
    have hx : (Value.slice a18 n c18).ownBlock = some x.block := by rw [e]; rfl
    have := o18 _ hx
    have := R7.out.lt
    have := HB8.out.size
    exact ⟨x, e, by omega, (World.cell?_of_block (by rw [addr_block]; exact bt.block x.block y1 (by omega))).trans y2⟩
  have B10 : Hid (Below w.heap.size w w10) := ⟨bt.os.trans B9.os, bt.tape.trans B9.tape, bt.output.trans B9.output, Nat.le_trans B9.size z9, fun k hk => (bt.block k (by have := B9.size; omega) (by rw [HGI0.out] at hk; omega)).trans (B9.block k hk)⟩
  have HR10 := hid R10
  have i9 := prove13_all HP2.out D10.out.t (HZ.out.below B10.out HZ.out.lt) n HN2.out (by omega) (some ⟨gi, 0, none⟩) (n + 8) (row_pre R10)
  clear i7 X9 A18 b9 hρ9 e9 D9 R9 g9 T39 T59 T79 B9 o18 l18 bt hbt z9 kF kG D7 R7 g7 T37 T57 T7 B7 HB8 R10
  go_upto_region 9 with fail
  clear hcp
  go_upto_region 10 with (go_at_call 29; (refine i9.mono ?_); rintro r w11 ⟨ai11, ci11, ah11, ch11, rfl, o1, o2, h1, h2, b11⟩)
  have T12 := tol_of (ρ := ρ9) (ri := 3000 + (WI.length + 2)) (rt := 3 + (WT.length + 2)) o1 o2 h1 h2 b11
  have b12 := b11.trans (((Below.refl w11.heap.size w11).alloc (Nat.le_refl _) (.cells #[.slice ai11 I2.length ci11, .slice ah11 H2.length ch11] 45)).mono b11.size)
  obtain ⟨w12, hw12⟩ : ∃ w12, w11.alloc (.cells #[.slice ai11 I2.length ci11, .slice ah11 H2.length ch11] 45) = w12 := ⟨_, rfl⟩
  obtain ⟨g6, hg6⟩ : ∃ g6, w11.heap.size = g6 := ⟨_, rfl⟩
  obtain ⟨ρ12, hρ12⟩ : ∃ ρ12, nr ρ9 w10 (.slice ah11 H2.length ch11) (.slice ai11 I2.length ci11) (3 + (WT.length + 2)) (3000 + (WI.length + 2)) = ρ12 := ⟨_, rfl⟩
  have e12 : ∀ k, k < w10.heap.size → ρ12 k = ρ9 k := fun k hk => by rw [← hρ12]; exact nr_old hk
  rw [hw12, hg6, hρ12] at T12
  rw [hw12] at b12 ⊢
  rw [hg6]
  have D12 := hid (D10.out.below b12 ρ12 e12)
  have T312 := hid (T310.out.below b12 e12)
  have T512 := hid (T510.out.below b12 e12)
  have T712 := hid (T710.out.below b12 e12)
  have T12 := hid T12
  have B12 := hid (B10.out.trans (b12.mono B10.out.size))
  have i10 := rprove13_all HP2.out D12.out.r n HN2.out (by omega) a18 c18 (A10.out.below b12 (Nat.le_refl _))
  clear o1 o2 h1 h2 b11 b12 hw12 hg6 hρ12 e12 D10 T310 T510 T710 A10 B10 i9 HR10
  go_upto_region 11 with (go_at_call 18; (refine i10.mono ?_); rintro r w13 ⟨ai13, ci13, ah13, ch13, rfl, o1, o2, h1, h2, b13⟩)
  have T14 := tol_ofR (ρ := ρ12) o1 o2 h1 h2 b13
  have b14 := b13.trans (((Below.refl w13.heap.size w13).alloc (Nat.le_refl _) (.cells #[.slice ai13 I2.length ci13, .slice ah13 H2.length ch13] 45)).mono b13.size)
  obtain ⟨w14, hw14⟩ : ∃ w14, w13.alloc (.cells #[.slice ai13 I2.length ci13, .slice ah13 H2.length ch13] 45) = w14 := ⟨_, rfl⟩
  obtain ⟨g8, hg8⟩ : ∃ g8, w13.heap.size = g8 := ⟨_, rfl⟩
  obtain ⟨ρ14, hρ14⟩ : ∃ ρ14, rx ρ12 w12 0 = ρ14 := ⟨_, rfl⟩
  have e14 : ∀ k, k < w12.heap.size → ρ14 k = ρ12 k := fun k hk => by rw [← hρ14]; exact rx_old hk
  rw [hw14, hg8, hρ14] at T14
  rw [hw14] at b14 ⊢
  rw [hg8]
  have D14 := hid (D12.out.below b14 ρ14 e14)
  have TA := hid (T312.out.below b14 e14)
  have TB := hid (T512.out.below b14 e14)
  have TY := hid (T712.out.below b14 e14)
  have TC := hid (T12.out.below b14 e14)
  have TZ := hid T14
  have B14 := hid (B12.out.trans (b14.mono B12.out.size))
  clear o1 o2 h1 h2 b13 b14 hw14 hg8 hρ14 e14 D12 T312 T512 T712 T12 T14 B12 i10
  generalize (.slice ai I.length ci : Value) = xi1 at *
  generalize (.slice ah H.length chp : Value) = xt1 at *
  generalize (.slice ai4 I.length ci4 : Value) = xi2 at *
  generalize (.slice ah4 H.length ch4 : Value) = xt2 at *
  generalize (.slice ai6 I.length ci6 : Value) = yi at *
  generalize (.slice ah6 H.length ch6 : Value) = yt at *
  generalize (.slice ai11 I2.length ci11 : Value) = xi3 at *
  generalize (.slice ah11 H2.length ch11 : Value) = xt3 at *
  generalize (.slice ai13 I2.length ci13 : Value) = zi at *
  generalize (.slice ah13 H2.length ch13 : Value) = zt at *
  clear HGI0 HZ HA HN HN2 HP HP2 lF lG lgi hms lgm
  have kT : ∀ j, j ≤ 2 → Kr (3 + (WT.length + j)) := fun j hj => .inr (.inl ⟨by omega, by omega⟩)
  have kI : ∀ j, j ≤ 2 → Kr (3000 + (WI.length + j)) := fun j hj => .inr (.inr (by omega))
  have k0 : Kr 0 := .inl rfl
  have okT : TOK (svs H) := ⟨by rw [svs_length]; omega, _, rfl⟩
  have okT2 : TOK (svs H2) := ⟨by rw [svs_length]; omega, _, rfl⟩
  have okI : IOK (I.map fun x => Value.int .i64 x) := ⟨by rw [List.length_map]; omega, _, rfl⟩
  have okI2 : IOK (I2.map fun x => Value.int .i64 x) := ⟨by rw [List.length_map]; omega, _, rfl⟩
  have p1 := TA.out.bx.c1
  have p2 := TY.out.bx.c1
  have ic := texts13_book D14.out.d (by (first | omega | (simp only [List.length_append, List.length_cons, List.length_nil]; done) | (simp only [List.length_append, List.length_cons, List.length_nil]; omega))) (svs H) xt1 yt (by rw [svs_length]; exact TA.out.ot) (fun k hk => (TA.out.ht k hk).trans (by (first | omega | (simp only [List.length_append, List.length_cons, List.length_nil]; done) | (simp only [List.length_append, List.length_cons, List.length_nil]; omega)))) (by rw [svs_length]; exact TY.out.ot) TY.out.ht
  go_upto_region 12 with (go_at_call 31; (refine ic.mono ?_); rintro r w21 ⟨rfl, ρ1_, vh1_, vw1_, d1_, s1_⟩)
  have E1 := hid (D14.out.stay d1_ s1_ (all_snoc D14.out.tx okT) D14.out.ti)
  have TA := hid (TA.out.stay s1_ (kI 0 (by omega)) (kT 0 (by omega)))
  have TB := hid (TB.out.stay s1_ (kI 1 (by omega)) (kT 1 (by omega)))
  have TC := hid (TC.out.stay s1_ (kI 2 (by omega)) (kT 2 (by omega)))
  have TY := hid (TY.out.stay s1_ (k0) (k0))
  have TZ := hid (TZ.out.stay s1_ (k0) (k0))
  have s1 := s1_.2.1
  clear ic p1 p2 d1_ s1_ D14
  have p1 := TB.out.bx.c1
  have p2 := TY.out.bx.c1
  have ic := texts13_book E1.out.d (by (first | omega | (simp only [List.length_append, List.length_cons, List.length_nil]; done) | (simp only [List.length_append, List.length_cons, List.length_nil]; omega))) (svs H) xt2 yt (by rw [svs_length]; exact TB.out.ot) (fun k hk => (TB.out.ht k hk).trans (by (first | omega | (simp only [List.length_append, List.length_cons, List.length_nil]; done) | (simp only [List.length_append, List.length_cons, List.length_nil]; omega)))) (by rw [svs_length]; exact TY.out.ot) TY.out.ht
  go_upto_region 13 with (go_at_call 31; (refine ic.mono ?_); rintro r w22 ⟨rfl, ρ2_, vh2_, vw2_, d2_, s2_⟩)
  have E2 := hid (E1.out.stay d2_ s2_ (all_snoc E1.out.tx okT) E1.out.ti)
  have TA := hid (TA.out.stay s2_ (kI 0 (by omega)) (kT 0 (by omega)))
  have TB := hid (TB.out.stay s2_ (kI 1 (by omega)) (kT 1 (by omega)))
  have TC := hid (TC.out.stay s2_ (kI 2 (by omega)) (kT 2 (by omega)))
  have TY := hid (TY.out.stay s2_ (k0) (k0))
  have TZ := hid (TZ.out.stay s2_ (k0) (k0))
  have s2 := s2_.2.1
  clear ic p1 p2 d2_ s2_ E1
  have p1 := TC.out.bx.c1
  have p2 := TZ.out.bx.c1
  have ic := texts13_book E2.out.d (by (first | omega | (simp only [List.length_append, List.length_cons, List.length_nil]; done) | (simp only [List.length_append, List.length_cons, List.length_nil]; omega))) (svs H2) xt3 zt (by rw [svs_length]; exact TC.out.ot) (fun k hk => (TC.out.ht k hk).trans (by (first | omega | (simp only [List.length_append, List.length_cons, List.length_nil]; done) | (simp only [List.length_append, List.length_cons, List.length_nil]; omega)))) (by rw [svs_length]; exact TZ.out.ot) TZ.out.ht
  go_upto_region 14 with (go_at_call 31; (refine ic.mono ?_); rintro r w23 ⟨rfl, ρ3_, vh3_, vw3_, d3_, s3_⟩)
  have E3 := hid (E2.out.stay d3_ s3_ (all_snoc E2.out.tx okT2) E2.out.ti)
  have TA := hid (TA.out.stay s3_ (kI 0 (by omega)) (kT 0 (by omega)))
  have TB := hid (TB.out.stay s3_ (kI 1 (by omega)) (kT 1 (by omega)))
  have TC := hid (TC.out.stay s3_ (kI 2 (by omega)) (kT 2 (by omega)))
  have TY := hid (TY.out.stay s3_ (k0) (k0))
  have TZ := hid (TZ.out.stay s3_ (k0) (k0))
  have s3 := s3_.2.1
  clear ic p1 p2 d3_ s3_ E2
  have p1 := TA.out.bx.c0
  have p2 := TY.out.bx.c0
  have ic := ints13_book E3.out.d (by (first | omega | (simp only [List.length_append, List.length_cons, List.length_nil]; done) | (simp only [List.length_append, List.length_cons, List.length_nil]; omega))) (I.map fun x => Value.int .i64 x) xi1 yi (by rw [List.length_map]; exact TA.out.oi) (fun k hk => (TA.out.hi k hk).trans (by (first | omega | (simp only [List.length_append, List.length_cons, List.length_nil]; done) | (simp only [List.length_append, List.length_cons, List.length_nil]; omega)))) (by rw [List.length_map]; exact TY.out.oi) TY.out.hi
  go_upto_region 15 with (go_at_call 32; (refine ic.mono ?_); rintro r w24 ⟨rfl, ρ4_, vi4_, vj4_, d4_, s4_⟩)
  have E4 := hid (E3.out.stay d4_ s4_ E3.out.tx (all_snoc E3.out.ti okI))
  have TA := hid (TA.out.stay s4_ (kI 0 (by omega)) (kT 0 (by omega)))
  have TB := hid (TB.out.stay s4_ (kI 1 (by omega)) (kT 1 (by omega)))
  have TC := hid (TC.out.stay s4_ (kI 2 (by omega)) (kT 2 (by omega)))
  have TY := hid (TY.out.stay s4_ (k0) (k0))
  have TZ := hid (TZ.out.stay s4_ (k0) (k0))
  have s4 := s4_.2.1
  clear ic p1 p2 d4_ s4_ E3
  have p1 := TB.out.bx.c0
  have p2 := TY.out.bx.c0
  have ic := ints13_book E4.out.d (by (first | omega | (simp only [List.length_append, List.length_cons, List.length_nil]; done) | (simp only [List.length_append, List.length_cons, List.length_nil]; omega))) (I.map fun x => Value.int .i64 x) xi2 yi (by rw [List.length_map]; exact TB.out.oi) (fun k hk => (TB.out.hi k hk).trans (by (first | omega | (simp only [List.length_append, List.length_cons, List.length_nil]; done) | (simp only [List.length_append, List.length_cons, List.length_nil]; omega)))) (by rw [List.length_map]; exact TY.out.oi) TY.out.hi
  go_upto_region 16 with (go_at_call 32; (refine ic.mono ?_); rintro r w25 ⟨rfl, ρ5_, vi5_, vj5_, d5_, s5_⟩)
  have E5 := hid (E4.out.stay d5_ s5_ E4.out.tx (all_snoc E4.out.ti okI))
  have TA := hid (TA.out.stay s5_ (kI 0 (by omega)) (kT 0 (by omega)))
  have TB := hid (TB.out.stay s5_ (kI 1 (by omega)) (kT 1 (by omega)))
  have TC := hid (TC.out.stay s5_ (kI 2 (by omega)) (kT 2 (by omega)))
  have TY := hid (TY.out.stay s5_ (k0) (k0))
  have TZ := hid (TZ.out.stay s5_ (k0) (k0))
  have s5 := s5_.2.1
  clear ic p1 p2 d5_ s5_ E4
  have p1 := TC.out.bx.c0
  have p2 := TZ.out.bx.c0
  have ic := ints13_book E5.out.d (by (first | omega | (simp only [List.length_append, List.length_cons, List.length_nil]; done) | (simp only [List.length_append, List.length_cons, List.length_nil]; omega))) (I2.map fun x => Value.int .i64 x) xi3 zi (by rw [List.length_map]; exact TC.out.oi) (fun k hk => (TC.out.hi k hk).trans (by (first | omega | (simp only [List.length_append, List.length_cons, List.length_nil]; done) | (simp only [List.length_append, List.length_cons, List.length_nil]; omega)))) (by rw [List.length_map]; exact TZ.out.oi) TZ.out.hi
  go_upto_region 17 with (go_at_call 32; (refine ic.mono ?_); rintro r w26 ⟨rfl, ρ6_, vi6_, vj6_, d6_, s6_⟩)
  have E6 := hid (E5.out.stay d6_ s6_ E5.out.tx (all_snoc E5.out.ti okI2))
  have TA := hid (TA.out.stay s6_ (kI 0 (by omega)) (kT 0 (by omega)))
  have TB := hid (TB.out.stay s6_ (kI 1 (by omega)) (kT 1 (by omega)))
  have TC := hid (TC.out.stay s6_ (kI 2 (by omega)) (kT 2 (by omega)))
  have TY := hid (TY.out.stay s6_ (k0) (k0))
  have TZ := hid (TZ.out.stay s6_ (k0) (k0))
  have s6 := s6_.2.1
  clear ic p1 p2 d6_ s6_ E5
  have DF := E6
  have sF := Nat.le_trans s1 (Nat.le_trans s2 (Nat.le_trans s3 (Nat.le_trans s4 (Nat.le_trans s5 s6))))
  have n1 : (c == c) = true := by simp
  have n2 : (c2 == c2) = true := by simp
  go_wp2
  go_ret
  exact ⟨rfl, _, _, _, _, _, _, _, _, _, _, _, DF.out, by (first | omega | (simp only [List.length_append, List.length_cons, List.length_nil]; done) | (simp only [List.length_append, List.length_cons, List.length_nil]; omega)), by (first | omega | (simp only [List.length_append, List.length_cons, List.length_nil]; done) | (simp only [List.length_append, List.length_cons, List.length_nil]; omega)), Nat.le_trans B14.out.size sF⟩
end Gb
end Chn
end Go.Proofs.YtjcapdkibbjmiaaGreatDoor
