import Derived.Test.YtbkppdkebcdcoaaDoorCSL11
import Derived.Test.YtbkppdkebcdcoaaDoorCFN1
import Derived.Test.YtbkppdkebcdcoaaDoorCK5
import Derived.Lib.SmallJoins
namespace Go.Proofs.YtbkppdkebcdcoaaDoor
open Go.RowKit Go.Shelf
theorem conv1b (w : World) (x : Nat) (hx : x < 256) : ∃ b : ByteArray, Hid (b.size = 1) ∧ (convert 56 9 (.slice (some ⟨w.heap.size, 0, none⟩) 1 1)).run Tryd.prog (w.alloc (.cells #[.int .u8 (x : Int)] 5)) = .ok (.string b) (w.alloc (.cells #[.int .u8 (x : Int)] 5)) := by
  have e : #[Value.int .u8 (x : Int)] = (bv [UInt8.ofNat x]).toArray := by
    simp [bv]; omega
  refine ⟨⟨[UInt8.ofNat x].toArray⟩, rfl, ?_⟩
  rw [e]
  exact run_conv_bytes (P := Tryd.prog) _ 56 9 5 w.heap.size 0 1 1 [UInt8.ofNat x] rfl Tryd.underlying56 Tryd.underlying5 Tryd.underlying9 (rangeAt_of_list (heap_alloc_new w _) (fun j v hv => by rw [Nat.zero_add]; exact hv))
theorem hash8_at (s : ByteArray) (D : List UInt8) (hD : Hid (Sha.sha s.data.toList = D)) (hs : s.size ≤ 140737488355000) (w : World) : Calls Tryd.prog 31 #[.string s] w fun r w' => r = .returned (sv D) ∧ Below w.heap.size w w' := by
  have h := hash8_any s hs w
  rw [hD.out] at h
  exact h
set_option maxRecDepth 100000 in
set_option maxHeartbeats 8000000 in
theorem trees8_law (l : List (List UInt8)) (index first : Int) (cs : List Int) (a ai : Option Addr) (cap capi : Nat) (hi1 : -9223372036854775808 ≤ index) (hi2 : index ≤ 9223372036854775807)
    (hf1 : -9223372036854775808 ≤ first) (hf2 : first ≤ 9223372036854775807) (hl : l.length ≤ 9223372036854775807) (hq : ∀ q ∈ l, q.length ≤ 140737488351232) (hcs : cs.length ≤ 9223372036854775807) (hw : ∀ x ∈ cs, -9223372036854775808 ≤ x ∧ x ≤ 9223372036854775807) (w : World) (hA : At w a l) (hAi : AtI w ai cs) (Z : Tb w) :
    Calls Tryd.prog 8 #[.slice a l.length cap, .int .i64 index, .int .i64 first, .slice ai cs.length capi] w fun r w' => r = .returned (.bool true) ∧ Below w.heap.size w w' := by
  have i0 := known8_any w Z
  obtain ⟨n, hn⟩ : ∃ n, Hid (l.length = n) := ⟨_, rfl⟩
  rw [hn.out] at hl ⊢
  obtain ⟨p, hp, hp70⟩ := pk_nat (n : Int) 70 (by omega)
  have i1 := fun w' => pick_any (n : Int) ((70 : Nat) : Int) (by omega) (by omega) (by omega) (by omega) w'
  rw [hp.out] at i1
  obtain ⟨M, hM⟩ : ∃ M : Nat, M = p + 1 := ⟨_, rfl⟩
  have hMw : IntKind.i64.wrap (1 + (p : Int)) = (M : Int) := by rw [IntKind.wrap_i64]; omega
  have M1 : 1 ≤ M := by omega
  have M2 : M ≤ 70 := by omega
  clear hM hp hp70
  have HA := hid hA
  have HQ := hid hq
  have HI := hid hAi
  have HW := hid hw
  have HZ := hid Z
  clear hA hq hAi hw Z
  generalize hcl : cs.length = nc at *
  go_enter Tryd.func8, Tryd.ntmps8
  go_wp2_with (first
    | (go_at_call 9; refine i0.mono ?_; rintro r w1 ⟨rfl, b1⟩; have B0 := hid b1; clear i0 b1)
    | (go_at_call 10; refine (i1 _).mono ?_; rintro r w' ⟨rfl, h0⟩; have h0 := h0.symm; subst h0))
  go_loopw [11, 12] (fun v i w' => ∃ (k : Nat) (X : List (List UInt8)), k ≤ M ∧ i = .int .i64 (k : Int) ∧ Hid (X.length = k) ∧ Hid (X.all (·.length == 32) = true) ∧ Hid (Own w' w.heap.size v (svs X)) ∧ Hid (Below w.heap.size w w')) (fun _ i _ => M - (intOf i).toNat)
  case atStart => exact ⟨0, [], by omega, rfl, rfl, rfl, Own.nil _ _, B0⟩
  case round =>
    clear B0
    obtain ⟨k, X, hkM, rfl, hXl, hXa, hO, hB⟩ := hrel
    by_cases hk : k < M
    · have b1 : (k : Int) < (M : Int) := by omega
      have e0 : (k : Int) % 256 = (k : Int) := by omega
      obtain ⟨b, hb1, hcv⟩ := conv1b wr k (by omega)
      have hbl : ¬ 9223372036854775807 < 4 + b.size := by have := hb1.out; omega
      have hB1 := hid (hB.out.alloc hB.out.size (.cells #[.int .u8 (k : Int)] 5))
      have hO1 := hid (hO.out.alloc (.cells #[.int .u8 (k : Int)] 5))
      by_cases hkn : k < n
      · have b0 : (k : Int) < (n : Int) := by omega
        have hkl : k < l.length := by have := hn.out; omega
        obtain ⟨x, rfl⟩ := HA.out.pos (by omega)
        obtain ⟨s, hs, hcell⟩ := (HA.out.below hB1.out (Nat.le_refl _)).cell k hkl
        obtain ⟨D, hD⟩ : ∃ D, Hid (Sha.sha s.data.toList = D) := ⟨_, rfl⟩
        have hsz : s.size ≤ 140737488355000 := by
          have := HQ.out (l[k]'hkl) (List.getElem_mem hkl)
          rw [← hs.out, data_length] at this
          omega
        have h1 := hash8_at s D hD hsz (wr.alloc (.cells #[.int .u8 (k : Int)] 5))
        have lD : D.length = 32 := by rw [← hD.out, Sha.sha_length]
        clear hs hD hkl
        go_wp2_with (first
          | (go_at_call 31; fail))
        refine h1.mono ?_
        rintro e w2 ⟨rfl, hw2⟩
        obtain ⟨v3, w3, hap, hO3, hb3⟩ := append_text w2 w.heap.size _ X D (hO1.out.below hw2 (Nat.le_refl _)) (by have := hXl.out; omega) (Nat.le_trans hB1.out.size hw2.size)
        rw [show sv D = Value.string ⟨D.toArray⟩ from rfl] at hap ⊢
        go_wp2_with (at_builtin; go_must (refine Lib.wpList_append_run _ rfl _ _ 55 55 rfl _ _ rfl rfl _ _ hap ?_))
        have fin : Hid ((X ++ [D]).length = k + 1) ∧ Hid ((X ++ [D]).all (·.length == 32) = true) := ⟨by have := hXl.out; unfold Hid; simp; omega, by have := hXa.out; unfold Hid; rw [List.all_append, this]; simp [lD]⟩
        have fB := hid ((hB1.out.trans (hw2.mono hB1.out.size)).trans hb3)
        refine ⟨?_, by simp [intOf]; omega⟩
        first
          | exact ⟨k + 1, X ++ [D], by omega, by go_num, fin.1, fin.2, hid hO3, fB⟩
          | (repeat apply Exists.intro
             exact ⟨⟨k + 1, X ++ [D], by omega, by go_num, fin.1, fin.2, hid hO3, fB⟩, rfl⟩)
      · have b0 : ¬ (k : Int) < (n : Int) := by omega
        obtain ⟨D, hD⟩ : ∃ D, Hid (Sha.sha (ByteArray.mk #[110, 111, 110, 101] ++ b).data.toList = D) := ⟨_, rfl⟩
        have hsz : (ByteArray.mk #[110, 111, 110, 101] ++ b).size ≤ 140737488355000 := by
          rw [ByteArray.size_append, show (ByteArray.mk #[110, 111, 110, 101]).size = 4 from rfl]
          have := hb1.out
          omega
        have h1 := hash8_at (ByteArray.mk #[110, 111, 110, 101] ++ b) D hD hsz (wr.alloc (.cells #[.int .u8 (k : Int)] 5))
        have lD : D.length = 32 := by rw [← hD.out, Sha.sha_length]
        clear hD
        go_wp2_with (first
          | (go_at_call 31; fail))
        refine h1.mono ?_
        rintro e w2 ⟨rfl, hw2⟩
        obtain ⟨v3, w3, hap, hO3, hb3⟩ := append_text w2 w.heap.size _ X D (hO1.out.below hw2 (Nat.le_refl _)) (by have := hXl.out; omega) (Nat.le_trans hB1.out.size hw2.size)
        rw [show sv D = Value.string ⟨D.toArray⟩ from rfl] at hap ⊢
        go_wp2_with (at_builtin; go_must (refine Lib.wpList_append_run _ rfl _ _ 55 55 rfl _ _ rfl rfl _ _ hap ?_))
        have fin : Hid ((X ++ [D]).length = k + 1) ∧ Hid ((X ++ [D]).all (·.length == 32) = true) := ⟨by have := hXl.out; unfold Hid; simp; omega, by have := hXa.out; unfold Hid; rw [List.all_append, this]; simp [lD]⟩
        have fB := hid ((hB1.out.trans (hw2.mono hB1.out.size)).trans hb3)
        refine ⟨?_, by simp [intOf]; omega⟩
        first
          | exact ⟨k + 1, X ++ [D], by omega, by go_num, fin.1, fin.2, hid hO3, fB⟩
          | (repeat apply Exists.intro
             exact ⟨⟨k + 1, X ++ [D], by omega, by go_num, fin.1, fin.2, hid hO3, fB⟩, rfl⟩)
    · have b1 : ¬ (k : Int) < (M : Int) := by omega
      have hXM : X.length = M := by rw [hXl.out]; omega
      obtain ⟨xa, xcap, hv, hXA, hxl, hxc⟩ := hO.out.at
      rw [hXM] at hv hxl
      subst hv
      have FT0 := hid (HZ.out.below hB.out HZ.out.lt)
      have FX0 := hid hXA
      have FB0 := hB
      have FI0 := hid (HI.out.below hB.out (Nat.le_refl _))
      obtain ⟨kk, hkk, hkM2⟩ := pk_nat index M M1
      have i2 := fun w' => pick_any index (M : Int) hi1 hi2 (by omega) (by omega) w'
      rw [hkk.out] at i2
      obtain ⟨m0, hm, hm0⟩ := pk_nat first M M1
      have i3 := fun w' => pick_any first (M : Int) hf1 hf2 (by omega) (by omega) w'
      rw [hm.out] at i3
      obtain ⟨m, hmm⟩ : ∃ m : Nat, m = m0 + 1 := ⟨_, rfl⟩
      have hmw : IntKind.i64.wrap (1 + (m0 : Int)) = (m : Int) := by rw [IntKind.wrap_i64]; omega
      have m1 : 1 ≤ m := by omega
      have m2 : m ≤ M := by omega
      have i4 := fun w' h => rising20_any M cs ai capi M1 (by omega) (by rw [hcl]; exact hcs) HW.out w' h
      rw [hcl] at i4
      obtain ⟨R, hR⟩ : ∃ R : Nat, (M : Int) - (kk : Int) = (R : Int) := ⟨M - kk, by omega⟩
      have hRw : IntKind.i64.wrap ((M : Int) - (kk : Int)) = (R : Int) := by rw [IntKind.wrap_i64]; omega
      obtain ⟨q, hq, hqR⟩ := pk_nat first R (by omega)
      have i12 := fun w' => pick_any first (R : Int) hf1 hf2 (by omega) (by omega) w'
      rw [hq.out] at i12
      obtain ⟨k1, hk1⟩ : ∃ k1 : Nat, k1 = kk + 1 := ⟨_, rfl⟩
      have hk1w : IntKind.i64.wrap ((kk : Int) + 1) = (k1 : Int) := by rw [IntKind.wrap_i64]; omega
      obtain ⟨Y, hY⟩ : ∃ Y : Nat, Y = k1 + q := ⟨_, rfl⟩
      have hYw : IntKind.i64.wrap ((k1 : Int) + (q : Int)) = (Y : Int) := by rw [IntKind.wrap_i64]; omega
      have hkY : kk < Y := by omega
      have hYM : Y ≤ M := by omega
      obtain ⟨P, Q, SA, SC, SX, pn, qn, yn, TA⟩ := trA_ok X M kk m Y hXM hXa.out M1 M2 hkM2 m1 m2 hkY hYM xa xcap hxl hxc
      have HTB := hid (fun L ra rc hB h1 h2 => trB_ok X M L hXM hXa.out M2 hB xa ra xcap rc hxl hxc h1 h2)
      have TA := hid TA
      generalize Tree.root X = Rt at *
      clear hmm hm0 hR hqR hk1 hY hXA HI HA HQ hO hB hXM hXl hXa hxl hxc m1 m2 HW hn
      go_wp2_with (first
        | (go_at_call 10; (first | (with_reducible refine (i2 _).mono ?_) | (with_reducible refine (i3 _).mono ?_)); rintro r w' ⟨rfl, h0⟩; have h0 := h0.symm; subst h0)
        | (go_at_call 18; fail))
      refine (i4 _ FI0.out).mono ?_
      rintro r w2 ⟨ra, rc, L, rfl, FL1', hBk, b2, hLr, hrc⟩
      have FT1 := hid (FT0.out.below b2 FT0.out.lt)
      have FX1 := hid (FX0.out.below b2 (Nat.le_refl _))
      have FB1 := hid (FB0.out.trans (b2.mono FB0.out.size))
      clear FT0 FX0 FB0
      have FL1 := hid FL1'
      obtain ⟨MN, SD, mn, lr, TB⟩ := HTB.out L ra rc hBk hLr hrc
      have TB := hid TB
      rw [TB.out.lenL]
      clear hBk b2 FL1' i4 FI0 HTB hLr hrc i2 i3
      go_wp2_with (go_at_call 32; fail)
      refine (TA.out.root _ FX1.out FT1.out.t).mono ?_
      rintro r w3 ⟨rfl, b3⟩
      have FT2 := hid (FT1.out.below b3 FT1.out.lt)
      have FX2 := hid (FX1.out.below b3 (Nat.le_refl _))
      have FB2 := hid (FB1.out.trans (b3.mono FB1.out.size))
      have FL2 := hid (FL1.out.below b3 (Nat.le_refl _))
      clear FT1 FX1 FB1 FL1
      clear b3
      go_wp2_with (go_at_call 33; fail)
      refine (TA.out.path _ FX2.out FT2.out.t).mono ?_
      rintro r w4 ⟨pa, pc, rfl, FP3', b4⟩
      have FT3 := hid (FT2.out.below b4 FT2.out.lt)
      have FX3 := hid (FX2.out.below b4 (Nat.le_refl _))
      have FB3 := hid (FB2.out.trans (b4.mono FB2.out.size))
      have FL3 := hid (FL2.out.below b4 (Nat.le_refl _))
      clear FT2 FX2 FB2 FL2
      have FP3 := hid FP3'
      clear b4 FP3'
      go_wp2_with (go_at_call 34; fail)
      refine (TA.out.proof _ FX3.out FT3.out.t).mono ?_
      rintro r w5 ⟨qa, qc, rfl, FQ4', b5⟩
      have FT4 := hid (FT3.out.below b5 FT3.out.lt)
      have FX4 := hid (FX3.out.below b5 (Nat.le_refl _))
      have FB4 := hid (FB3.out.trans (b5.mono FB3.out.size))
      have FL4 := hid (FL3.out.below b5 (Nat.le_refl _))
      have FP4 := hid (FP3.out.below b5 (Nat.le_refl _))
      clear FT3 FX3 FB3 FL3 FP3
      have FQ4 := hid FQ4'
      clear b5 FQ4'
      go_wp2_with (go_at_call 35; fail)
      refine (TB.out.many _ FX4.out FT4.out.t FL4.out).mono ?_
      rintro r w6 ⟨ma, mc, rfl, FM5', b6⟩
      have FT5 := hid (FT4.out.below b6 FT4.out.lt)
      have FX5 := hid (FX4.out.below b6 (Nat.le_refl _))
      have FB5 := hid (FB4.out.trans (b6.mono FB4.out.size))
      have FL5 := hid (FL4.out.below b6 (Nat.le_refl _))
      have FP5 := hid (FP4.out.below b6 (Nat.le_refl _))
      have FQ5 := hid (FQ4.out.below b6 (Nat.le_refl _))
      clear FT4 FX4 FB4 FL4 FP4 FQ4
      have FM5 := hid FM5'
      clear b6 FM5'
      go_wp2_with (go_at_call 19; fail)
      refine (TA.out.spath _).mono ?_
      rintro r w7 ⟨aa, ac, rfl, FA6', b7⟩
      have FT6 := hid (FT5.out.below b7 FT5.out.lt)
      have FX6 := hid (FX5.out.below b7 (Nat.le_refl _))
      have FB6 := hid (FB5.out.trans (b7.mono FB5.out.size))
      have FL6 := hid (FL5.out.below b7 (Nat.le_refl _))
      have FP6 := hid (FP5.out.below b7 (Nat.le_refl _))
      have FQ6 := hid (FQ5.out.below b7 (Nat.le_refl _))
      have FM6 := hid (FM5.out.below b7 (Nat.le_refl _))
      clear FT5 FX5 FB5 FL5 FP5 FQ5 FM5
      have FA6 := hid FA6'
      clear b7 FA6'
      go_wp2_with (go_at_call 20; fail)
      refine (TA.out.sproof _).mono ?_
      rintro r w8 ⟨ca, cc, rfl, FC7', b8⟩
      have FT7 := hid (FT6.out.below b8 FT6.out.lt)
      have FX7 := hid (FX6.out.below b8 (Nat.le_refl _))
      have FB7 := hid (FB6.out.trans (b8.mono FB6.out.size))
      have FL7 := hid (FL6.out.below b8 (Nat.le_refl _))
      have FP7 := hid (FP6.out.below b8 (Nat.le_refl _))
      have FQ7 := hid (FQ6.out.below b8 (Nat.le_refl _))
      have FM7 := hid (FM6.out.below b8 (Nat.le_refl _))
      have FA7 := hid (FA6.out.below b8 (Nat.le_refl _))
      clear FT6 FX6 FB6 FL6 FP6 FQ6 FM6 FA6
      have FC7 := hid FC7'
      clear b8 FC7'
      go_wp2_with (go_at_call 21; fail)
      refine (TB.out.batch _ FL7.out).mono ?_
      rintro r w9 ⟨b9, vd, rfl, FD8', hdf⟩
      have HDF := hid hdf
      obtain ⟨da, dc, hvd, hd1, hd2⟩ := FD8'.shape
      rw [TB.out.len] at hvd
      subst hvd
      have b9' := b9
      have hlb := hid (fun k h => FD8'.lt k h)
      have S9 := SpI.new w9 (kk : Int) (Y : Int)
      have c0 := S9.c0
      have c1 := S9.c1
      have bA := (Below.refl _ w9).alloc (Nat.le_refl _) (.cells #[.int .i64 (kk : Int), .int .i64 (Y : Int)] 25)
      have FD9 := hid (FD8'.below bA)
      have FS9 := hid S9
      have FE9 := hid (b9.trans (bA.mono b9.size))
      clear b9 FD8' S9 bA b9' hdf
      go_wp2_with (first
        | (go_at_call 10; (with_reducible refine (i12 _).mono ?_); rintro r w' ⟨rfl, h0⟩; have h0 := h0.symm; subst h0)
        | (go_at_call 25; fail))
      refine (TA.out.srun _).mono ?_
      rintro r w11 ⟨b11, vx, rfl, FR10', hxf⟩
      obtain ⟨ya, yc, hvy, hy1, hy2⟩ := FR10'.shape
      rw [TA.out.len] at hvy
      subst hvy
      have T11 : T2 w8 w11 w9.heap.size kk Y (.slice da mn dc) (.slice ya yn yc) SD SX :=
        ⟨FE9.out.trans (b11.mono FE9.out.size), FD9.out.below b11, FR10', FS9.out.below b11, HDF.out, fun k h => Nat.le_trans FE9.out.size (hxf k h), fun k h h' => by have := hxf k h'; have := FD9.out.lt k h; omega,
          fun h => by have := hlb.out _ h; omega, fun h => by have := hxf _ h; rw [size_alloc] at this; omega⟩
      have FG10 := hid T11
      generalize w9.heap.size = gS at *
      clear b11 hxf FR10' T11 FE9 FD9 FS9 HDF hlb hy1 hy2 c0 c1 i12
      have KX := hid (fun w' (h : Below w8.heap.size w8 w') => FX7.out.below h (Nat.le_refl _))
      have KT := hid (fun w' (h : Below w8.heap.size w8 w') => FT7.out.below h FT7.out.lt)
      have KL := hid (fun w' (h : Below w8.heap.size w8 w') => FL7.out.below h (Nat.le_refl _))
      go_wp2_with (go_at_call 36; fail)
      refine (TA.out.one _ _ _ _ _ (KX.out _ FG10.out.bel) (FA7.out.below FG10.out.bel (Nat.le_refl _)) (FP7.out.below FG10.out.bel (Nat.le_refl _)) (KT.out _ FG10.out.bel)).mono ?_
      rintro r w12 ⟨rfl, b12⟩
      have FG11 := hid (FG10.out.below b12)
      clear FG10 b12 FA7 FP7
      go_wp2_with (go_at_call 36; fail)
      refine (TA.out.two _ _ _ _ _ (KX.out _ FG11.out.bel) (FC7.out.below FG11.out.bel (Nat.le_refl _)) (FQ7.out.below FG11.out.bel (Nat.le_refl _)) (KT.out _ FG11.out.bel)).mono ?_
      rintro r w13 ⟨rfl, b13⟩
      have FG12 := hid (FG11.out.below b13)
      clear FG11 b13 FC7 FQ7
      go_wp2_with (go_at_call 36; fail)
      refine (TB.out.three _ _ _ _ _ (KX.out _ FG12.out.bel) (OwnP.atP FG12.out.od) (FM7.out.below FG12.out.bel (Nat.le_refl _)) (KT.out _ FG12.out.bel)).mono ?_
      rintro r w14 ⟨rfl, b14⟩
      have FG13 := hid (FG12.out.below b14)
      clear FG12 b14 FM7 FX7 FT7 FL7
      go_wp2
      have hmnf := TB.out.few
      have hlrf := TB.out.fewL
      have hynf := TA.out.few
      go_loopw [29, 37] (fun v i w' => ∃ j : Nat, j ≤ lr ∧ i = .int .i64 (j : Int) ∧ Hid (T2 w8 w' gS kk Y v (.slice ya yn yc) (SD ++ lvs ((toN L).take j)) SX)) (fun _ i _ => lr - (intOf i).toNat)
      case atStart => exact ⟨0, by omega, rfl, by rw [List.take_zero, show lvs [] = [] from rfl, List.append_nil]; exact FG13⟩
      case round =>
        clear FG13
        obtain ⟨j, hj, rfl, hT⟩ := hrel
        by_cases hjl : j < lr
        · have b2 : (j : Int) < (lr : Int) := by omega
          have j0 : (0 : Int) ≤ (j : Int) := by omega
          obtain ⟨ix, e1, e2, e3⟩ := TB.out.inL j hjl
          obtain ⟨xr, rfl, _, c1⟩ := KL.out _ hT.out.bel j _ e1
          have hTl : (SD ++ lvs ((toN L).take j)).length ≤ 1099511627776 := by rw [List.length_append, lvs_len, List.length_take, TB.out.len]; omega
          obtain ⟨v', w3, hap, O3, G3⟩ := append_pair wr.drew u29 (SD ++ lvs ((toN L).take j)) ix (ix + 1) hT.out.drew.od hTl
          rw [List.append_assoc, ← lvs_take (toN L) e3] at O3
          have T3 := hid (hT.out.drew.growD G3 O3)
          have e4 : ((ix + 1 : Nat) : Int) = IntKind.i64.wrap ((ix : Int) + 1) := by rw [IntKind.wrap_i64]; omega
          rw [e4] at hap
          have hap : (Builtin.append_ #[34, 34] 34 #[u29, .slice (some ⟨wr.heap.size, 0, none⟩) 1 1]).run Tryd.prog (wr.alloc (.cells #[.int .i64 (ix : Int), .int .i64 (IntKind.i64.wrap ((ix : Int) + 1))] 25)).drew = .ok v' w3 := hap
          clear O3 G3 hT e1 e3 hTl
          go_wp2
          go_region_law (refine step_append_run rfl _ _ 34 rfl u29 _ v' w3 rfl rfl hap ?_)
          all_goals
            go_wp2
            exact ⟨⟨j + 1, by omega, by go_num, T3⟩, by simp [intOf]; omega⟩
        · obtain rfl : j = lr := by omega
          have b2 : ¬ (j : Int) < (j : Int) := by omega
          have hT2 := hT.out
          rw [List.take_of_length_le (by rw [toN_len, TB.out.lenL]; omega)] at hT2
          have hAin := hid TB.out.inD
          have hAfold := hid TB.out.fold
          have hAl : (SD ++ lvs (toN L)).length ≤ 9000 := by rw [List.length_append, lvs_len, toN_len, TB.out.len, TB.out.lenL]; omega
          generalize SD ++ lvs (toN L) = AA at *
          obtain ⟨ad, cd, hvd, hd3, hd4⟩ := hT2.od.shape
          subst hvd
          have c2 := hT2.sp.c0
          have FG14 := hid hT2
          clear hT hT2 TB KL
          obtain ⟨an, han⟩ : ∃ an, Hid (AA.length = an) := ⟨_, rfl⟩
          rw [han.out] at FG14 hAl ⊢
          go_wp2
          go_loopw [32, 38] (fun v i w' => ∃ j : Nat, kk + j ≤ Y ∧ i = .int .i64 ((kk + j : Nat) : Int) ∧ Hid (T2 w8 w' gS kk Y (.slice ad an cd) v AA (SX ++ lvs (List.range' kk j)))) (fun _ i _ => Y - (intOf i).toNat)
          case atStart => exact ⟨0, by omega, rfl, by rw [List.range'_zero, show lvs [] = [] from rfl, List.append_nil]; exact FG14⟩
          case round =>
            clear FG14 c2
            obtain ⟨j3, hj3, rfl, hT⟩ := hrel
            have c3 := hT.out.sp.c1
            by_cases hjY : kk + j3 < Y
            · obtain ⟨I, hI⟩ : ∃ I, kk + j3 = I := ⟨_, rfl⟩
              have hTl : (SX ++ lvs (List.range' kk j3)).length ≤ 1099511627776 := by rw [List.length_append, lvs_len, List.length_range', TA.out.len]; omega
              obtain ⟨v', w3, hap, O3, G3⟩ := append_pair wr u32 (SX ++ lvs (List.range' kk j3)) (kk + j3) (kk + j3 + 1) hT.out.ox hTl
              rw [List.append_assoc, ← range_snoc] at O3
              have T3 := hid (hT.out.growX G3 O3)
              rw [hI] at hap hjY ⊢
              have b3 : (I : Int) < (Y : Int) := by omega
              have hI1 : kk + (j3 + 1) = I + 1 := by omega
              have e4 : ((I + 1 : Nat) : Int) = (I : Int) + 1 := by omega
              rw [e4] at hap
              clear O3 G3 hT hTl
              go_wp2_with (at_builtin; go_must (refine Lib.wpList_append_run _ rfl _ _ 34 34 rfl _ _ rfl rfl _ _ hap ?_))
              exact ⟨⟨j3 + 1, by omega, by rw [hI1]; go_num, T3⟩, by simp [intOf]; omega⟩
            · obtain rfl : j3 = Y - kk := by omega
              have b3 : ¬ ((kk + (Y - kk) : Nat) : Int) < (Y : Int) := by omega
              have hT2 := hT.out
              have hBin := hid TA.out.inX
              have hBfold := hid TA.out.fold
              have hBl : (SX ++ lvs (List.range' kk (Y - kk))).length ≤ 9000 := by rw [List.length_append, lvs_len, List.length_range', TA.out.len]; omega
              have FDC := hid TA.out.fd
              generalize SX ++ lvs (List.range' kk (Y - kk)) = BB at *
              obtain ⟨ax, cx, hvx, hd5, hd6⟩ := hT2.ox.shape
              subst hvx
              have DA := hid (OwnP.atP hT2.od)
              have DB := hid (OwnP.atP hT2.ox)
              have HT := hid hT2.bel
              obtain ⟨bn, hbn⟩ : ∃ bn, Hid (BB.length = bn) := ⟨_, rfl⟩
              rw [hbn.out] at hBl ⊢
              clear hT hT2 TA
              obtain ⟨wT, rfl⟩ : ∃ wT, wT = wr := ⟨_, rfl⟩
              rw [show sv Rt = Value.string ⟨Rt.toArray⟩ from rfl]
              have FDA : ∀ w' ah ch, Below w8.heap.size w8 w' → AtP w' ad (pm AA) → At w' ah (AA.map (shX X)) → Calls Tryd.prog 38 #[.int .i64 (M : Int), .slice ad an cd, .slice ah an ch, sg 0 M] w' fun r w'' => r = .returned (.tuple #[.string ⟨Rt.toArray⟩, .int .i64 0]) ∧ Below w'.heap.size w' w'' := fun w' ah ch hb h1 h2 => by
                have h := foldF_any (M : Int) (pm AA) (AA.map (shX X)) 0 M ad ah cd ch w' (by rw [List.length_map, han.out]; omega) (by rw [List.length_map, han.out]; omega) h1 h2 (KT.out _ hb).t
                rw [hAfold.out, List.length_map, List.length_map, han.out] at h
                exact h
              have FDB : ∀ w' ah ch, Below w8.heap.size w8 w' → AtP w' ax (pm BB) → At w' ah (BB.map (shX X)) → Calls Tryd.prog 38 #[.int .i64 (M : Int), .slice ax bn cx, .slice ah bn ch, sg 0 M] w' fun r w'' => r = .returned (.tuple #[.string ⟨Rt.toArray⟩, .int .i64 0]) ∧ Below w'.heap.size w' w'' := fun w' ah ch hb h1 h2 => by
                have h := foldF_any (M : Int) (pm BB) (BB.map (shX X)) 0 M ax ah cx ch w' (by rw [List.length_map, hbn.out]; omega) (by rw [List.length_map, hbn.out]; omega) h1 h2 (KT.out _ hb).t
                rw [hBfold.out, List.length_map, List.length_map, hbn.out] at h
                exact h
              have FDA := hid FDA
              have FDB := hid FDB
              clear hAfold hBfold
              go_wp2
              go_loopw [39, 41, 42] (fun v i _ w' => ∃ j : Nat, j ≤ an ∧ i = .int .i64 (j : Int) ∧ Hid (Own w' wT.heap.size v (svs ((AA.take j).map (shX X)))) ∧ Hid (Below wT.heap.size wT w')) (fun _ i _ _ => an - (intOf i).toNat)
              case atStart => exact ⟨0, by omega, rfl, hid (Own.nil _ _), hid (Below.refl _ _)⟩
              case round =>
                obtain ⟨j4, hj4, rfl, hO, hB⟩ := hrel
                by_cases hja : j4 < an
                · have b4 : (j4 : Int) < (an : Int) := by omega
                  have j0 : (0 : Int) ≤ (j4 : Int) := by omega
                  have hje : j4 < AA.length := by rw [han.out]; exact hja
                  have e := List.getElem?_eq_getElem hje
                  obtain ⟨sb, se, hse⟩ : ∃ sb se, AA[j4] = (sb, se) := ⟨_, _, rfl⟩
                  rw [hse] at e
                  obtain ⟨gq, rfl, _, c4, c5⟩ := (DA.out.below hB.out (Nat.le_refl _)) j4 ((sb : Int), (se : Int)) (by rw [List.getElem?_map, e]; rfl)
                  have hin := hAin.out (sb, se) (List.mem_of_getElem? e)
                  have hB8 := HT.out.trans (hB.out.mono HT.out.size)
                  have i5 := FDC.out wr sb se hin.1 hin.2 (KX.out _ hB8) (KT.out _ hB8)
                  have hsn := sv_take X AA e
                  obtain ⟨D, hD⟩ : ∃ D, shX X (sb, se) = D := ⟨_, rfl⟩
                  rw [hD] at i5 hsn
                  have hHS := hid hsn
                  clear hD hsn hB8 hin hse e hje
                  go_wp2_with (go_at_call 37; fail)
                  refine i5.mono ?_
                  rintro r w5_ ⟨rfl, b5_⟩
                  obtain ⟨v', w6_, hap, O6, b6_⟩ := append_text w5_ wT.heap.size _ ((AA.take j4).map (shX X)) D (hO.out.below b5_ (Nat.le_refl _)) (by rw [List.length_map, List.length_take]; omega) (Nat.le_trans hB.out.size b5_.size)
                  rw [← hHS.out] at O6
                  rw [show sv D = Value.string ⟨D.toArray⟩ from rfl] at hap ⊢
                  have fO := hid O6
                  have fB := hid ((hB.out.trans (b5_.mono hB.out.size)).trans b6_)
                  clear O6 b6_ b5_ hO hB i5 hHS
                  go_wp2_with (at_builtin; go_must (refine Lib.wpList_append_run _ rfl _ _ 55 55 rfl _ _ rfl rfl _ _ hap ?_))
                  exact ⟨⟨j4 + 1, by omega, by go_num, fO, fB⟩, by simp [intOf]; omega⟩
                · obtain rfl : j4 = an := by omega
                  have b4 : ¬ (j4 : Int) < (j4 : Int) := by omega
                  obtain ⟨dh, dch, hvh, hDH, _, _⟩ := hO.out.at
                  rw [List.take_of_length_le (by rw [han.out]; exact Nat.le_refl _)] at hvh hDH
                  rw [List.length_map, han.out] at hvh
                  subst hvh
                  have HDH := hid hDH
                  have B5 := hid (HT.out.trans (hB.out.mono HT.out.size))
                  have DB5 := hid (DB.out.below hB.out (Nat.le_refl _))
                  have DA5 := hid (DA.out.below hB.out (Nat.le_refl _))
                  clear hO hB DA DB hAin HT hDH
                  obtain ⟨wU, rfl⟩ : ∃ wU, wU = wr := ⟨_, rfl⟩
                  go_wp2
                  go_loopw [40, 43, 44] (fun v i _ w' => ∃ j : Nat, j ≤ bn ∧ i = .int .i64 (j : Int) ∧ Hid (Own w' wU.heap.size v (svs ((BB.take j).map (shX X)))) ∧ Hid (Below wU.heap.size wU w')) (fun _ i _ _ => bn - (intOf i).toNat)
                  case atStart => exact ⟨0, by omega, rfl, hid (Own.nil _ _), hid (Below.refl _ _)⟩
                  case round =>
                    obtain ⟨j5, hj5, rfl, hO, hB⟩ := hrel
                    by_cases hjb : j5 < bn
                    · have b4 : (j5 : Int) < (bn : Int) := by omega
                      have j0 : (0 : Int) ≤ (j5 : Int) := by omega
                      have hje : j5 < BB.length := by rw [hbn.out]; exact hjb
                      have e := List.getElem?_eq_getElem hje
                      obtain ⟨sb, se, hse⟩ : ∃ sb se, BB[j5] = (sb, se) := ⟨_, _, rfl⟩
                      rw [hse] at e
                      obtain ⟨gq, rfl, _, c4, c5⟩ := (DB5.out.below hB.out (Nat.le_refl _)) j5 ((sb : Int), (se : Int)) (by rw [List.getElem?_map, e]; rfl)
                      have hin := hBin.out (sb, se) (List.mem_of_getElem? e)
                      have hB8 := B5.out.trans (hB.out.mono B5.out.size)
                      have i5 := FDC.out wr sb se hin.1 hin.2 (KX.out _ hB8) (KT.out _ hB8)
                      have hsn := sv_take X BB e
                      obtain ⟨D, hD⟩ : ∃ D, shX X (sb, se) = D := ⟨_, rfl⟩
                      rw [hD] at i5 hsn
                      have hHS := hid hsn
                      clear hD hsn hB8 hin hse e hje
                      go_wp2_with (go_at_call 37; fail)
                      refine i5.mono ?_
                      rintro r w5_ ⟨rfl, b5_⟩
                      obtain ⟨v', w6_, hap, O6, b6_⟩ := append_text w5_ wU.heap.size _ ((BB.take j5).map (shX X)) D (hO.out.below b5_ (Nat.le_refl _)) (by rw [List.length_map, List.length_take]; omega) (Nat.le_trans hB.out.size b5_.size)
                      rw [← hHS.out] at O6
                      rw [show sv D = Value.string ⟨D.toArray⟩ from rfl] at hap ⊢
                      have fO := hid O6
                      have fB := hid ((hB.out.trans (b5_.mono hB.out.size)).trans b6_)
                      clear O6 b6_ b5_ hO hB i5 hHS
                      go_wp2_with (at_builtin; go_must (refine Lib.wpList_append_run _ rfl _ _ 55 55 rfl _ _ rfl rfl _ _ hap ?_))
                      exact ⟨⟨j5 + 1, by omega, by go_num, fO, fB⟩, by simp [intOf]; omega⟩
                    · obtain rfl : j5 = bn := by omega
                      have b5 : ¬ (j5 : Int) < (j5 : Int) := by omega
                      obtain ⟨xh, xch, hvh, hXH, _, _⟩ := hO.out.at
                      rw [List.take_of_length_le (by rw [hbn.out]; exact Nat.le_refl _)] at hvh hXH
                      rw [List.length_map, hbn.out] at hvh
                      subst hvh
                      have B6 := hid (B5.out.trans (hB.out.mono B5.out.size))
                      have DB6 := hid (DB5.out.below hB.out (Nat.le_refl _))
                      have i8 := FDA.out _ dh dch B6.out (DA5.out.below hB.out (Nat.le_refl _)) (HDH.out.below hB.out (Nat.le_refl _))
                      have HXH := hid hXH
                      have yR : ((ByteArray.mk Rt.toArray).toList == (ByteArray.mk Rt.toArray).toList) = true := by simp
                      generalize ByteArray.mk Rt.toArray = RB at *
                      clear hO DB5 DA5 HDH hXH B5 hB hBin
                      go_wp2_with (go_at_call 38; fail)
                      refine i8.mono ?_
                      rintro r w20 ⟨rfl, b20⟩
                      have B7 := hid (B6.out.trans (b20.mono B6.out.size))
                      have i9 := FDB.out _ xh xch B7.out (DB6.out.below b20 (Nat.le_refl _)) (HXH.out.below b20 (Nat.le_refl _))
                      clear i8 b20 B6 DB6 HXH
                      go_wp2_with (go_at_call 38; fail)
                      refine i9.mono ?_
                      rintro r w21 ⟨rfl, b21⟩
                      have B8 := hid (B7.out.trans (b21.mono B7.out.size))
                      clear i9 b21 B7
                      go_wp2
                      go_ret
                      exact ⟨rfl, FB7.out.trans (B8.out.mono FB7.out.size)⟩
end Go.Proofs.YtbkppdkebcdcoaaDoor

namespace Go.Proofs.YtbkppdkebcdcoaaDoor
open Go.ChangeShapes Go.WideShapes Go.ChangeAt Go.RowKit
theorem gDB : Tryd.prog.globalNamed "math/bits.deBruijn64tab" = some 1 := by kernel_rfl
theorem gDBType : (Tryd.prog.globals[1]?).map (·.type) = some 142 := by kernel_rfl
theorem cells64b : Tryd.prog.cellsOf 142 = 64 := by kernel_rfl
theorem cells1b : Tryd.prog.cellsOf 5 = 1 := by kernel_rfl
def four : List (String × DataW Unit) := [("math/bits.deBruijn32tab", Rows.laid_math_bits_deBruijn32tab), ("math/bits.deBruijn64tab", Rows.laid_math_bits_deBruijn64tab), ("scrivener/digest.start", Rows.laid_scrivener_digest_start), ("scrivener/digest.rounds", Rows.laid_scrivener_digest_rounds)]
theorem tb_of {W : World} (h : laidMet Tryd.prog four W) : Tb W := by
  have h1 := laidMet.tail h
  have h2 : Lib.TabIs Tryd.prog W "math/bits.deBruijn64tab" .u8 (Lib.deBruijn64tab.map Int.ofNat) :=
    Lib.tabIs_of_head gDB gDBType Tryd.underlying142 Tryd.underlying5 cells1b cells64b (show laidMet Tryd.prog (("math/bits.deBruijn64tab", Lib.tabData .u8 (Lib.deBruijn64tab.map Int.ofNat)) :: _) W from h1)
  refine ⟨tabs_of (laidMet.tail h1), fun j hj => ?_⟩
  have := h2.cell gDB j (by rw [List.length_map]; exact hj)
  rw [this]
  simp [List.getD_eq_getElem?_getD]
  rw [List.getElem?_eq_getElem (show j < Lib.deBruijn64tab.length from hj)]; simp
/-- A WORLD FOR THE WITNESS: all four tables laid. -/
noncomputable def laidWorld5 (os : Os) : World :=
  { laidWorld os with
    heap := ((laidWorld os).heap.modify 0 (fillObj (Lib.deBruijn32tab.map fun n => Value.int .u8 (Int.ofNat n)).toArray)).modify 1 (fillObj (Lib.deBruijn64tab.map fun n => Value.int .u8 (Int.ofNat n)).toArray) }
end Go.Proofs.YtbkppdkebcdcoaaDoor

namespace Go.Proofs.YtbkppdkebcdcoaaDoor
open Go.ChangeShapes Go.WideShapes Go.ChangeAt Go.RowKit
theorem bytesS : Tryd.prog.bytesOf 9 = 16 := by kernel_rfl
set_option maxRecDepth 100000 in
/-- a slice of texts among the arguments, by its weight -/
theorem open_atF {H : Type} {enc : TypeId × Value → H} {W : World} {base : Nat} {v : Value} {d : DataW H} {p : List MemPlace}
    (hval : Value.okWide Tryd.prog W .any base 55 v) (hd : DataW.Trod enc Tryd.prog W 0 (fun _ => true) true 55 v d p) (hk : ∀ x ∈ DataW.weights Tryd.prog 55 d, x ≤ reachBytes) :
    ∃ a l cap, v = .slice a l.length cap ∧ At W a l ∧ l.length ≤ cap ∧ cap ≤ 9223372036854775807 ∧ l.length ≤ 8796093021952 := by
  obtain ⟨a0, len0, cap0, rfl⟩ := okWide_slice Tryd.underlying55 hval
  obtain ⟨fuel, hf⟩ := hd
  rcases open_strings Tryd.underlying55 Tryd.underlying9 cellsS hf with ⟨hcs, hx⟩ | ⟨a, len, cap, ss, hcs, _, hl, hm, hz, hx, hcell, hsz⟩
  · simp [Value.cells] at hcs
    obtain ⟨rfl, rfl, rfl⟩ := hcs
    exact ⟨none, [], 0, rfl, At.nil _ _, by simp, by omega, by simp⟩
  · simp [Value.cells] at hcs
    obtain ⟨rfl, rfl, rfl⟩ := hcs
    simp only [Prod.mk.injEq] at hx
    obtain ⟨rfl, _⟩ := hx
    simp only [if_true] at hz
    have hlen : ((ss.take len0).map (·.data.toList)).length = len0 := by simp; omega
    have hw : cap0 * 16 ≤ reachBytes := by
      refine hk _ ?_
      rw [DataW.weights, Tryd.underlying55]
      simp only [bytesS]
      have e : (strs (H := H) (ss.take len0)).length + (strs (H := H) (ss.drop len0)).length = cap0 := by simp [strs]; omega
      rw [e]
      exact List.mem_cons_self
    have hr : reachBytes = 140737488351232 := rfl
    refine ⟨some a, (ss.take len0).map (·.data.toList), cap0, by rw [hlen], fun j p hp => ?_, by omega, hm, by omega⟩
    rw [List.getElem?_map, Option.map_eq_some_iff] at hp
    obtain ⟨s, hs, rfl⟩ := hp
    rw [List.getElem?_take] at hs
    split at hs
    · have hj := (List.getElem?_eq_some_iff.1 hs).1
      have hc := hcell j hj
      rw [List.getD_eq_getElem?_getD, hs] at hc
      refine ⟨a, rfl, ?_, hc⟩
      have := block_lt_of_cell hc
      rwa [addr_block] at this
    · cases hs
theorem weights_head {H : Type} {P : Program} {t : TypeId} {ts : List TypeId} {d : DataW H} {r : List (DataW H)} (h : (DataW.weightsEach P (t :: ts) (d :: r)).all (· ≤ reachBytes) = true) : ∀ x ∈ DataW.weights P t d, x ≤ reachBytes := fun x hx => by
  have := List.all_eq_true.1 h x (by rw [DataW.weightsEach]; exact List.mem_append_left _ hx)
  simpa using this
theorem weights_mem {H : Type} {P : Program} {e : TypeId} {d : DataW H} {x : Nat} : ∀ {l : List (DataW H)}, d ∈ l → x ∈ DataW.weights P e d → x ∈ DataW.weightsAll P e l
  | [], h, _ => by cases h
  | f :: r, h, hx => by
    rw [DataW.weightsAll]
    rcases List.mem_cons.1 h with rfl | h
    · exact List.mem_append_left _ hx
    · exact List.mem_append_right _ (weights_mem h hx)
theorem weights_tail {H : Type} {P : Program} {t : TypeId} {ts : List TypeId} {d : DataW H} {r : List (DataW H)} (h : (DataW.weightsEach P (t :: ts) (d :: r)).all (· ≤ reachBytes) = true) : (DataW.weightsEach P ts r).all (· ≤ reachBytes) = true := by
  rw [List.all_eq_true] at h ⊢
  exact fun x hx => h x (by rw [DataW.weightsEach]; exact List.mem_append_right _ hx)
set_option maxRecDepth 100000 in
/-- a slice of texts among the arguments, by its weight, and by its texts' -/
theorem open_atG {H : Type} {enc : TypeId × Value → H} {W : World} {base : Nat} {v : Value} {d : DataW H} {p : List MemPlace}
    (hval : Value.okWide Tryd.prog W .any base 55 v) (hd : DataW.Trod enc Tryd.prog W 0 (fun _ => true) true 55 v d p) (hk : ∀ x ∈ DataW.weights Tryd.prog 55 d, x ≤ reachBytes) :
    ∃ a l cap, v = .slice a l.length cap ∧ At W a l ∧ l.length ≤ cap ∧ cap ≤ 9223372036854775807 ∧ l.length ≤ 8796093021952 ∧ ∀ q ∈ l, q.length ≤ 140737488351232 := by
  obtain ⟨a0, len0, cap0, rfl⟩ := okWide_slice Tryd.underlying55 hval
  obtain ⟨fuel, hf⟩ := hd
  rcases open_strings Tryd.underlying55 Tryd.underlying9 cellsS hf with ⟨hcs, hx⟩ | ⟨a, len, cap, ss, hcs, _, hl, hm, hz, hx, hcell, hsz⟩
  · simp [Value.cells] at hcs
    obtain ⟨rfl, rfl, rfl⟩ := hcs
    exact ⟨none, [], 0, rfl, At.nil _ _, by simp, by omega, by simp, by simp⟩
  · simp [Value.cells] at hcs
    obtain ⟨rfl, rfl, rfl⟩ := hcs
    simp only [Prod.mk.injEq] at hx
    obtain ⟨rfl, _⟩ := hx
    simp only [if_true] at hz
    have hlen : ((ss.take len0).map (·.data.toList)).length = len0 := by simp; omega
    have hr : reachBytes = 140737488351232 := rfl
    have hw : cap0 * 16 ≤ reachBytes := by
      refine hk _ ?_
      rw [DataW.weights, Tryd.underlying55]
      simp only [bytesS]
      have e : (strs (H := H) (ss.take len0)).length + (strs (H := H) (ss.drop len0)).length = cap0 := by simp [strs]; omega
      rw [e]
      exact List.mem_cons_self
    have hq : ∀ s ∈ ss.take len0, s.data.toList.length ≤ reachBytes := fun s hs => by
      refine hk _ ?_
      rw [DataW.weights, Tryd.underlying55]
      refine List.mem_cons_of_mem _ (List.mem_append_left _ (weights_mem (d := .lit (.string s.data.toList)) ?_ ?_))
      · unfold strs
        exact List.mem_map.2 ⟨s, hs, rfl⟩
      · simp [DataW.weights]
    refine ⟨some a, (ss.take len0).map (·.data.toList), cap0, by rw [hlen], fun j p hp => ?_, by omega, hm, by omega, fun q hq' => ?_⟩
    rotate_left
    · obtain ⟨s, hs, rfl⟩ := List.mem_map.1 hq'
      have := hq s hs
      omega
    rw [List.getElem?_map, Option.map_eq_some_iff] at hp
    obtain ⟨s, hs, rfl⟩ := hp
    rw [List.getElem?_take] at hs
    split at hs
    · have hj := (List.getElem?_eq_some_iff.1 hs).1
      have hc := hcell j hj
      rw [List.getD_eq_getElem?_getD, hs] at hc
      refine ⟨a, rfl, ?_, hc⟩
      have := block_lt_of_cell hc
      rwa [addr_block] at this
    · cases hs
set_option maxRecDepth 100000 in
/-- a text among the arguments, by its weight -/
theorem open_strG {H : Type} {enc : TypeId × Value → H} {W : World} {base : Nat} {v : Value} {d : DataW H} {p : List MemPlace}
    (hval : Value.okWide Tryd.prog W .any base 9 v) (hd : DataW.Trod enc Tryd.prog W 0 (fun _ => true) true 9 v d p) (hk : ∀ x ∈ DataW.weights Tryd.prog 9 d, x ≤ reachBytes) :
    ∃ s : List UInt8, v = sv s ∧ s.length ≤ 140737488351232 := by
  obtain ⟨s0, rfl, rfl, rfl, hs0⟩ := ChangeMaps.open_string Tryd.underlying9 hval hd
  have hr : reachBytes = 140737488351232 := rfl
  have := hk s0.data.toList.length (by simp [DataW.weights])
  exact ⟨s0.data.toList, sv_eta s0, by omega⟩
end Go.Proofs.YtbkppdkebcdcoaaDoor
