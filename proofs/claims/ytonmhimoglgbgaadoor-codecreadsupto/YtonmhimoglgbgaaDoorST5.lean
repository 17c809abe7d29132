import Derived.Test.YtonmhimoglgbgaaDoorST0
namespace Go.Proofs.YtonmhimoglgbgaaDoor
open Go.RowKit Cod
set_option maxRecDepth 100000 in
set_option maxHeartbeats 4000000 in
theorem step_5 (X b1 b2 t : Nat) (s : ByteArray) (st : RS) (ρ : Rol) (S : BS) (ot kp : Bool) (n m : Int) (sb : ByteArray) (la ta : Option Addr) (ln lc tn tc : Nat) (w : World) (_hn1 : n ≤ 9223372036854775807) (hB : Bk w X ρ S) (hG : BG S t) (ht : t ≤ 200) (hR : Rdr w b1 st) (hX : XRd w b2 s st) (hne : b1 ≠ b2) (h1 : b1 < X) (h2 : b2 < X) (p1 : 1 ≤ b1) (p2 : 1 ≤ b2) (T : Lay w) :
    Calls Tryd.prog 14 #[.agg #[.pointer (some ⟨b1, 0, none⟩), .pointer (some ⟨b2, 0, none⟩)], .agg #[.bool ot, .bool kp, .int .i64 5, .int .i64 n, .int .i64 m, .string sb, .slice la ln lc, .slice ta tn tc], .pointer (some ⟨X, 0, none⟩)] w (StepPost X b1 b2 s (t + 1) w) := by
  have hXl := lt_of_heap hB.row
  have bq : Below w.heap.size w ((w.alloc (.cells #[.pointer (some ⟨b1, 0, none⟩), .pointer (some ⟨b2, 0, none⟩)] 40)).alloc (.cells #[.bool ot, .bool kp, .int .i64 5, .int .i64 n, .int .i64 m, .string sb, .slice la ln lc, .slice ta tn tc] 48)) := ((Below.refl _ _).alloc (Nat.le_refl _) _).alloc (by rw [size_alloc]; omega) _
  have rP : ((w.alloc (.cells #[.pointer (some ⟨b1, 0, none⟩), .pointer (some ⟨b2, 0, none⟩)] 40)).alloc (.cells #[.bool ot, .bool kp, .int .i64 5, .int .i64 n, .int .i64 m, .string sb, .slice la ln lc, .slice ta tn tc] 48)).heap[w.heap.size]? = some (.cells #[.pointer (some ⟨b1, 0, none⟩), .pointer (some ⟨b2, 0, none⟩)] 40 (0, 0)) := (Below.heap_alloc _ _ _ (by rw [size_alloc]; omega)).trans (heap_alloc_new w _)
  have rQ := heap_alloc_new (w.alloc (.cells #[.pointer (some ⟨b1, 0, none⟩), .pointer (some ⟨b2, 0, none⟩)] 40)) (.cells #[.bool ot, .bool kp, .int .i64 5, .int .i64 n, .int .i64 m, .string sb, .slice la ln lc, .slice ta tn tc] 48)
  rw [size_alloc] at rQ
  have sq : ((w.alloc (.cells #[.pointer (some ⟨b1, 0, none⟩), .pointer (some ⟨b2, 0, none⟩)] 40)).alloc (.cells #[.bool ot, .bool kp, .int .i64 5, .int .i64 n, .int .i64 m, .string sb, .slice la ln lc, .slice ta tn tc] 48)).heap.size = w.heap.size + 2 := by rw [size_alloc, size_alloc]
  have HB := hid (hB.below bq)
  have HR := hid (hR.below bq)
  have HX := hid (hX.below bq)
  have HT := hid (T.below bq T.lt)
  have Hnone : Hid (ρ w.heap.size = none ∧ ρ (w.heap.size + 1) = none) := by
    refine ⟨?_, ?_⟩
    · cases hr : ρ w.heap.size with
      | none => rfl
      | some r => have := (hB.lt _ r hr).2; omega
    · cases hr : ρ (w.heap.size + 1) with
      | none => rfl
      | some r => have := (hB.lt _ r hr).2; omega
  have HK : Hid (Keep (fun k => k = b1 ∨ k = b2 ∨ X ≤ k) w ((w.alloc (.cells #[.pointer (some ⟨b1, 0, none⟩), .pointer (some ⟨b2, 0, none⟩)] 40)).alloc (.cells #[.bool ot, .bool kp, .int .i64 5, .int .i64 n, .int .i64 m, .string sb, .slice la ln lc, .slice ta tn tc] 48))) := Keep.ofBelow bq
  have kq : ((w.alloc (.cells #[.pointer (some ⟨b1, 0, none⟩), .pointer (some ⟨b2, 0, none⟩)] 40)).alloc (.cells #[.bool ot, .bool kp, .int .i64 5, .int .i64 n, .int .i64 m, .string sb, .slice la ln lc, .slice ta tn tc] 48)).cell? ⟨w.heap.size + 1, 2, none⟩ = some (.int .i64 5) := by rw [cell_of_row _ _ _ _ _ _ rQ]; rfl
  have q0 : ((w.alloc (.cells #[.pointer (some ⟨b1, 0, none⟩), .pointer (some ⟨b2, 0, none⟩)] 40)).alloc (.cells #[.bool ot, .bool kp, .int .i64 5, .int .i64 n, .int .i64 m, .string sb, .slice la ln lc, .slice ta tn tc] 48)).cell? ⟨w.heap.size, 0, none⟩ = some (.pointer (some ⟨b1, 0, none⟩)) := by rw [cell_of_row _ _ _ _ _ _ rP]; rfl
  have q1 : ((w.alloc (.cells #[.pointer (some ⟨b1, 0, none⟩), .pointer (some ⟨b2, 0, none⟩)] 40)).alloc (.cells #[.bool ot, .bool kp, .int .i64 5, .int .i64 n, .int .i64 m, .string sb, .slice la ln lc, .slice ta tn tc] 48)).cell? ⟨w.heap.size, 1, none⟩ = some (.pointer (some ⟨b2, 0, none⟩)) := by rw [cell_of_row _ _ _ _ _ _ rP]; rfl
  have qk : ((w.alloc (.cells #[.pointer (some ⟨b1, 0, none⟩), .pointer (some ⟨b2, 0, none⟩)] 40)).alloc (.cells #[.bool ot, .bool kp, .int .i64 5, .int .i64 n, .int .i64 m, .string sb, .slice la ln lc, .slice ta tn tc] 48)).cell? ⟨w.heap.size + 1, 1, none⟩ = some (.bool kp) := by rw [cell_of_row _ _ _ _ _ _ rQ]; rfl
  have q4 : ((w.alloc (.cells #[.pointer (some ⟨b1, 0, none⟩), .pointer (some ⟨b2, 0, none⟩)] 40)).alloc (.cells #[.bool ot, .bool kp, .int .i64 5, .int .i64 n, .int .i64 m, .string sb, .slice la ln lc, .slice ta tn tc] 48)).cell? ⟨w.heap.size + 1, 4, none⟩ = some (.int .i64 m) := by rw [cell_of_row _ _ _ _ _ _ rQ]; rfl
  have q3 : ((w.alloc (.cells #[.pointer (some ⟨b1, 0, none⟩), .pointer (some ⟨b2, 0, none⟩)] 40)).alloc (.cells #[.bool ot, .bool kp, .int .i64 5, .int .i64 n, .int .i64 m, .string sb, .slice la ln lc, .slice ta tn tc] 48)).cell? ⟨w.heap.size + 1, 3, none⟩ = some (.int .i64 n) := by rw [cell_of_row _ _ _ _ _ _ rQ]; rfl
  clear hB hR hX T bq
  go_enter Tryd.func14, Tryd.ntmps14
  go_wp2_with (go_at_call 36; fail)
  generalize ((w.alloc (.cells #[.pointer (some ⟨b1, 0, none⟩), .pointer (some ⟨b2, 0, none⟩)] 40)).alloc (.cells #[.bool ot, .bool kp, .int .i64 5, .int .i64 n, .int .i64 m, .string sb, .slice la ln lc, .slice ta tn tc] 48)) = wq at *
  generalize w.heap.size = P at *
  obtain ⟨L, hLe⟩ : ∃ L, st.val [] (rdTexts st.rest n m) = L := ⟨_, rfl⟩
  have hLl : L.length ≤ 1100000 := by
    have h9 := valTexts_len st n m
    have h8 := HX.out.len
    have h7 := HX.out.2.2.2
    rw [hLe] at h9
    omega
  have hc1 := rTexts_any b1 st n m wq (.inl (by have := HX.out.len; have := HX.out.2.2.2; omega)) HR.out
  have hc2 := fun w' (h : XRd w' b2 s st) => xTexts_any b2 s st n m w' h
  rw [hLe] at hc1 hc2
  clear hLe
  refine hc1.mono ?_
  rintro e w2 ⟨v, rfl, hO2, hR2, hk2⟩
  obtain ⟨va, vn, vc, rfl⟩ := hO2.sl
  have bP := hk2.block P (by omega) (by omega)
  have bQ := hk2.block (P + 1) (by omega) (by omega)
  have s2 := hk2.size
  have HX2 := hid (xrd_heap HX.out (hk2.block b2 (by omega) (Ne.symm hne)))
  have d1 := (World.cell?_of_block (w := wq) (a := ⟨P, 1, none⟩) bP).trans q1
  have d3 := (World.cell?_of_block (w := wq) (a := ⟨P + 1, 3, none⟩) bQ).trans q3
  have d4 := (World.cell?_of_block (w := wq) (a := ⟨P + 1, 4, none⟩) bQ).trans q4
  have hR2 := hid hR2
  have hk2 := hid hk2
  have hO2 := hid hO2
  clear hc1
  go_wp2_with (go_at_call 44; fail)
  refine (hc2 w2 HX2.out).mono ?_
  rintro e w3 ⟨u, rfl, hO3, hX3, hk3⟩
  obtain ⟨ua, un, uc, rfl⟩ := hO3.sl
  have bP3 := (hk3.block P (by omega) (by omega)).trans bP
  have bQ3 := (hk3.block (P + 1) (by omega) (by omega)).trans bQ
  have s3 := hk3.size
  have O3 := hid (hO2.out.but hk3 (hO2.out.neb (by omega)))
  have hO3 := hid hO3
  have hX3 := hid hX3
  have hR3 := hid (rdr_heap hR2.out (hk3.block b1 (by omega) hne))
  have hB3 := hid ((HB.out.but hk2.out h1).but hk3 h2)
  have hT3 := hid ((HT.out.but hk2.out p1).but hk3 p2)
  have HK3 := hid ((HK.out.trans (Keep.ofBut (S := fun k => k = b1 ∨ k = b2 ∨ X ≤ k) hk2.out (.inl rfl)) (fun _ _ e => e)).trans (Keep.ofBut (S := fun k => k = b1 ∨ k = b2 ∨ X ≤ k) hk3 (.inr (.inl rfl))) (fun _ _ e => e))
  have hfr := hid (HB.out.fresh hO2.out (Nat.le_refl _))
  clear hc2 hk3 hR2 HX2 d1 d3 d4 hO2
  go_wp2_with (go_at_call 35; fail)
  refine (sameTexts_any _ _ L L w3 O3.out.slcT hO3.out.slcT (by omega) (by omega)).mono ?_
  rintro e w4 ⟨bb, rfl, ⟨hw4, hh4⟩, hbb⟩
  rw [hbb rfl]
  clear hbb bb
  have s4 := hw4.size
  have bP4 := (show w4.heap[P]? = w3.heap[P]? by rw [hh4]).trans bP3
  have bQ4 := (show w4.heap[P + 1]? = w3.heap[P + 1]? by rw [hh4]).trans bQ3
  have d5 := (World.cell?_of_block (w := wq) (a := ⟨P + 1, 1, none⟩) bQ4).trans qk
  have hB4 := hid (hB3.out.below hw4)
  have O4 := hid (O3.out.below hw4 (Nat.le_refl _))
  have hR4 := hid (hR3.out.below hw4)
  have hX4 := hid (hX3.out.below hw4)
  have hT4 := hid (hT3.out.below hw4 hT3.out.lt)
  have HK4 := hid (HK3.out.trans (Keep.ofBelow (S := fun _ => False) hw4) (fun _ _ e => e.elim))
  have hput := putT_all X wq.heap.size t ρ S _ L kp w4 hB4.out hG ht O4.out (by omega) hLl svs_oneS hfr.out
  clear hO3 O3 hR3 hX3 hT3 hB3 HK3 hw4 hh4
  go_wp2_with (go_at_call 45; fail)
  refine hput.mono ?_
  rintro e w5 ⟨rfl, ρ5, S5, hB5, hG5, hK5⟩
  have hbl : Below X w4 w5 := KS.below hB4.out O4.out (by omega) hK5
  have bP5 := (hK5.block P (by omega) (fun e => by
    rcases e with ⟨r, hr⟩ | e
    · rw [Hnone.out.1] at hr; cases hr
    · have := O4.out.ge P e; omega)).trans bP4
  have HR9 := hid (rdr_heap hR4.out (hbl.block b1 h1))
  have HX9 := hid (xrd_heap hX4.out (hbl.block b2 h2))
  have HT9 := hid (hT4.out.below hbl (by omega))
  have HB9 := hid hB5
  have HG9 := hid hG5
  have HK9 := hid (HK4.out.trans hK5 (fun j hj e => by
    rcases e with ⟨r, hr⟩ | e
    · exact .inr (.inr (hB4.out.lt j r hr).1)
    · exact .inr (.inr (by have := O4.out.ge j e; omega))))
  have rP9 := bP5.trans rP
  clear HR HX HT HB HK hG q0 q1 q3 kq qk q4 hput hbl hK5 hB5 hG5 bP bQ bP3 bQ3 bP4 bQ4 bP5 d5 hR4 hX4 hT4 HK4 hB4 O4 hfr hk2 rQ
  have c0 : w5.cell? ⟨P, 0, none⟩ = some (.pointer (some ⟨b1, 0, none⟩)) := by rw [cell_of_row _ _ _ _ _ _ rP9]; rfl
  have c1 : w5.cell? ⟨P, 1, none⟩ = some (.pointer (some ⟨b2, 0, none⟩)) := by rw [cell_of_row _ _ _ _ _ _ rP9]; rfl
  go_wp2_with (go_at_call 11; fail)
  have PL9 := lt_of_heap rP9
  refine (rDone_any b1 _ _ HT9.out HR9.out).mono ?_
  rintro e wa ⟨rfl, hwa⟩
  have HRa := hid (HR9.out.below hwa)
  have HXa := hid (HX9.out.below hwa)
  have HBa := hid (HB9.out.below hwa)
  have HKa := hid (HK9.out.trans (Keep.ofBelow (S := fun _ => False) hwa) (fun _ _ e => e.elim))
  have ca := (hwa.cell (p := ⟨P, 1, none⟩) PL9).trans c1
  have ca0 := (hwa.cell (p := ⟨P, 0, none⟩) PL9).trans c0
  have PLa := Nat.lt_of_lt_of_le PL9 hwa.size
  clear HR9 HX9 HB9 HK9 HT9 hwa c0 c1 rP9 PL9
  go_wp2_with (go_at_call 15; fail)
  refine (xDone_any b2 s _ _ HXa.out).mono ?_
  rintro e wb ⟨rfl, hwb⟩
  have HRb := hid (HRa.out.below hwb)
  have HXb := hid (HXa.out.below hwb)
  have HBb := hid (HBa.out.below hwb)
  have HKb := hid (HKa.out.trans (Keep.ofBelow (S := fun _ => False) hwb) (fun _ _ e => e.elim))
  have cb := (hwb.cell (p := ⟨P, 1, none⟩) PLa).trans ca
  have cb0 := (hwb.cell (p := ⟨P, 0, none⟩) PLa).trans ca0
  have PLb := hid (Nat.lt_of_lt_of_le PLa hwb.size)
  clear HRa HXa HBa HKa hwb ca ca0
  obtain ⟨dn, hdn⟩ : ∃ d, (RS.done (st.step (rdTexts st.rest n m))) = d := ⟨_, rfl⟩
  obtain ⟨tk, htk⟩ : ∃ d : Int, ((RS.taken (st.step (rdTexts st.rest n m)) : Nat) : Int) = d := ⟨_, rfl⟩
  obtain ⟨lf, hlf⟩ : ∃ d : Int, (((RS.rest (st.step (rdTexts st.rest n m))).length : Nat) : Int) = d := ⟨_, rfl⟩
  have hL1 := fun w' (h : Rdr w' b1 (st.step (rdTexts st.rest n m))) => left_any b1 _ w' h
  have hL2 := fun w' (h : XRd w' b2 s (st.step (rdTexts st.rest n m))) => xLeft_any b2 s _ w' h
  rw [hlf] at hL1 hL2
  rw [hdn, htk]
  have yy1 : (dn == dn) = true := by simp
  have yy2 : (tk == tk) = true := by simp
  have yy3 : (lf == lf) = true := by simp
  have HRd := hid (show Rdr wb.drew b1 (st.step (rdTexts st.rest n m)) from HRb.out)
  have HXd := hid (show XRd wb.drew b2 s (st.step (rdTexts st.rest n m)) from HXb.out)
  clear hdn htk hlf
  go_wp2
  go_region_held3 (fun w' => w'.cell? ⟨P, 0, none⟩ = some (.pointer (some ⟨b1, 0, none⟩)) ∧ w'.cell? ⟨P, 1, none⟩ = some (.pointer (some ⟨b2, 0, none⟩))) (first | exact ecd | exact ⟨cb0, cb⟩) (first
    | (go_at_call 12; (with_reducible refine (hL1 _ HRd.out).mono ?_); rintro e wc ⟨rfl, hwc⟩; rw [hwc]; clear hwc wc)
    | (go_at_call 48; (with_reducible refine (hL2 wb.drew HXd.out).mono ?_); rintro e wd ⟨rfl, hwd'⟩; have hwd : Below wb.heap.size wb wd := (Below.refl wb.heap.size wb).drew.trans hwd'; have ecd := And.intro ((World.cell?_of_block (w := wb) (a := ⟨P, 0, none⟩) (hwd.block P (by have := PLb.out; omega))).trans cb0) ((World.cell?_of_block (w := wb) (a := ⟨P, 1, none⟩) (hwd.block P (by have := PLb.out; omega))).trans cb)))
  go_wp2
  go_ret
  exact ⟨rfl, (st.step (rdTexts st.rest n m)), _, _, HRb.out.below hwd, HXb.out.below hwd, HBb.out.below hwd, HG9.out, HKb.out.trans (Keep.ofBelow (S := fun _ => False) hwd) (fun _ _ e => e.elim)⟩
set_option maxRecDepth 100000 in
set_option maxHeartbeats 4000000 in
theorem step_6 (X b1 b2 t : Nat) (s : ByteArray) (st : RS) (ρ : Rol) (S : BS) (ot kp : Bool) (n m : Int) (sb : ByteArray) (la ta : Option Addr) (ln lc tn tc : Nat) (w : World) (_hn1 : n ≤ 9223372036854775807) (hB : Bk w X ρ S) (hG : BG S t) (ht : t ≤ 200) (hR : Rdr w b1 st) (hX : XRd w b2 s st) (hne : b1 ≠ b2) (h1 : b1 < X) (h2 : b2 < X) (p1 : 1 ≤ b1) (p2 : 1 ≤ b2) (T : Lay w) :
    Calls Tryd.prog 14 #[.agg #[.pointer (some ⟨b1, 0, none⟩), .pointer (some ⟨b2, 0, none⟩)], .agg #[.bool ot, .bool kp, .int .i64 6, .int .i64 n, .int .i64 m, .string sb, .slice la ln lc, .slice ta tn tc], .pointer (some ⟨X, 0, none⟩)] w (StepPost X b1 b2 s (t + 1) w) := by
  have hXl := lt_of_heap hB.row
  have bq : Below w.heap.size w ((w.alloc (.cells #[.pointer (some ⟨b1, 0, none⟩), .pointer (some ⟨b2, 0, none⟩)] 40)).alloc (.cells #[.bool ot, .bool kp, .int .i64 6, .int .i64 n, .int .i64 m, .string sb, .slice la ln lc, .slice ta tn tc] 48)) := ((Below.refl _ _).alloc (Nat.le_refl _) _).alloc (by rw [size_alloc]; omega) _
  have rP : ((w.alloc (.cells #[.pointer (some ⟨b1, 0, none⟩), .pointer (some ⟨b2, 0, none⟩)] 40)).alloc (.cells #[.bool ot, .bool kp, .int .i64 6, .int .i64 n, .int .i64 m, .string sb, .slice la ln lc, .slice ta tn tc] 48)).heap[w.heap.size]? = some (.cells #[.pointer (some ⟨b1, 0, none⟩), .pointer (some ⟨b2, 0, none⟩)] 40 (0, 0)) := (Below.heap_alloc _ _ _ (by rw [size_alloc]; omega)).trans (heap_alloc_new w _)
  have rQ := heap_alloc_new (w.alloc (.cells #[.pointer (some ⟨b1, 0, none⟩), .pointer (some ⟨b2, 0, none⟩)] 40)) (.cells #[.bool ot, .bool kp, .int .i64 6, .int .i64 n, .int .i64 m, .string sb, .slice la ln lc, .slice ta tn tc] 48)
  rw [size_alloc] at rQ
  have sq : ((w.alloc (.cells #[.pointer (some ⟨b1, 0, none⟩), .pointer (some ⟨b2, 0, none⟩)] 40)).alloc (.cells #[.bool ot, .bool kp, .int .i64 6, .int .i64 n, .int .i64 m, .string sb, .slice la ln lc, .slice ta tn tc] 48)).heap.size = w.heap.size + 2 := by rw [size_alloc, size_alloc]
  have HB := hid (hB.below bq)
  have HR := hid (hR.below bq)
  have HX := hid (hX.below bq)
  have HT := hid (T.below bq T.lt)
  have Hnone : Hid (ρ w.heap.size = none ∧ ρ (w.heap.size + 1) = none) := by
    refine ⟨?_, ?_⟩
    · cases hr : ρ w.heap.size with
      | none => rfl
      | some r => have := (hB.lt _ r hr).2; omega
    · cases hr : ρ (w.heap.size + 1) with
      | none => rfl
      | some r => have := (hB.lt _ r hr).2; omega
  have HK : Hid (Keep (fun k => k = b1 ∨ k = b2 ∨ X ≤ k) w ((w.alloc (.cells #[.pointer (some ⟨b1, 0, none⟩), .pointer (some ⟨b2, 0, none⟩)] 40)).alloc (.cells #[.bool ot, .bool kp, .int .i64 6, .int .i64 n, .int .i64 m, .string sb, .slice la ln lc, .slice ta tn tc] 48))) := Keep.ofBelow bq
  have kq : ((w.alloc (.cells #[.pointer (some ⟨b1, 0, none⟩), .pointer (some ⟨b2, 0, none⟩)] 40)).alloc (.cells #[.bool ot, .bool kp, .int .i64 6, .int .i64 n, .int .i64 m, .string sb, .slice la ln lc, .slice ta tn tc] 48)).cell? ⟨w.heap.size + 1, 2, none⟩ = some (.int .i64 6) := by rw [cell_of_row _ _ _ _ _ _ rQ]; rfl
  have q0 : ((w.alloc (.cells #[.pointer (some ⟨b1, 0, none⟩), .pointer (some ⟨b2, 0, none⟩)] 40)).alloc (.cells #[.bool ot, .bool kp, .int .i64 6, .int .i64 n, .int .i64 m, .string sb, .slice la ln lc, .slice ta tn tc] 48)).cell? ⟨w.heap.size, 0, none⟩ = some (.pointer (some ⟨b1, 0, none⟩)) := by rw [cell_of_row _ _ _ _ _ _ rP]; rfl
  have q1 : ((w.alloc (.cells #[.pointer (some ⟨b1, 0, none⟩), .pointer (some ⟨b2, 0, none⟩)] 40)).alloc (.cells #[.bool ot, .bool kp, .int .i64 6, .int .i64 n, .int .i64 m, .string sb, .slice la ln lc, .slice ta tn tc] 48)).cell? ⟨w.heap.size, 1, none⟩ = some (.pointer (some ⟨b2, 0, none⟩)) := by rw [cell_of_row _ _ _ _ _ _ rP]; rfl
  have qk : ((w.alloc (.cells #[.pointer (some ⟨b1, 0, none⟩), .pointer (some ⟨b2, 0, none⟩)] 40)).alloc (.cells #[.bool ot, .bool kp, .int .i64 6, .int .i64 n, .int .i64 m, .string sb, .slice la ln lc, .slice ta tn tc] 48)).cell? ⟨w.heap.size + 1, 1, none⟩ = some (.bool kp) := by rw [cell_of_row _ _ _ _ _ _ rQ]; rfl
  have q4 : ((w.alloc (.cells #[.pointer (some ⟨b1, 0, none⟩), .pointer (some ⟨b2, 0, none⟩)] 40)).alloc (.cells #[.bool ot, .bool kp, .int .i64 6, .int .i64 n, .int .i64 m, .string sb, .slice la ln lc, .slice ta tn tc] 48)).cell? ⟨w.heap.size + 1, 4, none⟩ = some (.int .i64 m) := by rw [cell_of_row _ _ _ _ _ _ rQ]; rfl
  have q3 : ((w.alloc (.cells #[.pointer (some ⟨b1, 0, none⟩), .pointer (some ⟨b2, 0, none⟩)] 40)).alloc (.cells #[.bool ot, .bool kp, .int .i64 6, .int .i64 n, .int .i64 m, .string sb, .slice la ln lc, .slice ta tn tc] 48)).cell? ⟨w.heap.size + 1, 3, none⟩ = some (.int .i64 n) := by rw [cell_of_row _ _ _ _ _ _ rQ]; rfl
  clear hB hR hX T bq
  go_enter Tryd.func14, Tryd.ntmps14
  go_wp2_with (go_at_call 37; fail)
  generalize ((w.alloc (.cells #[.pointer (some ⟨b1, 0, none⟩), .pointer (some ⟨b2, 0, none⟩)] 40)).alloc (.cells #[.bool ot, .bool kp, .int .i64 6, .int .i64 n, .int .i64 m, .string sb, .slice la ln lc, .slice ta tn tc] 48)) = wq at *
  generalize w.heap.size = P at *
  obtain ⟨L, hLe⟩ : ∃ L, st.val [] (rdHashes st.rest n) = L := ⟨_, rfl⟩
  have hLl : L.length ≤ 1100000 := by
    have h9 := valHashes_len st n
    have h8 := HX.out.len
    have h7 := HX.out.2.2.2
    rw [hLe] at h9
    omega
  have hc1 := rHashes_any b1 st n wq (.inl (by have := HX.out.len; have := HX.out.2.2.2; omega)) HR.out
  have hc2 := fun w' (h : XRd w' b2 s st) => xHashes_any b2 s st n w' h
  rw [hLe] at hc1 hc2
  clear hLe
  refine hc1.mono ?_
  rintro e w2 ⟨v, rfl, hO2, hR2, hk2⟩
  obtain ⟨va, vn, vc, rfl⟩ := hO2.sl
  have bP := hk2.block P (by omega) (by omega)
  have bQ := hk2.block (P + 1) (by omega) (by omega)
  have s2 := hk2.size
  have HX2 := hid (xrd_heap HX.out (hk2.block b2 (by omega) (Ne.symm hne)))
  have d1 := (World.cell?_of_block (w := wq) (a := ⟨P, 1, none⟩) bP).trans q1
  have d3 := (World.cell?_of_block (w := wq) (a := ⟨P + 1, 3, none⟩) bQ).trans q3
  have d4 := (World.cell?_of_block (w := wq) (a := ⟨P + 1, 4, none⟩) bQ).trans q4
  have hR2 := hid hR2
  have hk2 := hid hk2
  have hO2 := hid hO2
  clear hc1
  go_wp2_with (go_at_call 46; fail)
  refine (hc2 w2 HX2.out).mono ?_
  rintro e w3 ⟨u, rfl, hO3, hX3, hk3⟩
  obtain ⟨ua, un, uc, rfl⟩ := hO3.sl
  have bP3 := (hk3.block P (by omega) (by omega)).trans bP
  have bQ3 := (hk3.block (P + 1) (by omega) (by omega)).trans bQ
  have s3 := hk3.size
  have O3 := hid (hO2.out.but hk3 (hO2.out.neb (by omega)))
  have hO3 := hid hO3
  have hX3 := hid hX3
  have hR3 := hid (rdr_heap hR2.out (hk3.block b1 (by omega) hne))
  have hB3 := hid ((HB.out.but hk2.out h1).but hk3 h2)
  have hT3 := hid ((HT.out.but hk2.out p1).but hk3 p2)
  have HK3 := hid ((HK.out.trans (Keep.ofBut (S := fun k => k = b1 ∨ k = b2 ∨ X ≤ k) hk2.out (.inl rfl)) (fun _ _ e => e)).trans (Keep.ofBut (S := fun k => k = b1 ∨ k = b2 ∨ X ≤ k) hk3 (.inr (.inl rfl))) (fun _ _ e => e))
  have hfr := hid (HB.out.fresh hO2.out (Nat.le_refl _))
  clear hc2 hk3 hR2 HX2 d1 d3 d4 hO2
  go_wp2_with (go_at_call 35; fail)
  refine (sameTexts_any _ _ L L w3 O3.out.slcT hO3.out.slcT (by omega) (by omega)).mono ?_
  rintro e w4 ⟨bb, rfl, ⟨hw4, hh4⟩, hbb⟩
  rw [hbb rfl]
  clear hbb bb
  have s4 := hw4.size
  have bP4 := (show w4.heap[P]? = w3.heap[P]? by rw [hh4]).trans bP3
  have bQ4 := (show w4.heap[P + 1]? = w3.heap[P + 1]? by rw [hh4]).trans bQ3
  have d5 := (World.cell?_of_block (w := wq) (a := ⟨P + 1, 1, none⟩) bQ4).trans qk
  have hB4 := hid (hB3.out.below hw4)
  have O4 := hid (O3.out.below hw4 (Nat.le_refl _))
  have hR4 := hid (hR3.out.below hw4)
  have hX4 := hid (hX3.out.below hw4)
  have hT4 := hid (hT3.out.below hw4 hT3.out.lt)
  have HK4 := hid (HK3.out.trans (Keep.ofBelow (S := fun _ => False) hw4) (fun _ _ e => e.elim))
  have hput := putT_all X wq.heap.size t ρ S _ L kp w4 hB4.out hG ht O4.out (by omega) hLl svs_oneS hfr.out
  clear hO3 O3 hR3 hX3 hT3 hB3 HK3 hw4 hh4
  go_wp2_with (go_at_call 45; fail)
  refine hput.mono ?_
  rintro e w5 ⟨rfl, ρ5, S5, hB5, hG5, hK5⟩
  have hbl : Below X w4 w5 := KS.below hB4.out O4.out (by omega) hK5
  have bP5 := (hK5.block P (by omega) (fun e => by
    rcases e with ⟨r, hr⟩ | e
    · rw [Hnone.out.1] at hr; cases hr
    · have := O4.out.ge P e; omega)).trans bP4
  have HR9 := hid (rdr_heap hR4.out (hbl.block b1 h1))
  have HX9 := hid (xrd_heap hX4.out (hbl.block b2 h2))
  have HT9 := hid (hT4.out.below hbl (by omega))
  have HB9 := hid hB5
  have HG9 := hid hG5
  have HK9 := hid (HK4.out.trans hK5 (fun j hj e => by
    rcases e with ⟨r, hr⟩ | e
    · exact .inr (.inr (hB4.out.lt j r hr).1)
    · exact .inr (.inr (by have := O4.out.ge j e; omega))))
  have rP9 := bP5.trans rP
  clear HR HX HT HB HK hG q0 q1 q3 kq qk q4 hput hbl hK5 hB5 hG5 bP bQ bP3 bQ3 bP4 bQ4 bP5 d5 hR4 hX4 hT4 HK4 hB4 O4 hfr hk2 rQ
  have c0 : w5.cell? ⟨P, 0, none⟩ = some (.pointer (some ⟨b1, 0, none⟩)) := by rw [cell_of_row _ _ _ _ _ _ rP9]; rfl
  have c1 : w5.cell? ⟨P, 1, none⟩ = some (.pointer (some ⟨b2, 0, none⟩)) := by rw [cell_of_row _ _ _ _ _ _ rP9]; rfl
  go_wp2_with (go_at_call 11; fail)
  have PL9 := lt_of_heap rP9
  refine (rDone_any b1 _ _ HT9.out HR9.out).mono ?_
  rintro e wa ⟨rfl, hwa⟩
  have HRa := hid (HR9.out.below hwa)
  have HXa := hid (HX9.out.below hwa)
  have HBa := hid (HB9.out.below hwa)
  have HKa := hid (HK9.out.trans (Keep.ofBelow (S := fun _ => False) hwa) (fun _ _ e => e.elim))
  have ca := (hwa.cell (p := ⟨P, 1, none⟩) PL9).trans c1
  have ca0 := (hwa.cell (p := ⟨P, 0, none⟩) PL9).trans c0
  have PLa := Nat.lt_of_lt_of_le PL9 hwa.size
  clear HR9 HX9 HB9 HK9 HT9 hwa c0 c1 rP9 PL9
  go_wp2_with (go_at_call 15; fail)
  refine (xDone_any b2 s _ _ HXa.out).mono ?_
  rintro e wb ⟨rfl, hwb⟩
  have HRb := hid (HRa.out.below hwb)
  have HXb := hid (HXa.out.below hwb)
  have HBb := hid (HBa.out.below hwb)
  have HKb := hid (HKa.out.trans (Keep.ofBelow (S := fun _ => False) hwb) (fun _ _ e => e.elim))
  have cb := (hwb.cell (p := ⟨P, 1, none⟩) PLa).trans ca
  have cb0 := (hwb.cell (p := ⟨P, 0, none⟩) PLa).trans ca0
  have PLb := hid (Nat.lt_of_lt_of_le PLa hwb.size)
  clear HRa HXa HBa HKa hwb ca ca0
  obtain ⟨dn, hdn⟩ : ∃ d, (RS.done (st.step (rdHashes st.rest n))) = d := ⟨_, rfl⟩
  obtain ⟨tk, htk⟩ : ∃ d : Int, ((RS.taken (st.step (rdHashes st.rest n)) : Nat) : Int) = d := ⟨_, rfl⟩
  obtain ⟨lf, hlf⟩ : ∃ d : Int, (((RS.rest (st.step (rdHashes st.rest n))).length : Nat) : Int) = d := ⟨_, rfl⟩
  have hL1 := fun w' (h : Rdr w' b1 (st.step (rdHashes st.rest n))) => left_any b1 _ w' h
  have hL2 := fun w' (h : XRd w' b2 s (st.step (rdHashes st.rest n))) => xLeft_any b2 s _ w' h
  rw [hlf] at hL1 hL2
  rw [hdn, htk]
  have yy1 : (dn == dn) = true := by simp
  have yy2 : (tk == tk) = true := by simp
  have yy3 : (lf == lf) = true := by simp
  have HRd := hid (show Rdr wb.drew b1 (st.step (rdHashes st.rest n)) from HRb.out)
  have HXd := hid (show XRd wb.drew b2 s (st.step (rdHashes st.rest n)) from HXb.out)
  clear hdn htk hlf
  go_wp2
  go_region_held3 (fun w' => w'.cell? ⟨P, 0, none⟩ = some (.pointer (some ⟨b1, 0, none⟩)) ∧ w'.cell? ⟨P, 1, none⟩ = some (.pointer (some ⟨b2, 0, none⟩))) (first | exact ecd | exact ⟨cb0, cb⟩) (first
    | (go_at_call 12; (with_reducible refine (hL1 _ HRd.out).mono ?_); rintro e wc ⟨rfl, hwc⟩; rw [hwc]; clear hwc wc)
    | (go_at_call 48; (with_reducible refine (hL2 wb.drew HXd.out).mono ?_); rintro e wd ⟨rfl, hwd'⟩; have hwd : Below wb.heap.size wb wd := (Below.refl wb.heap.size wb).drew.trans hwd'; have ecd := And.intro ((World.cell?_of_block (w := wb) (a := ⟨P, 0, none⟩) (hwd.block P (by have := PLb.out; omega))).trans cb0) ((World.cell?_of_block (w := wb) (a := ⟨P, 1, none⟩) (hwd.block P (by have := PLb.out; omega))).trans cb)))
  go_wp2
  go_ret
  exact ⟨rfl, (st.step (rdHashes st.rest n)), _, _, HRb.out.below hwd, HXb.out.below hwd, HBb.out.below hwd, HG9.out, HKb.out.trans (Keep.ofBelow (S := fun _ => False) hwd) (fun _ _ e => e.elim)⟩
end Go.Proofs.YtonmhimoglgbgaaDoor
