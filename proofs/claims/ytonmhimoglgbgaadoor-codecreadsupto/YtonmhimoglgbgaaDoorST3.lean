import Derived.Test.YtonmhimoglgbgaaDoorST0
namespace Go.Proofs.YtonmhimoglgbgaaDoor
open Go.RowKit Cod
set_option maxRecDepth 100000 in
set_option maxHeartbeats 4000000 in
theorem step_4 (X b1 b2 t : Nat) (s : ByteArray) (st : RS) (ρ : Rol) (S : BS) (ot kp : Bool) (n m : Int) (sb : ByteArray) (la ta : Option Addr) (ln lc tn tc : Nat) (w : World) (_hn1 : n ≤ 9223372036854775807) (hB : Bk w X ρ S) (hG : BG S t) (_ht : t ≤ 200) (hR : Rdr w b1 st) (hX : XRd w b2 s st) (hne : b1 ≠ b2) (h1 : b1 < X) (h2 : b2 < X) (p1 : 1 ≤ b1) (p2 : 1 ≤ b2) (T : Lay w) :
    Calls Tryd.prog 14 #[.agg #[.pointer (some ⟨b1, 0, none⟩), .pointer (some ⟨b2, 0, none⟩)], .agg #[.bool ot, .bool kp, .int .i64 4, .int .i64 n, .int .i64 m, .string sb, .slice la ln lc, .slice ta tn tc], .pointer (some ⟨X, 0, none⟩)] w (StepPost X b1 b2 s (t + 1) w) := by
  have hXl := lt_of_heap hB.row
  have bq : Below w.heap.size w ((w.alloc (.cells #[.pointer (some ⟨b1, 0, none⟩), .pointer (some ⟨b2, 0, none⟩)] 40)).alloc (.cells #[.bool ot, .bool kp, .int .i64 4, .int .i64 n, .int .i64 m, .string sb, .slice la ln lc, .slice ta tn tc] 48)) := ((Below.refl _ _).alloc (Nat.le_refl _) _).alloc (by rw [size_alloc]; omega) _
  have rP : ((w.alloc (.cells #[.pointer (some ⟨b1, 0, none⟩), .pointer (some ⟨b2, 0, none⟩)] 40)).alloc (.cells #[.bool ot, .bool kp, .int .i64 4, .int .i64 n, .int .i64 m, .string sb, .slice la ln lc, .slice ta tn tc] 48)).heap[w.heap.size]? = some (.cells #[.pointer (some ⟨b1, 0, none⟩), .pointer (some ⟨b2, 0, none⟩)] 40 (0, 0)) := (Below.heap_alloc _ _ _ (by rw [size_alloc]; omega)).trans (heap_alloc_new w _)
  have rQ := heap_alloc_new (w.alloc (.cells #[.pointer (some ⟨b1, 0, none⟩), .pointer (some ⟨b2, 0, none⟩)] 40)) (.cells #[.bool ot, .bool kp, .int .i64 4, .int .i64 n, .int .i64 m, .string sb, .slice la ln lc, .slice ta tn tc] 48)
  rw [size_alloc] at rQ
  have sq : ((w.alloc (.cells #[.pointer (some ⟨b1, 0, none⟩), .pointer (some ⟨b2, 0, none⟩)] 40)).alloc (.cells #[.bool ot, .bool kp, .int .i64 4, .int .i64 n, .int .i64 m, .string sb, .slice la ln lc, .slice ta tn tc] 48)).heap.size = w.heap.size + 2 := by rw [size_alloc, size_alloc]
  have HB := hid (hB.below bq)
  have HR := hid (hR.below bq)
  have HX := hid (hX.below bq)
  have HT := hid (T.below bq T.lt)
  have Hnone : Hid (ρ w.heap.size = none ∧ ρ (w.heap.size + 1) = none) := by
    refine ⟨?_, ?_⟩
    · cases hr : ρ w.heap.size with
      | none => rfl
      | some r => have := (hB.lt _ r hr).2; omega
    · cases hr : ρ (w.heap.size + 1) with
      | none => rfl
      | some r => have := (hB.lt _ r hr).2; omega
  have HK : Hid (Keep (fun k => k = b1 ∨ k = b2 ∨ X ≤ k) w ((w.alloc (.cells #[.pointer (some ⟨b1, 0, none⟩), .pointer (some ⟨b2, 0, none⟩)] 40)).alloc (.cells #[.bool ot, .bool kp, .int .i64 4, .int .i64 n, .int .i64 m, .string sb, .slice la ln lc, .slice ta tn tc] 48))) := Keep.ofBelow bq
  have kq : ((w.alloc (.cells #[.pointer (some ⟨b1, 0, none⟩), .pointer (some ⟨b2, 0, none⟩)] 40)).alloc (.cells #[.bool ot, .bool kp, .int .i64 4, .int .i64 n, .int .i64 m, .string sb, .slice la ln lc, .slice ta tn tc] 48)).cell? ⟨w.heap.size + 1, 2, none⟩ = some (.int .i64 4) := by rw [cell_of_row _ _ _ _ _ _ rQ]; rfl
  have q0 : ((w.alloc (.cells #[.pointer (some ⟨b1, 0, none⟩), .pointer (some ⟨b2, 0, none⟩)] 40)).alloc (.cells #[.bool ot, .bool kp, .int .i64 4, .int .i64 n, .int .i64 m, .string sb, .slice la ln lc, .slice ta tn tc] 48)).cell? ⟨w.heap.size, 0, none⟩ = some (.pointer (some ⟨b1, 0, none⟩)) := by rw [cell_of_row _ _ _ _ _ _ rP]; rfl
  have q1 : ((w.alloc (.cells #[.pointer (some ⟨b1, 0, none⟩), .pointer (some ⟨b2, 0, none⟩)] 40)).alloc (.cells #[.bool ot, .bool kp, .int .i64 4, .int .i64 n, .int .i64 m, .string sb, .slice la ln lc, .slice ta tn tc] 48)).cell? ⟨w.heap.size, 1, none⟩ = some (.pointer (some ⟨b2, 0, none⟩)) := by rw [cell_of_row _ _ _ _ _ _ rP]; rfl
  have qk : ((w.alloc (.cells #[.pointer (some ⟨b1, 0, none⟩), .pointer (some ⟨b2, 0, none⟩)] 40)).alloc (.cells #[.bool ot, .bool kp, .int .i64 4, .int .i64 n, .int .i64 m, .string sb, .slice la ln lc, .slice ta tn tc] 48)).cell? ⟨w.heap.size + 1, 1, none⟩ = some (.bool kp) := by rw [cell_of_row _ _ _ _ _ _ rQ]; rfl
  have q4 : ((w.alloc (.cells #[.pointer (some ⟨b1, 0, none⟩), .pointer (some ⟨b2, 0, none⟩)] 40)).alloc (.cells #[.bool ot, .bool kp, .int .i64 4, .int .i64 n, .int .i64 m, .string sb, .slice la ln lc, .slice ta tn tc] 48)).cell? ⟨w.heap.size + 1, 4, none⟩ = some (.int .i64 m) := by rw [cell_of_row _ _ _ _ _ _ rQ]; rfl
  have q3 : ((w.alloc (.cells #[.pointer (some ⟨b1, 0, none⟩), .pointer (some ⟨b2, 0, none⟩)] 40)).alloc (.cells #[.bool ot, .bool kp, .int .i64 4, .int .i64 n, .int .i64 m, .string sb, .slice la ln lc, .slice ta tn tc] 48)).cell? ⟨w.heap.size + 1, 3, none⟩ = some (.int .i64 n) := by rw [cell_of_row _ _ _ _ _ _ rQ]; rfl
  clear hB hR hX T bq
  go_enter Tryd.func14, Tryd.ntmps14
  go_wp2
  generalize ((w.alloc (.cells #[.pointer (some ⟨b1, 0, none⟩), .pointer (some ⟨b2, 0, none⟩)] 40)).alloc (.cells #[.bool ot, .bool kp, .int .i64 4, .int .i64 n, .int .i64 m, .string sb, .slice la ln lc, .slice ta tn tc] 48)) = wq at *
  generalize w.heap.size = P at *
  obtain ⟨vv, hvv⟩ : ∃ vv : ByteArray, Hid (sv (st.val [] (rdText st.rest n)) = .string vv) := ⟨⟨(st.val [] (rdText st.rest n)).toArray⟩, rfl⟩
  have HRq := hid (show Rdr wq.drew b1 st from HR.out)
  have hc1 := rText_any b1 st n wq.drew HRq.out
  have hc2 := fun w' (h : XRd w' b2 s st) => xText_any b2 s st n w' h
  rw [hvv.out] at hc1 hc2
  have yv : (vv.toList == vv.toList) = true := by simp
  clear hvv
  have nP1 : P ≠ b1 := by omega
  have nP2 : P ≠ b2 := by omega
  go_region_held3 (fun w' => w'.cell? ⟨P, 0, none⟩ = some (.pointer (some ⟨b1, 0, none⟩)) ∧ w'.cell? ⟨P, 1, none⟩ = some (.pointer (some ⟨b2, 0, none⟩)) ∧ w'.cell? ⟨P + 1, 3, none⟩ = some (.int .i64 n)) (first | exact e3 | exact e2 | exact ⟨q0, q1, q3⟩) (first
    | (go_at_call 24; (with_reducible refine hc1.mono ?_); rintro e w2 ⟨rfl, hR2, hk2'⟩; have hk2 := ((But.refl b1 wq).drew).trans hk2'; have bP := hk2.block P (by omega) nP1; have bQ := hk2.block (P + 1) (by omega) (by omega); have e2 := And.intro ((World.cell?_of_block (w := wq) (a := ⟨P, 0, none⟩) bP).trans q0) (And.intro ((World.cell?_of_block (w := wq) (a := ⟨P, 1, none⟩) bP).trans q1) ((World.cell?_of_block (w := wq) (a := ⟨P + 1, 3, none⟩) bQ).trans q3)); have HX2 := hid (xrd_heap HX.out (hk2.block b2 (by omega) (Ne.symm hne))); have hR2 := hid hR2; have hk2 := hid hk2)
    | (go_at_call 43; (with_reducible refine (hc2 w2 HX2.out).mono ?_); rintro e w3 ⟨rfl, hX3, hk3⟩; have bP3 := (hk3.block P (by have := hk2.out.size; omega) nP2).trans bP; have bQ3 := (hk3.block (P + 1) (by have := hk2.out.size; omega) (by omega)).trans bQ; have e3 := And.intro ((World.cell?_of_block (w := wq) (a := ⟨P, 0, none⟩) bP3).trans q0) (And.intro ((World.cell?_of_block (w := wq) (a := ⟨P, 1, none⟩) bP3).trans q1) ((World.cell?_of_block (w := wq) (a := ⟨P + 1, 3, none⟩) bQ3).trans q3)); have hX3 := hid hX3; have hk3 := hid hk3))
  have HR9 := hid (rdr_heap hR2.out (hk3.out.block b1 (by have := hk2.out.size; omega) hne))
  have HX9 := hX3
  have HT9 := hid ((HT.out.but hk2.out p1).but hk3.out p2)
  have HB9 := hid ((HB.out.but hk2.out h1).but hk3.out h2)
  have HG9 := hid (hG.mono (Nat.le_succ t))
  have HK9 := hid ((HK.out.trans (Keep.ofBut (S := fun k => k = b1 ∨ k = b2 ∨ X ≤ k) hk2.out (.inl rfl)) (fun _ _ e => e)).trans (Keep.ofBut (S := fun k => k = b1 ∨ k = b2 ∨ X ≤ k) hk3.out (.inr (.inl rfl))) (fun _ _ e => e))
  have rP9 := bP3.trans rP
  clear HR HX HT HB HK hG q0 q1 q3 kq qk q4 HX2 hR2 hX3 hk2 hk3 e2 e3 bP bQ bP3 bQ3 hc1 hc2 HRq
  have c0 : w3.cell? ⟨P, 0, none⟩ = some (.pointer (some ⟨b1, 0, none⟩)) := by rw [cell_of_row _ _ _ _ _ _ rP9]; rfl
  have c1 : w3.cell? ⟨P, 1, none⟩ = some (.pointer (some ⟨b2, 0, none⟩)) := by rw [cell_of_row _ _ _ _ _ _ rP9]; rfl
  go_wp2_with (go_at_call 11; fail)
  have PL9 := lt_of_heap rP9
  refine (rDone_any b1 _ _ HT9.out HR9.out).mono ?_
  rintro e wa ⟨rfl, hwa⟩
  have HRa := hid (HR9.out.below hwa)
  have HXa := hid (HX9.out.below hwa)
  have HBa := hid (HB9.out.below hwa)
  have HKa := hid (HK9.out.trans (Keep.ofBelow (S := fun _ => False) hwa) (fun _ _ e => e.elim))
  have ca := (hwa.cell (p := ⟨P, 1, none⟩) PL9).trans c1
  have ca0 := (hwa.cell (p := ⟨P, 0, none⟩) PL9).trans c0
  have PLa := Nat.lt_of_lt_of_le PL9 hwa.size
  clear HR9 HX9 HB9 HK9 HT9 hwa c0 c1 rP9 PL9
  go_wp2_with (go_at_call 15; fail)
  refine (xDone_any b2 s _ _ HXa.out).mono ?_
  rintro e wb ⟨rfl, hwb⟩
  have HRb := hid (HRa.out.below hwb)
  have HXb := hid (HXa.out.below hwb)
  have HBb := hid (HBa.out.below hwb)
  have HKb := hid (HKa.out.trans (Keep.ofBelow (S := fun _ => False) hwb) (fun _ _ e => e.elim))
  have cb := (hwb.cell (p := ⟨P, 1, none⟩) PLa).trans ca
  have cb0 := (hwb.cell (p := ⟨P, 0, none⟩) PLa).trans ca0
  have PLb := hid (Nat.lt_of_lt_of_le PLa hwb.size)
  clear HRa HXa HBa HKa hwb ca ca0
  obtain ⟨dn, hdn⟩ : ∃ d, (RS.done (st.step (rdText st.rest n))) = d := ⟨_, rfl⟩
  obtain ⟨tk, htk⟩ : ∃ d : Int, ((RS.taken (st.step (rdText st.rest n)) : Nat) : Int) = d := ⟨_, rfl⟩
  obtain ⟨lf, hlf⟩ : ∃ d : Int, (((RS.rest (st.step (rdText st.rest n))).length : Nat) : Int) = d := ⟨_, rfl⟩
  have hL1 := fun w' (h : Rdr w' b1 (st.step (rdText st.rest n))) => left_any b1 _ w' h
  have hL2 := fun w' (h : XRd w' b2 s (st.step (rdText st.rest n))) => xLeft_any b2 s _ w' h
  rw [hlf] at hL1 hL2
  rw [hdn, htk]
  have yy1 : (dn == dn) = true := by simp
  have yy2 : (tk == tk) = true := by simp
  have yy3 : (lf == lf) = true := by simp
  have HRd := hid (show Rdr wb.drew b1 (st.step (rdText st.rest n)) from HRb.out)
  have HXd := hid (show XRd wb.drew b2 s (st.step (rdText st.rest n)) from HXb.out)
  clear hdn htk hlf
  go_wp2
  go_region_held3 (fun w' => w'.cell? ⟨P, 0, none⟩ = some (.pointer (some ⟨b1, 0, none⟩)) ∧ w'.cell? ⟨P, 1, none⟩ = some (.pointer (some ⟨b2, 0, none⟩))) (first | exact ecd | exact ⟨cb0, cb⟩) (first
    | (go_at_call 12; (with_reducible refine (hL1 _ HRd.out).mono ?_); rintro e wc ⟨rfl, hwc⟩; rw [hwc]; clear hwc wc)
    | (go_at_call 48; (with_reducible refine (hL2 wb.drew HXd.out).mono ?_); rintro e wd ⟨rfl, hwd'⟩; have hwd : Below wb.heap.size wb wd := (Below.refl wb.heap.size wb).drew.trans hwd'; have ecd := And.intro ((World.cell?_of_block (w := wb) (a := ⟨P, 0, none⟩) (hwd.block P (by have := PLb.out; omega))).trans cb0) ((World.cell?_of_block (w := wb) (a := ⟨P, 1, none⟩) (hwd.block P (by have := PLb.out; omega))).trans cb)))
  go_wp2
  go_ret
  exact ⟨rfl, (st.step (rdText st.rest n)), _, _, HRb.out.below hwd, HXb.out.below hwd, HBb.out.below hwd, HG9.out, HKb.out.trans (Keep.ofBelow (S := fun _ => False) hwd) (fun _ _ e => e.elim)⟩
set_option maxRecDepth 100000 in
set_option maxHeartbeats 4000000 in
theorem step_7 (X b1 b2 t : Nat) (s : ByteArray) (st : RS) (ρ : Rol) (S : BS) (ot kp : Bool) (n m : Int) (sb : ByteArray) (la ta : Option Addr) (ln lc tn tc : Nat) (w : World) (hn1 : n ≤ 9223372036854775807) (hB : Bk w X ρ S) (hG : BG S t) (_ht : t ≤ 200) (hR : Rdr w b1 st) (hX : XRd w b2 s st) (hne : b1 ≠ b2) (h1 : b1 < X) (h2 : b2 < X) (p1 : 1 ≤ b1) (p2 : 1 ≤ b2) (T : Lay w) :
    Calls Tryd.prog 14 #[.agg #[.pointer (some ⟨b1, 0, none⟩), .pointer (some ⟨b2, 0, none⟩)], .agg #[.bool ot, .bool kp, .int .i64 7, .int .i64 n, .int .i64 m, .string sb, .slice la ln lc, .slice ta tn tc], .pointer (some ⟨X, 0, none⟩)] w (StepPost X b1 b2 s (t + 1) w) := by
  have hXl := lt_of_heap hB.row
  have bq : Below w.heap.size w ((w.alloc (.cells #[.pointer (some ⟨b1, 0, none⟩), .pointer (some ⟨b2, 0, none⟩)] 40)).alloc (.cells #[.bool ot, .bool kp, .int .i64 7, .int .i64 n, .int .i64 m, .string sb, .slice la ln lc, .slice ta tn tc] 48)) := ((Below.refl _ _).alloc (Nat.le_refl _) _).alloc (by rw [size_alloc]; omega) _
  have rP : ((w.alloc (.cells #[.pointer (some ⟨b1, 0, none⟩), .pointer (some ⟨b2, 0, none⟩)] 40)).alloc (.cells #[.bool ot, .bool kp, .int .i64 7, .int .i64 n, .int .i64 m, .string sb, .slice la ln lc, .slice ta tn tc] 48)).heap[w.heap.size]? = some (.cells #[.pointer (some ⟨b1, 0, none⟩), .pointer (some ⟨b2, 0, none⟩)] 40 (0, 0)) := (Below.heap_alloc _ _ _ (by rw [size_alloc]; omega)).trans (heap_alloc_new w _)
  have rQ := heap_alloc_new (w.alloc (.cells #[.pointer (some ⟨b1, 0, none⟩), .pointer (some ⟨b2, 0, none⟩)] 40)) (.cells #[.bool ot, .bool kp, .int .i64 7, .int .i64 n, .int .i64 m, .string sb, .slice la ln lc, .slice ta tn tc] 48)
  rw [size_alloc] at rQ
  have sq : ((w.alloc (.cells #[.pointer (some ⟨b1, 0, none⟩), .pointer (some ⟨b2, 0, none⟩)] 40)).alloc (.cells #[.bool ot, .bool kp, .int .i64 7, .int .i64 n, .int .i64 m, .string sb, .slice la ln lc, .slice ta tn tc] 48)).heap.size = w.heap.size + 2 := by rw [size_alloc, size_alloc]
  have HB := hid (hB.below bq)
  have HR := hid (hR.below bq)
  have HX := hid (hX.below bq)
  have HT := hid (T.below bq T.lt)
  have Hnone : Hid (ρ w.heap.size = none ∧ ρ (w.heap.size + 1) = none) := by
    refine ⟨?_, ?_⟩
    · cases hr : ρ w.heap.size with
      | none => rfl
      | some r => have := (hB.lt _ r hr).2; omega
    · cases hr : ρ (w.heap.size + 1) with
      | none => rfl
      | some r => have := (hB.lt _ r hr).2; omega
  have HK : Hid (Keep (fun k => k = b1 ∨ k = b2 ∨ X ≤ k) w ((w.alloc (.cells #[.pointer (some ⟨b1, 0, none⟩), .pointer (some ⟨b2, 0, none⟩)] 40)).alloc (.cells #[.bool ot, .bool kp, .int .i64 7, .int .i64 n, .int .i64 m, .string sb, .slice la ln lc, .slice ta tn tc] 48))) := Keep.ofBelow bq
  have kq : ((w.alloc (.cells #[.pointer (some ⟨b1, 0, none⟩), .pointer (some ⟨b2, 0, none⟩)] 40)).alloc (.cells #[.bool ot, .bool kp, .int .i64 7, .int .i64 n, .int .i64 m, .string sb, .slice la ln lc, .slice ta tn tc] 48)).cell? ⟨w.heap.size + 1, 2, none⟩ = some (.int .i64 7) := by rw [cell_of_row _ _ _ _ _ _ rQ]; rfl
  have q0 : ((w.alloc (.cells #[.pointer (some ⟨b1, 0, none⟩), .pointer (some ⟨b2, 0, none⟩)] 40)).alloc (.cells #[.bool ot, .bool kp, .int .i64 7, .int .i64 n, .int .i64 m, .string sb, .slice la ln lc, .slice ta tn tc] 48)).cell? ⟨w.heap.size, 0, none⟩ = some (.pointer (some ⟨b1, 0, none⟩)) := by rw [cell_of_row _ _ _ _ _ _ rP]; rfl
  have q1 : ((w.alloc (.cells #[.pointer (some ⟨b1, 0, none⟩), .pointer (some ⟨b2, 0, none⟩)] 40)).alloc (.cells #[.bool ot, .bool kp, .int .i64 7, .int .i64 n, .int .i64 m, .string sb, .slice la ln lc, .slice ta tn tc] 48)).cell? ⟨w.heap.size, 1, none⟩ = some (.pointer (some ⟨b2, 0, none⟩)) := by rw [cell_of_row _ _ _ _ _ _ rP]; rfl
  have qk : ((w.alloc (.cells #[.pointer (some ⟨b1, 0, none⟩), .pointer (some ⟨b2, 0, none⟩)] 40)).alloc (.cells #[.bool ot, .bool kp, .int .i64 7, .int .i64 n, .int .i64 m, .string sb, .slice la ln lc, .slice ta tn tc] 48)).cell? ⟨w.heap.size + 1, 1, none⟩ = some (.bool kp) := by rw [cell_of_row _ _ _ _ _ _ rQ]; rfl
  have q4 : ((w.alloc (.cells #[.pointer (some ⟨b1, 0, none⟩), .pointer (some ⟨b2, 0, none⟩)] 40)).alloc (.cells #[.bool ot, .bool kp, .int .i64 7, .int .i64 n, .int .i64 m, .string sb, .slice la ln lc, .slice ta tn tc] 48)).cell? ⟨w.heap.size + 1, 4, none⟩ = some (.int .i64 m) := by rw [cell_of_row _ _ _ _ _ _ rQ]; rfl
  have q3 : ((w.alloc (.cells #[.pointer (some ⟨b1, 0, none⟩), .pointer (some ⟨b2, 0, none⟩)] 40)).alloc (.cells #[.bool ot, .bool kp, .int .i64 7, .int .i64 n, .int .i64 m, .string sb, .slice la ln lc, .slice ta tn tc] 48)).cell? ⟨w.heap.size + 1, 3, none⟩ = some (.int .i64 n) := by rw [cell_of_row _ _ _ _ _ _ rQ]; rfl
  clear hB hR hX T bq
  go_enter Tryd.func14, Tryd.ntmps14
  go_wp2
  generalize ((w.alloc (.cells #[.pointer (some ⟨b1, 0, none⟩), .pointer (some ⟨b2, 0, none⟩)] 40)).alloc (.cells #[.bool ot, .bool kp, .int .i64 7, .int .i64 n, .int .i64 m, .string sb, .slice la ln lc, .slice ta tn tc] 48)) = wq at *
  generalize w.heap.size = P at *
  obtain ⟨vv, hvv⟩ : ∃ vv : ByteArray, Hid (sv (st.val [] (rdRaw st.rest n)) = .string vv) := ⟨⟨(st.val [] (rdRaw st.rest n)).toArray⟩, rfl⟩
  have HRq := hid (show Rdr wq.drew b1 st from HR.out)
  have hc1 := rRaw_any b1 st n wq.drew HRq.out
  have hc2 := fun w' (h : XRd w' b2 s st) => xRaw_any b2 s st n w' hn1 h
  rw [hvv.out] at hc1 hc2
  have yv : (vv.toList == vv.toList) = true := by simp
  clear hvv
  have nP1 : P ≠ b1 := by omega
  have nP2 : P ≠ b2 := by omega
  go_region_held3 (fun w' => w'.cell? ⟨P, 0, none⟩ = some (.pointer (some ⟨b1, 0, none⟩)) ∧ w'.cell? ⟨P, 1, none⟩ = some (.pointer (some ⟨b2, 0, none⟩)) ∧ w'.cell? ⟨P + 1, 3, none⟩ = some (.int .i64 n)) (first | exact e3 | exact e2 | exact ⟨q0, q1, q3⟩) (first
    | (go_at_call 38; (with_reducible refine hc1.mono ?_); rintro e w2 ⟨rfl, hR2, hk2'⟩; have hk2 := ((But.refl b1 wq).drew).trans hk2'; have bP := hk2.block P (by omega) nP1; have bQ := hk2.block (P + 1) (by omega) (by omega); have e2 := And.intro ((World.cell?_of_block (w := wq) (a := ⟨P, 0, none⟩) bP).trans q0) (And.intro ((World.cell?_of_block (w := wq) (a := ⟨P, 1, none⟩) bP).trans q1) ((World.cell?_of_block (w := wq) (a := ⟨P + 1, 3, none⟩) bQ).trans q3)); have HX2 := hid (xrd_heap HX.out (hk2.block b2 (by omega) (Ne.symm hne))); have hR2 := hid hR2; have hk2 := hid hk2)
    | (go_at_call 47; (with_reducible refine (hc2 w2 HX2.out).mono ?_); rintro e w3 ⟨rfl, hX3, hk3⟩; have bP3 := (hk3.block P (by have := hk2.out.size; omega) nP2).trans bP; have bQ3 := (hk3.block (P + 1) (by have := hk2.out.size; omega) (by omega)).trans bQ; have e3 := And.intro ((World.cell?_of_block (w := wq) (a := ⟨P, 0, none⟩) bP3).trans q0) (And.intro ((World.cell?_of_block (w := wq) (a := ⟨P, 1, none⟩) bP3).trans q1) ((World.cell?_of_block (w := wq) (a := ⟨P + 1, 3, none⟩) bQ3).trans q3)); have hX3 := hid hX3; have hk3 := hid hk3))
  have HR9 := hid (rdr_heap hR2.out (hk3.out.block b1 (by have := hk2.out.size; omega) hne))
  have HX9 := hX3
  have HT9 := hid ((HT.out.but hk2.out p1).but hk3.out p2)
  have HB9 := hid ((HB.out.but hk2.out h1).but hk3.out h2)
  have HG9 := hid (hG.mono (Nat.le_succ t))
  have HK9 := hid ((HK.out.trans (Keep.ofBut (S := fun k => k = b1 ∨ k = b2 ∨ X ≤ k) hk2.out (.inl rfl)) (fun _ _ e => e)).trans (Keep.ofBut (S := fun k => k = b1 ∨ k = b2 ∨ X ≤ k) hk3.out (.inr (.inl rfl))) (fun _ _ e => e))
  have rP9 := bP3.trans rP
  clear HR HX HT HB HK hG q0 q1 q3 kq qk q4 HX2 hR2 hX3 hk2 hk3 e2 e3 bP bQ bP3 bQ3 hc1 hc2 HRq
  have c0 : w3.cell? ⟨P, 0, none⟩ = some (.pointer (some ⟨b1, 0, none⟩)) := by rw [cell_of_row _ _ _ _ _ _ rP9]; rfl
  have c1 : w3.cell? ⟨P, 1, none⟩ = some (.pointer (some ⟨b2, 0, none⟩)) := by rw [cell_of_row _ _ _ _ _ _ rP9]; rfl
  go_wp2_with (go_at_call 11; fail)
  have PL9 := lt_of_heap rP9
  refine (rDone_any b1 _ _ HT9.out HR9.out).mono ?_
  rintro e wa ⟨rfl, hwa⟩
  have HRa := hid (HR9.out.below hwa)
  have HXa := hid (HX9.out.below hwa)
  have HBa := hid (HB9.out.below hwa)
  have HKa := hid (HK9.out.trans (Keep.ofBelow (S := fun _ => False) hwa) (fun _ _ e => e.elim))
  have ca := (hwa.cell (p := ⟨P, 1, none⟩) PL9).trans c1
  have ca0 := (hwa.cell (p := ⟨P, 0, none⟩) PL9).trans c0
  have PLa := Nat.lt_of_lt_of_le PL9 hwa.size
  clear HR9 HX9 HB9 HK9 HT9 hwa c0 c1 rP9 PL9
  go_wp2_with (go_at_call 15; fail)
  refine (xDone_any b2 s _ _ HXa.out).mono ?_
  rintro e wb ⟨rfl, hwb⟩
  have HRb := hid (HRa.out.below hwb)
  have HXb := hid (HXa.out.below hwb)
  have HBb := hid (HBa.out.below hwb)
  have HKb := hid (HKa.out.trans (Keep.ofBelow (S := fun _ => False) hwb) (fun _ _ e => e.elim))
  have cb := (hwb.cell (p := ⟨P, 1, none⟩) PLa).trans ca
  have cb0 := (hwb.cell (p := ⟨P, 0, none⟩) PLa).trans ca0
  have PLb := hid (Nat.lt_of_lt_of_le PLa hwb.size)
  clear HRa HXa HBa HKa hwb ca ca0
  obtain ⟨dn, hdn⟩ : ∃ d, (RS.done (st.step (rdRaw st.rest n))) = d := ⟨_, rfl⟩
  obtain ⟨tk, htk⟩ : ∃ d : Int, ((RS.taken (st.step (rdRaw st.rest n)) : Nat) : Int) = d := ⟨_, rfl⟩
  obtain ⟨lf, hlf⟩ : ∃ d : Int, (((RS.rest (st.step (rdRaw st.rest n))).length : Nat) : Int) = d := ⟨_, rfl⟩
  have hL1 := fun w' (h : Rdr w' b1 (st.step (rdRaw st.rest n))) => left_any b1 _ w' h
  have hL2 := fun w' (h : XRd w' b2 s (st.step (rdRaw st.rest n))) => xLeft_any b2 s _ w' h
  rw [hlf] at hL1 hL2
  rw [hdn, htk]
  have yy1 : (dn == dn) = true := by simp
  have yy2 : (tk == tk) = true := by simp
  have yy3 : (lf == lf) = true := by simp
  have HRd := hid (show Rdr wb.drew b1 (st.step (rdRaw st.rest n)) from HRb.out)
  have HXd := hid (show XRd wb.drew b2 s (st.step (rdRaw st.rest n)) from HXb.out)
  clear hdn htk hlf
  go_wp2
  go_region_held3 (fun w' => w'.cell? ⟨P, 0, none⟩ = some (.pointer (some ⟨b1, 0, none⟩)) ∧ w'.cell? ⟨P, 1, none⟩ = some (.pointer (some ⟨b2, 0, none⟩))) (first | exact ecd | exact ⟨cb0, cb⟩) (first
    | (go_at_call 12; (with_reducible refine (hL1 _ HRd.out).mono ?_); rintro e wc ⟨rfl, hwc⟩; rw [hwc]; clear hwc wc)
    | (go_at_call 48; (with_reducible refine (hL2 wb.drew HXd.out).mono ?_); rintro e wd ⟨rfl, hwd'⟩; have hwd : Below wb.heap.size wb wd := (Below.refl wb.heap.size wb).drew.trans hwd'; have ecd := And.intro ((World.cell?_of_block (w := wb) (a := ⟨P, 0, none⟩) (hwd.block P (by have := PLb.out; omega))).trans cb0) ((World.cell?_of_block (w := wb) (a := ⟨P, 1, none⟩) (hwd.block P (by have := PLb.out; omega))).trans cb)))
  go_wp2
  go_ret
  exact ⟨rfl, (st.step (rdRaw st.rest n)), _, _, HRb.out.below hwd, HXb.out.below hwd, HBb.out.below hwd, HG9.out, HKb.out.trans (Keep.ofBelow (S := fun _ => False) hwd) (fun _ _ e => e.elim)⟩
end Go.Proofs.YtonmhimoglgbgaaDoor
