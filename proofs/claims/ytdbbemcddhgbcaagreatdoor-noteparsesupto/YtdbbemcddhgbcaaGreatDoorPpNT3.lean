import Derived.Test.YtdbbemcddhgbcaaGreatDoorPpNT1
/- Layer 22: NoteParses' walk -/
namespace Go.Proofs.YtdbbemcddhgbcaaGreatDoor
open Go.RowKit Go.Shelf
namespace Nt
set_option linter.unusedSimpArgs false in
set_option maxRecDepth 100000 in
set_option maxHeartbeats 8000000 in
theorem noteParses_law {E : Es} (s : ByteArray) (hs : s.size ≤ 1500000)
    (O R : ByteArray) (z : Int) (hO : O.size ≤ 9223372036854775807) (hR : R.size ≤ 140737488355000) (hz1 : -9223372036854775808 ≤ z) (hz2 : z ≤ 9223372036854775807) (S : List Sg) (n : Nat) (hn : Hid (S.length = n)) (hn2 : n ≤ 4398046511000) (hS : ∀ x ∈ S, x.1.size ≤ 9223372036854775807 ∧ x.2.size ≤ 140737488355000) (a : Option Addr) (c : Nat) (at_ by_ : Int) (hw1 : -9223372036854775808 ≤ at_) (hw2 : at_ ≤ 9223372036854775807) (w : World) (h : Nw w E) (hA : AtS w a S) :
    Calls Tryz.prog 4 #[.string s, nv O z R (.slice a n c), .int .i64 at_, .int .i64 by_] w fun q w' => q = .returned (.bool true) ∧ Below w.heap.size w w' := by
  have b0 := (Below.refl w.heap.size w).alloc (Nat.le_refl _) (.cells #[.string O, .int .i64 z, .string R, .slice a n c] 26)
  have s0 := Bx.new w O z R (.slice a n c)
  have hA := hA.below b0
  have h := h.below b0
  obtain ⟨W, hW⟩ : ∃ W, w.alloc (.cells #[.string O, .int .i64 z, .string R, .slice a n c] 26) = W := ⟨_, rfl⟩
  rw [hW] at b0 s0 hA h
  obtain ⟨g, hg⟩ : ∃ g, w.heap.size = g := ⟨_, rfl⟩
  rw [hg] at s0
  have i1 := known22_any h
  have i3 := hid fun (w' : World) (b : Below W.heap.size W w') => fitted22_nm O R z hO hR hz1 hz2 S n hn hn2 hS a c w' (hA.below b)
  have X0 := hid s0
  have BW0 := hid b0
  have HNw := hid h
  have HG := hid hg
  have HW := hid hW
  have HSZ := hid hs
  have hs9 : (s.size : Int) ≤ 1500000 := by omega
  clear b0 s0 hA h hg hW hO hR hz1 hz2 hn hn2 hS hs
  unfold nv at *
  go_enter Tryz.func4, Tryz.ntmps4
  go_upto_region 1 with fail
  rw [HW.out, HG.out]
  go_upto_region 2 with (go_at_call 6; (refine i1.mono ?_); rintro q w1 ⟨rfl, b1⟩)
  have B1 := hid b1
  have HN1 := hid (HNw.out.below b1)
  have K0 := hid (Wk.new w1)
  clear b1 i1 HNw
  go_upto_region 3 with fail
  obtain ⟨gb, hgb⟩ : ∃ gb, w1.heap.size = gb := ⟨_, rfl⟩
  obtain ⟨wb, hwb⟩ : ∃ wb, w1.alloc (.cells #[.slice none 0 0, .slice none 0 0, .slice none 0 0] 38) = wb := ⟨_, rfl⟩
  rw [hgb, hwb] at K0
  rw [hgb, hwb]
  clear hwb
  go_upto_region 4 with (go_at_call 10; (refine (K0.out.parses HN1.out (by decide) s (Nat.le_trans HSZ.out (by decide))).mono ?_); rintro q w2 ⟨rfl, k9⟩; have Kw2 := hid k9; clear k9)
  have B2 := hid (B1.out.trans (Kw2.out.b.mono B1.out.size))
  have x2 := X0.out.below B2.out
  have p0 := x2.c0
  have p1 := x2.c1
  have p2 := x2.c2
  have p3 := x2.c3
  clear x2 K0
  go_upto_region 5 with (first
    | (go_at_call 8; (refine (i3.out w2 B2.out).mono ?_); rintro q w3 ⟨⟨O2, z2, R2, S2, a2, c2, rfl, hA2, -, hL2, ⟨hO2, hN2⟩, hR2, hz2', hK2, hS2⟩, b3⟩; have X3 := hid (Bx.new w3 ⟨#[]⟩ 0 ⟨#[]⟩ (.slice none 0 0)); have K3 := hid (Kw2.out.below b3); have F2 := hid (And.intro hN2.out (And.intro hK2.out (And.intro hL2 (And.intro hO2 (And.intro hR2 (And.intro hz2' hS2)))))); have A2 := hid hA2; clear hA2 hL2 hO2 hN2 hR2 hz2' hK2 hS2 b3)
    | ((with_reducible show wpList _ _ _ (Oper.mk _ (Op.store 26 _ _) _ _ _ _ :: _) _ _); go_must (refine wpList_store_row rfl 26 _ _ rfl w3.heap.size _ rfl rfl 26 _ X3.out (sizeNt22 _ _ _ _) rfl (oneNt22 _ _ _ _ _ _) ?_)))
  have bX : Below w3.heap.size w3 ((w3.alloc (.cells #[.string ⟨#[]⟩, .int .i64 0, .string ⟨#[]⟩, .slice none 0 0] 26)).setRow w3.heap.size #[.string O2, .int .i64 z2, .string R2, .slice a2 S2.length c2]) := Below.setRow ((Below.refl _ _).alloc (Nat.le_refl _) _) (Nat.le_refl _) _
  have xX : Bx ((w3.alloc (.cells #[.string ⟨#[]⟩, .int .i64 0, .string ⟨#[]⟩, .slice none 0 0] 26)).setRow w3.heap.size #[.string O2, .int .i64 z2, .string R2, .slice a2 S2.length c2]) w3.heap.size O2 z2 R2 (.slice a2 S2.length c2) := setRow_heap _ _ _ _ _ _ X3.out
  have A4 := A2.out.below bX
  have K4 := hid (K3.out.below bX)
  obtain ⟨hT0, hTs⟩ := ntT_few F2.out.2.2.2.1 F2.out.2.2.2.2.1 F2.out.2.2.2.2.2.1 F2.out.2.2.1 F2.out.2.2.2.2.2.2
  have hpr := prtA_fit F2.out.1 F2.out.2.2.2.2.1 F2.out.2.2.2.2.2.1 F2.out.2.2.1 F2.out.2.1
  generalize ntT O2 z2 R2 S2 = T at *
  have q0 := xX.c0
  have q1 := xX.c1
  have q2 := xX.c2
  have q3 := xX.c3
  obtain ⟨w4, hw4⟩ : ∃ w4, (w3.alloc (.cells #[.string ⟨#[]⟩, .int .i64 0, .string ⟨#[]⟩, .slice none 0 0] 26)).setRow w3.heap.size #[.string O2, .int .i64 z2, .string R2, .slice a2 S2.length c2] = w4 := ⟨_, rfl⟩
  rw [hw4] at A4 K4 q0 q1 q2 q3
  rw [hw4]
  have i5 := rPrint22_any O2 R2 z2 (Nat.le_trans F2.out.2.2.2.1 (by decide)) S2 _ rfl (Nat.le_trans F2.out.2.2.1 (by decide)) (fun x hx => Nat.le_trans (F2.out.2.2.2.2.2.2 x hx).1 (by decide)) a2 c2 w4 A4 T 0 hpr
  unfold nv at i5
  clear bX xX A4 hpr hw4 p0 p1 p2 p3 K3 A2 F2 X3 i3
  go_upto_region 6 with (go_at_call 11; (refine i5.mono ?_); rintro q w5 ⟨rfl, b5⟩; have K5 := hid (K4.out.below b5); clear b5)
  have HT := hid hTs
  have hT1 : (0 : Int) < (T.size : Int) := by omega
  have hT2 : (T.size : Int) ≤ 150000 := by omega
  clear i5 q0 q1 q2 q3 hTs
  go_upto_region 9 with (go_at_call 10; (refine (K5.out.parses HN1.out (by decide) T (Nat.le_trans HT.out (by decide))).mono ?_); rintro q w6 ⟨rfl, k9⟩; have Kw6 := hid k9; clear k9)
  have hk0 := pk_nonneg22 at_ (T.size : Int) hT1
  have hk1 := pk_lt22 at_ (T.size : Int) hT1
  have i9 := pick22_any at_ (T.size : Int) hw1 hw2 hT1 (by omega) w6
  obtain ⟨k, hk⟩ : ∃ k : Nat, pk22 at_ (T.size : Int) = (k : Int) := ⟨(pk22 at_ (T.size : Int)).toNat, (Int.toNat_of_nonneg hk0).symm⟩
  rw [hk] at i9 hk0 hk1
  clear hk
  have hkn : k < T.size := by omega
  have hkn2 : k ≤ T.size := Nat.le_of_lt hkn
  have d1 : ¬ 9223372036854775807 < k + s.size := by omega
  have d2 : ¬ 9223372036854775807 < k + s.size + (T.size - k) := by omega
  obtain ⟨gf, cf, wf, T2, hc1, ⟨uf, hu⟩, hf, hc2, hz2, bf⟩ := flip_run w6 T (Nat.le_trans HT.out (by decide)) k hkn by_
  simp only [IntKind.wrap_u8] at hc2 bf
  have Kf := hid (Kw6.out.below bf)
  have HZ2 := hid hz2
  clear bf hz2
  go_upto_region 10 with (go_at_call 9; (refine i9.mono ?_); rintro q w7 ⟨rfl, rfl⟩)
  go_upto_region 12 with fail
  go_upto_region 13 with (go_at_call 10; (refine (Kf.out.parses HN1.out (by decide) T2 (by rw [HZ2.out]; exact Nat.le_trans HT.out (by decide))).mono ?_); rintro q w8 ⟨rfl, k9⟩; have Kw8 := hid k9; clear k9)
  clear hc1 hu hf hc2 i9
  go_upto_region 14 with (go_at_call 10; (refine (Kw8.out.parses HN1.out (by decide) _ ?sz).mono ?_); (case sz => ((try simp only [ByteArray.size_append, ByteArray.size_extract]); (have h8 := HT.out); (have h9 := HSZ.out); omega)); rintro q w9 ⟨rfl, k9⟩; have Kw9 := hid k9; clear k9)
  go_upto_region 15 with (go_at_call 10; (refine (Kw9.out.parses HN1.out (by decide) _ ?sz).mono ?_); (case sz => ((try simp only [ByteArray.size_append, ByteArray.size_extract]); (have h8 := HT.out); (have h9 := HSZ.out); omega)); rintro q w10 ⟨rfl, k9⟩; have Kw10 := hid k9; clear k9)
  refine wp_region_noPanic ?_
  refine wp_region_held_drew (S := fun _ => True) (by kernel_rfl) trivial (fun hHeld => ?_)
  refine wpAnyH_take (i := 0) (oi := ⟨some 67, _, _, _, _, _⟩) (v := ?vV0) rfl (by kernel_rfl) (by kernel_rfl) (by kernel_rfl) (fun _ _ _ h => h) (Or.inl ⟨by rfl, ?hyV0⟩) (by assumption) ?restV0
  case hyV0 => (intro w hSw; (try dsimp only at hSw); go_simp <;> (try with_reducible rfl))
  try simp only [Act.put, List.setIfInBounds_toArray, List.set_cons_zero, List.set_cons_succ]
  refine wpAnyH_take (i := 1) (oi := ⟨some 68, _, _, _, _, _⟩) (v := ?vV1) rfl (by kernel_rfl) (by kernel_rfl) (by kernel_rfl) (fun _ _ _ h => h) (Or.inl ⟨by rfl, ?hyV1⟩) (by assumption) ?restV1
  case hyV1 => (intro w hSw; (try dsimp only at hSw); go_simp <;> (try with_reducible rfl))
  try simp only [Act.put, List.setIfInBounds_toArray, List.set_cons_zero, List.set_cons_succ]
  refine wpAnyH_take (i := 2) (oi := ⟨some 69, _, _, _, _, _⟩) (v := ?vV2) rfl (by kernel_rfl) (by kernel_rfl) (by kernel_rfl) (fun _ _ _ h => h) (Or.inl ⟨by rfl, ?hyV2⟩) (by assumption) ?restV2
  case hyV2 => (intro w hSw; (try dsimp only at hSw); go_simp <;> (try with_reducible rfl))
  try simp only [Act.put, List.setIfInBounds_toArray, List.set_cons_zero, List.set_cons_succ]
  refine wpAnyH_take (i := 3) (oi := ⟨some 70, _, _, _, _, _⟩) (v := ?vV3) rfl (by kernel_rfl) (by kernel_rfl) (by kernel_rfl) (fun _ _ _ h => h) (Or.inl ⟨by rfl, ?hyV3⟩) (by assumption) ?restV3
  case hyV3 => (intro w hSw; (try dsimp only at hSw); go_simp <;> (try with_reducible rfl))
  try simp only [Act.put, List.setIfInBounds_toArray, List.set_cons_zero, List.set_cons_succ]
  refine wpAnyH_take (i := 4) (oi := ⟨some 71, _, _, _, _, _⟩) (v := ?vV4) rfl (by kernel_rfl) (by kernel_rfl) (by kernel_rfl) (fun _ _ _ h => h) (Or.inl ⟨by rfl, ?hyV4⟩) (by assumption) ?restV4
  case hyV4 => (intro w hSw; (try dsimp only at hSw); go_simp <;> (try with_reducible rfl))
  try simp only [Act.put, List.setIfInBounds_toArray, List.set_cons_zero, List.set_cons_succ]
  refine wpAnyH_take (i := 5) (oi := ⟨some 72, _, _, _, _, _⟩) (v := ?vV5) rfl (by kernel_rfl) (by kernel_rfl) (by kernel_rfl) (fun _ _ _ h => h) (Or.inl ⟨by rfl, ?hyV5⟩) (by assumption) ?restV5
  case hyV5 => (intro w hSw; (try dsimp only at hSw); go_simp <;> (try with_reducible rfl))
  try simp only [Act.put, List.setIfInBounds_toArray, List.set_cons_zero, List.set_cons_succ]
  refine wpAnyH_take (i := 6) (oi := ⟨some 73, _, _, _, _, _⟩) (v := ?vV6) rfl (by kernel_rfl) (by kernel_rfl) (by kernel_rfl) (fun _ _ _ h => h) (Or.inl ⟨by rfl, ?hyV6⟩) (by assumption) ?restV6
  case hyV6 => (intro w hSw; (try dsimp only at hSw); go_simp <;> (try with_reducible rfl))
  try simp only [Act.put, List.setIfInBounds_toArray, List.set_cons_zero, List.set_cons_succ]
  refine wpAnyH_take (i := 7) (oi := ⟨some 74, _, _, _, _, _⟩) (v := ?vV7) rfl (by kernel_rfl) (by kernel_rfl) (by kernel_rfl) (fun _ _ _ h => h) (Or.inl ⟨by rfl, ?hyV7⟩) (by assumption) ?restV7
  case hyV7 => (intro w hSw; (try dsimp only at hSw); go_simp <;> (try with_reducible rfl))
  try simp only [Act.put, List.setIfInBounds_toArray, List.set_cons_zero, List.set_cons_succ]
  refine wpAnyH_take (i := 8) (oi := ⟨some 75, _, _, _, _, _⟩) (v := ?vV8) rfl (by kernel_rfl) (by kernel_rfl) (by kernel_rfl) (fun _ _ _ h => h) (Or.inl ⟨by rfl, ?hyV8⟩) (by assumption) ?restV8
  case hyV8 => (intro w hSw; (try dsimp only at hSw); go_simp <;> (try with_reducible rfl))
  try simp only [Act.put, List.setIfInBounds_toArray, List.set_cons_zero, List.set_cons_succ]
  refine wpAnyH_take (i := 9) (oi := ⟨some 76, _, _, _, _, _⟩) (v := ?vV9) rfl (by kernel_rfl) (by kernel_rfl) (by kernel_rfl) (fun _ _ _ h => h) (Or.inl ⟨by rfl, ?hyV9⟩) (by assumption) ?restV9
  case hyV9 => (intro w hSw; (try dsimp only at hSw); go_simp <;> (try with_reducible rfl))
  try simp only [Act.put, List.setIfInBounds_toArray, List.set_cons_zero, List.set_cons_succ]
  refine wpAnyH_ready (rs := [10]) (by kernel_rfl) (by simp) ?_
  refine AllReadyH.cons (o := ⟨some 77, _, _, _, _, _⟩) rfl (fun K hK => ?_) AllReadyH.nil
  go_simp
  have K10 := hid (Kw10.out.below (bw_drew w10))
  go_at_call 10
  refine (K10.out.parses HN1.out (by decide) _ ?sz).mono ?_
  case sz => ((try simp only [ByteArray.size_append, ByteArray.size_extract]); (have h8 := HT.out); (have h9 := HSZ.out); omega)
  rintro q w11 ⟨rfl, k9⟩
  have Kw11 := hid k9
  clear k9
  clear hHeld
  refine hK.out _ _ ?hSV10 (fun hHeld => ?restV10)
  case hSV10 => exact trivial
  clear hK K
  try simp only [Act.put, List.setIfInBounds_toArray, List.set_cons_zero, List.set_cons_succ]
  refine wpAnyH_take (i := 11) (oi := ⟨some 21, _, _, _, _, _⟩) (v := ?vV11) rfl (by kernel_rfl) (by kernel_rfl) (by kernel_rfl) (fun _ _ _ h => h) (Or.inl ⟨by rfl, ?hyV11⟩) (by assumption) ?restV11
  case hyV11 => (intro w hSw; (try dsimp only at hSw); go_simp <;> (try with_reducible rfl))
  try simp only [Act.put, List.setIfInBounds_toArray, List.set_cons_zero, List.set_cons_succ]
  refine wpAnyH_done (by kernel_rfl) ?_ _
  refine NoPanic.normal ?_
  clear hHeld
  have hm1 : (k : Int) % (T.size : Int) = (k : Int) := Int.emod_eq_of_lt hk0 hk1
  have hm2 : (k : Int).tmod (T.size : Int) = (k : Int) := by rw [Int.tmod_eq_emod_of_nonneg hk0]; exact hm1
  go_upto_region 17 with (go_at_call 10; (refine (Kw11.out.parses HN1.out (by decide) _ ?sz).mono ?_); (case sz => ((try simp only [ByteArray.size_append, ByteArray.size_extract]); (have h8 := HT.out); (have h9 := HSZ.out); omega)); rintro q w12 ⟨rfl, k9⟩; have Kw12 := hid k9; clear k9)
  go_upto_region 18 with (go_at_call 12; (refine (Kw12.out.still (by decide) (by decide)).mono ?_); rintro q w13 ⟨rfl, b13⟩; have B13 := hid b13; clear b13)
  go_wp2
  go_ret
  exact ⟨rfl, BW0.out.trans ((B1.out.trans (B13.out.mono B1.out.size)).mono BW0.out.size)⟩
end Nt
end Go.Proofs.YtdbbemcddhgbcaaGreatDoor
