import Derived.Test.YtdbbemcddhgbcaaGreatDoorPpND3
/- Layer 22, the law: Body and Print of both, of a note that is lent, and of the same one with other data -/
namespace Go.Proofs.YtdbbemcddhgbcaaGreatDoor
open Go.RowKit Go.Shelf
namespace Nt
set_option maxRecDepth 100000 in
set_option maxHeartbeats 16000000 in
theorem prints22_any {E : Es} (O R : ByteArray) (z : Int) (hO : O.size ≤ 9223372036854775807) (S : List Sg) (n : Nat) (hn : Hid (S.length = n)) (hn2 : n ≤ 4398046511000) (hS : ∀ x ∈ S, x.1.size ≤ 9223372036854775807 ∧ x.2.size ≤ 9223372036854775000) (a : Option Addr) (c : Nat) (w : World) (h : Nw w E) (hA : AtS w a S) (hF : AtF w a S) :
    Calls Tryz.prog 7 #[nv O z R (.slice a n c)] w fun q w' => q = .returned (.bool true) ∧ Below w.heap.size w w' := by
  have b0 := (Below.refl w.heap.size w).alloc (Nat.le_refl _) (.cells #[.string O, .int .i64 z, .string R, .slice a n c] 26)
  have s0 := Bx.new w O z R (.slice a n c)
  have hA := hA.below b0
  have hF := hF.below b0
  have h := h.below b0
  obtain ⟨W, hW⟩ : ∃ W, w.alloc (.cells #[.string O, .int .i64 z, .string R, .slice a n c] 26) = W := ⟨_, rfl⟩
  rw [hW] at b0 s0 hA hF h
  have hg2 : w.heap.size < W.heap.size := lt_of_heap s0
  obtain ⟨g, hg⟩ : ∃ g, w.heap.size = g := ⟨_, rfl⟩
  rw [hg] at s0 hg2
  have i1 := lent22_any O R z S n hn (by omega) a c W hF
  have p0 := s0.c0
  have p1 := s0.c1
  have p2 := s0.c2
  have p3 := s0.c3
  have HNw := hid h
  have HA := hid hA
  have HF := hid hF
  have HB := hid b0
  have HS0 := hid s0
  have HG := hid hg
  have HGl := hid hg2
  have HW := hid hW
  clear h hA hF b0 s0 hg hg2 hW
  unfold nv at *
  go_enter Tryz.func7, Tryz.ntmps7
  go_upto_region 1 with fail
  rw [HW.out, HG.out]
  go_upto_region 2 with (go_at_call 18; (refine i1.mono ?_); rintro q w1 ⟨H, rfl, hR, hH, b1⟩)
  have b2 := (Below.refl w1.heap.size w1).alloc (Nat.le_refl _) (.cells #[.string O, .int .i64 z, .string R, .slice (some ⟨H, 0, none⟩) n (n + 8)] 26)
  have s2 := Bx.new w1 O z R (.slice (some ⟨H, 0, none⟩) n (n + 8))
  have hHl : H < w1.heap.size := hR.lt
  have hR := hR.below b2
  have b3 := b1.trans (b2.mono b1.size)
  have hg2 : w1.heap.size < (w1.alloc (.cells #[.string O, .int .i64 z, .string R, .slice (some ⟨H, 0, none⟩) n (n + 8)] 26)).heap.size := by rw [size_alloc]; omega
  have hg3 : g < w1.heap.size := Nat.lt_of_lt_of_le HGl.out b1.size
  have hg4 : g < H := Nat.lt_of_lt_of_le HGl.out hH
  obtain ⟨V, hV⟩ : ∃ V, w1.alloc (.cells #[.string O, .int .i64 z, .string R, .slice (some ⟨H, 0, none⟩) n (n + 8)] 26) = V := ⟨_, rfl⟩
  obtain ⟨g2, hg2'⟩ : ∃ g2, w1.heap.size = g2 := ⟨_, rfl⟩
  rw [hV] at b2 s2 hR b3 hg2 ⊢
  rw [hg2'] at s2 hg2 hg3 hHl ⊢
  have s1 := HS0.out.below b3
  have cs : ∀ w', Below V.heap.size V w' → (w'.cell? ⟨g, 0, none⟩ = some (.string O) ∧ w'.cell? ⟨g, 1, none⟩ = some (.int .i64 z) ∧ w'.cell? ⟨g, 2, none⟩ = some (.string R) ∧ w'.cell? ⟨g, 3, none⟩ = some (.slice a n c)) ∧ (w'.cell? ⟨g2, 0, none⟩ = some (.string O) ∧ w'.cell? ⟨g2, 1, none⟩ = some (.int .i64 z) ∧ w'.cell? ⟨g2, 2, none⟩ = some (.string R) ∧ w'.cell? ⟨g2, 3, none⟩ = some (.slice (some ⟨H, 0, none⟩) n (n + 8))) := fun w' b => by
    have x1 := s1.below b
    have x2 := s2.below b
    exact ⟨⟨x1.c0, x1.c1, x1.c2, x1.c3⟩, x2.c0, x2.c1, x2.c2, x2.c3⟩
  have hNw := HNw.out.below b3
  have hA := HA.out.below b3
  have e8 : (S ++ beh 8).take n = S := by rw [← hn.out, List.take_left]
  have hAH : AtS V (some ⟨H, 0, none⟩) S := by have := hR.at.take n; rw [e8] at this; exact this
  obtain ⟨T1, c1, hT1⟩ : ∃ T c, bodyA O z R = (T, c) := ⟨_, _, rfl⟩
  obtain ⟨T2, c2, hT2⟩ : ∃ T c, prtA O z R S = (T, c) := ⟨_, _, rfl⟩
  have i2 := fun (w' : World) (b : Below V.heap.size V w') => body_any (hNw.below b) O R z (.slice (some ⟨H, 0, none⟩) n (n + 8)) T1 c1 hT1
  have i3 := fun (w' : World) => rBody22_any O R z (.slice a n c) hO w' T1 c1 hT1
  have i4 := fun (w' : World) (b : Below V.heap.size V w') => print_any (hNw.below b) O R z S n hn (by omega) (some ⟨H, 0, none⟩) (n + 8) (hAH.below b) T2 c2 hT2
  have i5 := fun (w' : World) (b : Below V.heap.size V w') => rPrint22_any O R z hO S n hn (by omega) (fun x hx => (hS x hx).1) a c w' (hA.below b) T2 c2 hT2
  have i6 := fun (w' : World) (b : Below V.heap.size V w') => kept22_any S n hn (by omega) H (n + 8) a c w' (hR.below b) (hA.below b)
  obtain ⟨⟨p0, p1, p2, p3⟩, p4, p5, p6, p7⟩ := cs V (Below.refl _ _)
  have CS := hid cs
  have HR := hid hR
  have B3 := hid (HB.out.trans (b3.mono HB.out.size))
  have HGl := hid (show g < g2 ∧ g < H ∧ H < g2 ∧ g2 < V.heap.size from ⟨hg3, hg4, hHl, hg2⟩)
  have HS1 := hid s1
  have HS2 := hid s2
  have HN3 := hid hNw
  have B00 := hid (Below.refl V.heap.size V)
  clear hg3 hg4 hHl hg2 hR b3 b2 b1 hV hg2' s1 s2 hNw hA hAH e8 hH hT1 hT2 cs
  unfold nv at *
  go_upto_region 3 with (go_at_call 14; (refine (i2 V B00.out).mono ?_); rintro q w2 ⟨rfl, b2⟩)
  have B2 := hid b2
  obtain ⟨⟨p0, p1, p2, p3⟩, p4, p5, p6, p7⟩ := CS.out w2 b2
  clear b2
  go_upto_region 4 with (go_at_call 19; (refine (i3 w2).mono ?_); rintro q w3 ⟨rfl, b2⟩)
  have B3' := hid (B2.out.trans (b2.mono B2.out.size))
  clear b2 B2
  obtain ⟨⟨p0, p1, p2, p3⟩, p4, p5, p6, p7⟩ := CS.out w3 B3'.out
  go_upto_region 5 with (go_at_call 15; (refine (i4 w3 B3'.out).mono ?_); rintro q w4 ⟨rfl, b2⟩)
  have B4 := hid (B3'.out.trans (b2.mono B3'.out.size))
  clear b2 B3'
  obtain ⟨⟨p0, p1, p2, p3⟩, p4, p5, p6, p7⟩ := CS.out w4 B4.out
  go_upto_region 6 with (go_at_call 11; (refine (i5 w4 B4.out).mono ?_); rintro q w5 ⟨rfl, b2⟩)
  have B5 := hid (B4.out.trans (b2.mono B4.out.size))
  clear b2 B4
  obtain ⟨⟨p0, p1, p2, p3⟩, p4, p5, p6, p7⟩ := CS.out w5 B5.out
  go_upto_region 7 with (go_at_call 20; (refine (i6 w5 B5.out).mono ?_); rintro q w6 ⟨rfl, b2, -⟩)
  have B6 := hid (B5.out.trans (b2.mono B5.out.size))
  clear b2 B5
  obtain ⟨⟨p0, p1, p2, p3⟩, p4, p5, p6, p7⟩ := CS.out w6 B6.out
  clear i1 i2 i3 i4 i5 i6
  go_upto_region 9 with fail
  have b9 := (Below.refl w6.heap.size w6).alloc (Nat.le_refl _) (.cells #[.string O, .int .i64 z, .string R, .slice a n c] 26)
  have s9 := Bx.new w6 O z R (.slice a n c)
  obtain ⟨g3, hg3⟩ : ∃ g3, w6.heap.size = g3 := ⟨_, rfl⟩
  go_upto_region 10 with fail
  obtain ⟨Y, hY⟩ : ∃ Y, w6.alloc (.cells #[.string O, .int .i64 z, .string R, .slice a n c] 26) = Y := ⟨_, rfl⟩
  have hgY : w6.heap.size < Y.heap.size := by rw [← hY, size_alloc]; omega
  rw [hY] at b9 s9 ⊢
  rw [hg3] at s9 hgY
  have f9 : Y.frozen? ⟨g3, 3, none⟩ = false := frozen_of_row _ _ _ _ _ s9
  have q3 := s9.c3
  have E9 := setCell_eq_setRow Y g3 3 _ 26 (0, 0) (.slice none 0 0) s9
  have t0 : Bx (Y.setCell ⟨g3, 3, none⟩ (.slice none 0 0)) g3 O z R (.slice none 0 0) := by rw [E9]; exact setRow_heap _ _ _ _ _ _ s9
  have BY : Below V.heap.size V Y := B6.out.trans (b9.mono B6.out.size)
  have hV3 : V.heap.size ≤ g3 := by have := B6.out.size; omega
  have BZ : Below V.heap.size V (Y.setCell ⟨g3, 3, none⟩ (.slice none 0 0)) := BY.setCell hV3 _
  have hz0 : g3 < (Y.setCell ⟨g3, 3, none⟩ (.slice none 0 0)).heap.size := lt_of_heap t0
  have T0 := hid t0
  have BZ := hid BZ
  have HZ0 := hid hz0
  have HV3 := hid hV3
  clear b9 s9 hY hgY hg3 E9 BY hV3 B6 t0 hz0
  go_upto_region 11 with fail
  obtain ⟨hg1, hg2, hg3, hg4⟩ := HGl.out
  have hV3 := HV3.out
  have L0 : Lp w g g2 g3 H O z R (.slice a n c) (.slice (some ⟨H, 0, none⟩) n (n + 8)) S 0 (.slice none 0 0) (Y.setCell ⟨g3, 3, none⟩ (.slice none 0 0)) :=
    ⟨by have := B3.out.trans (BZ.out.mono B3.out.size); rw [HG.out] at this; exact this, HS1.out.below BZ.out, HS2.out.below BZ.out, T0.out, by rw [mix_zero]; exact HR.out.below BZ.out, .inl ⟨rfl, rfl, rfl⟩, fun k hk => by cases hk⟩
  have L0 := hid L0
  have HO := hid (show g < g2 ∧ g < H ∧ H < g2 ∧ g2 < g3 from ⟨hg1, hg2, hg3, by omega⟩)
  clear hg1 hg2 hg3 hg4 hV3 T0 BZ HZ0 HV3 HS1 HS2 HR B3 HGl CS f9 q3 p0 p1 p2 p3 p4 p5 p6 p7 HB HS0 HA HF
  generalize Y.setCell ⟨g3, 3, none⟩ (.slice none 0 0) = Z at *
  have HNw := hid h
  have HS := hid hS
  clear h hS
  obtain ⟨v0, hv0⟩ : ∃ v, (Value.slice none 0 0) = v := ⟨_, rfl⟩
  rw [hv0] at L0
  clear hv0
  go_wp2
  go_loopw [15] (fun i w' => ∃ (j : Nat) (v : Value), i = .int .i64 (j : Int) ∧ j ≤ n ∧ Hid (Lp w g g2 g3 H O z R (.slice a n c) (.slice (some ⟨H, 0, none⟩) n (n + 8)) S j v w')) (fun i _ => n - (intOf i).toNat)
  case atStart => exact ⟨0, _, rfl, by omega, L0⟩
  case round =>
    clear L0
    obtain ⟨j, v, rfl, hj, hL⟩ := hrel
    have p3 := hL.out.x0.c3
    by_cases hlt : j < n
    · have q0 : (j : Int) < (n : Int) := by omega
      have q1 : (j : Int) < (n : Int) + 8 := by omega
      have q2 : (0 : Int) ≤ (j : Int) := by omega
      have q4 : j < n + 8 := by omega
      obtain ⟨⟨X, D⟩, hq⟩ : ∃ q, S[j]? = some q := ⟨_, List.getElem?_eq_getElem (by rw [hn.out]; exact hlt)⟩
      have hD := (HS.out _ (List.mem_of_getElem? hq)).2
      obtain ⟨v', wb, hap, L1, x3b, rowb, x3a, rowa⟩ := hL.out.drew.step HO.out hq (by rw [hn.out]; exact hn2)
      obtain ⟨a', c', rfl, -, -⟩ := L1.own.shape
      have k1 := (hL.out.row.cell (mix_at hq (beh 8))).2
      have k0 : wr.frozen? ⟨H, j * 2 + 1, none⟩ = false := frozen_of_row _ _ _ _ _ hL.out.row
      have ks : ¬ 9223372036854775807 < D.size + 1 := by have : D.size ≤ 9223372036854775000 := hD; omega
      have L1 := hid L1
      clear hD
      go_upto_region 15 with fail
      obtain ⟨wa, hwa⟩ : ∃ wa, wr.setCell ⟨H, j * 2 + 1, none⟩ (.string (D ++ ⟨#[120]⟩)) = wa := ⟨_, rfl⟩
      have hsz : wr.heap.size = wa.heap.size := by rw [← hwa]; simp [World.setCell]
      rw [hwa]
      have hap : (Builtin.append_ #[24, 24] 24 #[v, .slice (some ⟨wr.heap.size, 0, none⟩) 1 1]).run Tryz.prog ((wr.setCell ⟨H, j * 2 + 1, none⟩ (.string (D ++ ⟨#[120]⟩))).alloc (.cells #[.string X, .string (D ++ ⟨#[120]⟩)] 32)).drew = .ok (.slice a' (j + 1) c') wb := hap
      have x3a : Bx (wr.setCell ⟨H, j * 2 + 1, none⟩ (.string (D ++ ⟨#[120]⟩))) g3 O z R v := x3a
      have rowa : RowG (wr.setCell ⟨H, j * 2 + 1, none⟩ (.string (D ++ ⟨#[120]⟩))) H (mix S (j + 1) ++ beh 8) := rowa
      rw [hwa] at x3a rowa hap
      rw [hsz] at hap
      obtain ⟨D', hD'⟩ : ∃ D', D ++ ⟨#[120]⟩ = D' := ⟨_, rfl⟩
      have hgA : (mix S (j + 1) ++ beh 8)[j]? = some (X, D ++ ⟨#[120]⟩) := by
        rw [← mix_step hq (beh 8), show (X, D ++ ⟨#[120]⟩) = addx (X, D) from rfl]
        exact List.getElem?_set_self (by rw [List.length_append, mix_len, hn.out]; omega)
      have da := rowa.cell hgA
      have db := rowb.cell hgA
      rw [hD'] at da db hap
      have bal : Below wa.heap.size wa (wa.alloc (.cells #[.string X, .string D'] 32)) := (Below.refl _ _).alloc (Nat.le_refl _) _
      have x3c := x3a.below bal
      have dc := (rowa.below bal).cell hgA
      rw [hD'] at dc
      have d0 : wa.cell? ⟨g3, 3, none⟩ = some v ∧ wa.cell? ⟨H, j * 2, none⟩ = some (.string X) ∧ wa.cell? ⟨H, j * 2 + 1, none⟩ = some (.string D') := ⟨x3a.c3, da⟩
      have d1 : (wa.alloc (.cells #[.string X, .string D'] 32)).cell? ⟨g3, 3, none⟩ = some v ∧ (wa.alloc (.cells #[.string X, .string D'] 32)).cell? ⟨H, j * 2, none⟩ = some (.string X) ∧ (wa.alloc (.cells #[.string X, .string D'] 32)).cell? ⟨H, j * 2 + 1, none⟩ = some (.string D') := ⟨x3c.c3, dc⟩
      have d2 : wb.cell? ⟨g3, 3, none⟩ = some v ∧ wb.cell? ⟨H, j * 2, none⟩ = some (.string X) ∧ wb.cell? ⟨H, j * 2 + 1, none⟩ = some (.string D') := ⟨x3b.c3, db⟩
      have fb : wb.frozen? ⟨g3, 3, none⟩ = false := frozen_of_row _ _ _ _ _ x3b
      have cb := d2.1
      clear hgA da db x3a x3b x3c rowa rowb bal dc hwa hsz hq k0 k1 ks hD' p3
      obtain ⟨d00, d01, d02⟩ := d0
      obtain ⟨d10, d11, d12⟩ := d1
      obtain ⟨d20, d21, d22⟩ := d2
      have d31 : (wb.setCell ⟨g3, 3, none⟩ (.slice a' (j + 1) c')).cell? ⟨H, j * 2, none⟩ = some (.string X) := (World.cell?_setCell_far wb ⟨g3, 3, none⟩ ⟨H, j * 2, none⟩ _ (fun e => by have := HO.out; have e : g3 = H := e; omega)).trans d21
      have d32 : (wb.setCell ⟨g3, 3, none⟩ (.slice a' (j + 1) c')).cell? ⟨H, j * 2 + 1, none⟩ = some (.string D') := (World.cell?_setCell_far wb ⟨g3, 3, none⟩ ⟨H, j * 2 + 1, none⟩ _ (fun e => by have := HO.out; have e : g3 = H := e; omega)).trans d22
      refine wp_region_noPanic ?_
      refine wp_region_held_drew (S := fun W => W.cell? ⟨H, j * 2, none⟩ = some (.string X) ∧ W.cell? ⟨H, j * 2 + 1, none⟩ = some (.string D')) (by kernel_rfl) ⟨d01, d02⟩ (fun hHeld => ?_)
      refine wpAnyH_take (i := 0) (oi := ⟨some 86, _, _, _, _, _⟩) (v := ?vA0) rfl (by kernel_rfl) (by kernel_rfl) (by kernel_rfl) (fun _ _ _ h => h) (Or.inl ⟨by rfl, ?hyA0⟩) (by assumption) ?restA0
      case hyA0 => (intro w hSw; (try dsimp only at hSw); go_simp <;> (try with_reducible rfl))
      try simp only [Act.put, List.setIfInBounds_toArray, List.set_cons_zero, List.set_cons_succ]
      refine wpAnyH_take (i := 2) (oi := ⟨some 88, _, _, _, _, _⟩) (v := ?vA2) rfl (by kernel_rfl) (by kernel_rfl) (by kernel_rfl) (fun _ _ _ h => h) (Or.inl ⟨by rfl, ?hyA2⟩) (by assumption) ?restA2
      case hyA2 => (intro w hSw; (try dsimp only at hSw); go_simp <;> (try with_reducible rfl))
      try simp only [Act.put, List.setIfInBounds_toArray, List.set_cons_zero, List.set_cons_succ]
      refine wpAnyH_take (i := 3) (oi := ⟨some 89, _, _, _, _, _⟩) (v := ?vA3) rfl (by kernel_rfl) (by kernel_rfl) (by kernel_rfl) (fun _ _ _ h => h) (Or.inl ⟨by rfl, ?hyA3⟩) (by assumption) ?restA3
      case hyA3 => (intro w hSw; (try dsimp only at hSw); go_simp <;> (try with_reducible rfl))
      try simp only [Act.put, List.setIfInBounds_toArray, List.set_cons_zero, List.set_cons_succ]
      refine wpAnyH_take (i := 4) (oi := ⟨some 90, _, _, _, _, _⟩) (v := ?vA4) rfl (by kernel_rfl) (by kernel_rfl) (by kernel_rfl) (fun _ _ _ h => h) (Or.inl ⟨by rfl, ?hyA4⟩) (by assumption) ?restA4
      case hyA4 => (intro w hSw; (try dsimp only at hSw); go_simp <;> (try with_reducible rfl))
      try simp only [Act.put, List.setIfInBounds_toArray, List.set_cons_zero, List.set_cons_succ]
      refine wpAnyH_take (i := 5) (oi := ⟨some 91, _, _, _, _, _⟩) (v := ?vA5) rfl (by kernel_rfl) (by kernel_rfl) (by kernel_rfl) (fun _ _ _ h => h) (Or.inl ⟨by rfl, ?hyA5⟩) (by assumption) ?restA5
      case hyA5 => (intro w hSw; (try dsimp only at hSw); go_simp <;> (try with_reducible rfl))
      try simp only [Act.put, List.setIfInBounds_toArray, List.set_cons_zero, List.set_cons_succ]
      refine wpAnyH_ready (rs := [1, 6]) (by kernel_rfl) (by simp) ?_
      refine AllReadyH.cons (o := ⟨some 87, _, _, _, _, _⟩) rfl (fun K hK => ?_) (AllReadyH.cons (o := ⟨some 92, _, _, _, _, _⟩) rfl (fun K hK => ?_) AllReadyH.nil)
      · go_simp
        clear hHeld
        refine hK.out _ _ ?hSB1 (fun hHeld => ?restB1)
        case hSB1 => exact ⟨d01, d02⟩
        clear hK K
        try simp only [Act.put, List.setIfInBounds_toArray, List.set_cons_zero, List.set_cons_succ]
        refine wpAnyH_ready (rs := [6]) (by kernel_rfl) (by simp) ?_
        refine AllReadyH.cons (o := ⟨some 92, _, _, _, _, _⟩) rfl (fun K hK => ?_) AllReadyH.nil
        go_simp
        clear hHeld
        refine hK.out _ _ ?hSB6 (fun hHeld => ?restB6)
        case hSB6 => exact ⟨d11, d12⟩
        clear hK K
        try simp only [Act.put, List.setIfInBounds_toArray, List.set_cons_zero, List.set_cons_succ]
        refine wpAnyH_ready (rs := [7]) (by kernel_rfl) (by simp) ?_
        refine AllReadyH.cons (o := ⟨some 93, _, _, _, _, _⟩) rfl (fun K hK => ?_) AllReadyH.nil
        refine step_app22 rfl _ _ 24 rfl v (.slice (some ⟨wa.heap.size, 0, none⟩) 1 1) _ wb ?hs ?hx hap ?_
        case hs => go_simp
        case hx => go_simp
        clear hHeld
        refine hK.out _ _ ?hSB7 (fun hHeld => ?restB7)
        case hSB7 => exact ⟨d21, d22⟩
        clear hK K
        try simp only [Act.put, List.setIfInBounds_toArray, List.set_cons_zero, List.set_cons_succ]
        refine wpAnyH_take (i := 8) (oi := ⟨some 94, _, _, _, _, _⟩) (v := ?vB8) rfl (by kernel_rfl) (by kernel_rfl) (by kernel_rfl) (fun _ _ _ h => h) (Or.inl ⟨by rfl, ?hyB8⟩) (by assumption) ?restB8
        case hyB8 => (intro w hSw; (try dsimp only at hSw); go_simp <;> (try with_reducible rfl))
        try simp only [Act.put, List.setIfInBounds_toArray, List.set_cons_zero, List.set_cons_succ]
        refine wpAnyH_ready (rs := [9]) (by kernel_rfl) (by simp) ?_
        refine AllReadyH.cons (o := ⟨none, _, _, _, _, _⟩) rfl (fun K hK => ?_) AllReadyH.nil
        go_simp
        clear hHeld
        refine hK.out _ _ ?hSB9 (fun hHeld => ?restB9)
        case hSB9 => exact ⟨d31, d32⟩
        clear hK K
        try simp only [Act.put, List.setIfInBounds_toArray, List.set_cons_zero, List.set_cons_succ]
        refine wpAnyH_done (by kernel_rfl) ?_ _
        refine NoPanic.normal ?_
        clear hHeld
        go_wp2
        exact ⟨⟨j + 1, _, by go_num, by omega, L1⟩, by simp [intOf]; omega⟩
      · go_simp
        clear hHeld
        refine hK.out _ _ ?hSC6 (fun hHeld => ?restC6)
        case hSC6 => exact ⟨d11, d12⟩
        clear hK K
        try simp only [Act.put, List.setIfInBounds_toArray, List.set_cons_zero, List.set_cons_succ]
        refine wpAnyH_ready (rs := [1]) (by kernel_rfl) (by simp) ?_
        refine AllReadyH.cons (o := ⟨some 87, _, _, _, _, _⟩) rfl (fun K hK => ?_) AllReadyH.nil
        go_simp
        clear hHeld
        refine hK.out _ _ ?hSC1 (fun hHeld => ?restC1)
        case hSC1 => exact ⟨d11, d12⟩
        clear hK K
        try simp only [Act.put, List.setIfInBounds_toArray, List.set_cons_zero, List.set_cons_succ]
        refine wpAnyH_ready (rs := [7]) (by kernel_rfl) (by simp) ?_
        refine AllReadyH.cons (o := ⟨some 93, _, _, _, _, _⟩) rfl (fun K hK => ?_) AllReadyH.nil
        refine step_app22 rfl _ _ 24 rfl v (.slice (some ⟨wa.heap.size, 0, none⟩) 1 1) _ wb ?hs ?hx hap ?_
        case hs => go_simp
        case hx => go_simp
        clear hHeld
        refine hK.out _ _ ?hSC7 (fun hHeld => ?restC7)
        case hSC7 => exact ⟨d21, d22⟩
        clear hK K
        try simp only [Act.put, List.setIfInBounds_toArray, List.set_cons_zero, List.set_cons_succ]
        refine wpAnyH_take (i := 8) (oi := ⟨some 94, _, _, _, _, _⟩) (v := ?vC8) rfl (by kernel_rfl) (by kernel_rfl) (by kernel_rfl) (fun _ _ _ h => h) (Or.inl ⟨by rfl, ?hyC8⟩) (by assumption) ?restC8
        case hyC8 => (intro w hSw; (try dsimp only at hSw); go_simp <;> (try with_reducible rfl))
        try simp only [Act.put, List.setIfInBounds_toArray, List.set_cons_zero, List.set_cons_succ]
        refine wpAnyH_ready (rs := [9]) (by kernel_rfl) (by simp) ?_
        refine AllReadyH.cons (o := ⟨none, _, _, _, _, _⟩) rfl (fun K hK => ?_) AllReadyH.nil
        go_simp
        clear hHeld
        refine hK.out _ _ ?hSC9 (fun hHeld => ?restC9)
        case hSC9 => exact ⟨d31, d32⟩
        clear hK K
        try simp only [Act.put, List.setIfInBounds_toArray, List.set_cons_zero, List.set_cons_succ]
        refine wpAnyH_done (by kernel_rfl) ?_ _
        refine NoPanic.normal ?_
        clear hHeld
        go_wp2
        exact ⟨⟨j + 1, _, by go_num, by omega, L1⟩, by simp [intOf]; omega⟩
    · obtain rfl : n = j := by omega
      have q0 : ¬ (n : Int) < (n : Int) := by omega
      have hL' := hL.out
      have em : mix S n = S.map addx := by rw [← hn.out]; exact mix_all S
      have et : S.take n = S := List.take_of_length_le (by rw [hn.out]; exact Nat.le_refl _)
      have hown := hL'.own
      rw [et] at hown
      obtain ⟨a', c', rfl, hA', _⟩ := ownM_atS hown
      have hn' : Hid ((S.map addx).length = n) := hid (by rw [List.length_map]; exact hn.out)
      have e8 : (mix S n ++ beh 8).take n = S.map addx := by rw [em, ← hn'.out, List.take_left]
      have hAH : AtS wr (some ⟨H, 0, none⟩) (S.map addx) := by have := hL'.row.at.take n; rw [e8] at this; exact this
      have hB := hL'.b
      have hN1 : Nw wr E := HNw.out.below (by rw [HG.out]; exact hB)
      obtain ⟨T3, c3, hT3⟩ : ∃ T c, prtA O z R (S.map addx) = (T, c) := ⟨_, _, rfl⟩
      have hgl : g < wr.heap.size := lt_of_heap hL'.x0
      have i7 := print_any hN1 O R z (S.map addx) n hn' (by omega) (some ⟨H, 0, none⟩) (n + 8) hAH T3 c3 hT3
      have i8 := fun (w' : World) (b : Below wr.heap.size wr w') => rPrint22_any O R z hO (S.map addx) n hn' (by omega) (fun x hx => by
        obtain ⟨y, hy, rfl⟩ := List.mem_map.1 hx
        exact (HS.out y hy).1) a' c' w' (hA'.below b) T3 c3 hT3
      have u0 := hL'.x2.c0
      have u1 := hL'.x2.c1
      have u2 := hL'.x2.c2
      have u3 := hL'.x2.c3
      have X3 := hid hL'.x3
      have HB := hid hB
      have HGg := hid hgl
      clear hL hL' em et hown e8 hAH hB hN1 hT3 hA' hgl
      unfold nv at *
      go_upto_region 17 with (go_at_call 15; (refine i7.mono ?_); rintro q w7 ⟨rfl, b7⟩)
      have y3 := X3.out.below b7
      have y0 := y3.c0
      have y1 := y3.c1
      have y2 := y3.c2
      have y4 := y3.c3
      have B7 := hid b7
      clear b7 y3 i7
      go_wp2_with (go_at_call 11; (refine (i8 w7 B7.out).mono ?_); rintro q w8 ⟨rfl, b8⟩)
      go_ret
      refine ⟨rfl, ?_⟩
      rw [HG.out]
      exact (HB.out.trans (B7.out.mono (Nat.le_of_lt HGg.out))).trans (b8.mono (Nat.le_trans (Nat.le_of_lt HGg.out) B7.out.size))
end Nt
end Go.Proofs.YtdbbemcddhgbcaaGreatDoor
