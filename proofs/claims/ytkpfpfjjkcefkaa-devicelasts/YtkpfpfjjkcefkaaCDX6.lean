import Derived.Test.YtkpfpfjjkcefkaaCDX5
import Derived.Test.YtkpfpfjjkcefkaaCDC0
import Derived.Test.YtkpfpfjjkcefkaaCDW5
import Derived.Deep.CutBlock
namespace Go.Proofs.Ytkpfpfjjkcefkaa
open Go.RowKit Go.Maps

theorem zero6 (w : World) : (zeroValue 44).run Try.prog w = .ok (.agg (svs (List.replicate 6 [])).toArray) w := by kernel_rfl
set_option maxRecDepth 100000 in
set_option maxHeartbeats 4000000 in
theorem lasts_z (z : List UInt8) (hz : zp = z) (n : Nat) (vp : Value) (dies : Int) (hd1 : -9223372036854775808 ≤ dies) (hd2 : dies ≤ 9223372036854775807) (vb : Value) (bs : List Int) (w : World) (hP : SlcPt w vp n) (_hn : n ≤ 9223372036854775807)
    (hBs : SlcI w vb bs) (hbl : bs.length ≤ 9223372036854775807) (hbr : ∀ c ∈ bs, -9223372036854775808 ≤ c ∧ c ≤ 9223372036854775807) :
    Calls Try.prog 4 #[vp, .int .i64 dies, vb] w fun r w' => r = .returned (.bool true) ∧ Below w.heap.size w w' := by
  have i1 := fun w => new_ok 6 w (by omega) (by omega)
  rw [hz] at i1
  have k0 := pk_nonneg dies 70 (by omega)
  have k1 := pk_lt dies 70 (by omega)
  obtain ⟨A, hA⟩ : ∃ A : Nat, pk dies 70 = (A : Int) := ⟨(pk dies 70).toNat, by omega⟩
  have i2 : ∀ w, Calls Try.prog 9 #[.int .i64 dies, .int .i64 70] w fun e w' => e = .returned (.int .i64 (A : Int)) ∧ w' = w := fun w => by rw [← hA]; exact pick_any dies 70 hd1 hd2 (by omega) (by omega) w
  have hA70 : A ≤ 9223372036854775807 := by omega
  have hmk : ∀ w, (Instr.makeSlice 45 (.int .i64 256) (.int .i64 256)).run Try.prog w = .ok (.slice (some ⟨w.heap.size, 0, none⟩) 256 256) (w.alloc (.cells (bv z).toArray 5)) := fun w => by rw [← hz]; exact make_page w
  have hzl : z.length = 256 := by rw [← hz, zp, List.length_replicate]
  have HZL := hid hzl
  obtain ⟨av, cv, rfl, hpt⟩ := hP
  have HPT := hid hpt
  obtain ⟨ab, cb, rfl, hbt⟩ := hBs
  have HBT := hid hbt
  have HBR := hid hbr
  have HBL := hid hbl
  clear hz hzl k0 k1 hA hpt hbt hbr hbl
  go_enter Try.func4, Try.ntmps4
  go_wp2_with (first
    | (go_at_call 6; refine (known_any _).mono ?_; rintro r w1 ⟨rfl, b1⟩; have B1 := hid b1; clear b1)
    | (go_at_call 7; refine (i1 _).mono ?_; rintro r w2 ⟨a, g, b, rfl, hD, ha, hg, hb, b2⟩; have HD2 := hid hD; have B2 := hid (B1.out.trans (b2.mono B1.out.size)); have HA := hid (Nat.le_trans B1.out.size ha); have HG := hid (Nat.le_trans B1.out.size hg); have HB := hid (Nat.le_trans B1.out.size hb); clear hD b2 ha hg hb B1)
    | (go_at_call 9; refine (i2 _).mono ?_; rintro r w9 ⟨rfl, hw9⟩; replace hw9 := hw9.symm; subst hw9)
    | (go_at_call 18; refine (dArm_ok HD2.out A hA70).mono ?_; rintro r w3 ⟨rfl, hD3, hK3⟩; have HD3 := hid hD3; have B3 := hid (B2.out.trans (hK3.below HA.out HG.out HB.out B2.out.size)); clear hD3 hK3 HD2 B2))
  have H0 := hid (Ls.start HD3.out HA.out HG.out HB.out B3.out)
  clear HD3 B3 i1 i2
  obtain ⟨hl, hhl⟩ : ∃ hl, w3.heap.size = hl := ⟨_, rfl⟩
  obtain ⟨hn', hhn⟩ : ∃ hn', hl + 1 = hn' := ⟨_, rfl⟩
  obtain ⟨w4, hw4⟩ : ∃ w4, ((w3.alloc (.cells #[.string ⟨#[]⟩, .string ⟨#[]⟩, .string ⟨#[]⟩, .string ⟨#[]⟩, .string ⟨#[]⟩, .string ⟨#[]⟩] 44)).alloc (.cells #[.string ⟨#[]⟩, .string ⟨#[]⟩, .string ⟨#[]⟩, .string ⟨#[]⟩, .string ⟨#[]⟩, .string ⟨#[]⟩] 44)) = w4 := ⟨_, rfl⟩
  replace H0 : Hid (Ls w w4 a g b hl hn' (List.replicate 6 z) (fun _ => none) (zrK z 0) (List.replicate 6 []) A false) := by rw [← hhn, ← hw4, ← hhl]; exact H0
  rw [hw4, hhl, hhn]
  clear hw4 hhl hhn w3
  go_loopw [12] (fun i w' => ∃ k : Nat, k ≤ 6 ∧ i = .int .i64 (k : Int) ∧ Hid (Ls w w' a g b hl hn' (List.replicate 6 z) (fun _ => none) (zrK z k) (List.replicate 6 []) A false)) (fun i _ => 6 - (RowKit.intOf i).toNat)
  case atStart => exact ⟨0, by omega, rfl, H0⟩
  case round =>
    clear H0
    obtain ⟨k, hk, rfl, hS⟩ := hrel
    by_cases hk6 : k < 6
    · have b0 : (k : Int) < 6 := by omega
      have k0 : (0 : Int) ≤ (k : Int) := by omega
      have mk := hmk wr
      have R1 : RowB (wr.alloc (.cells (bv z).toArray 5)) wr.heap.size z := heap_alloc_new wr _
      have S1 := hS.out.below ((Below.refl wr.heap.size wr).alloc (Nat.le_refl _) (.cells (bv z).toArray 5))
      generalize wr.alloc (.cells (bv z).toArray 5) = wa at *
      have hcv := run_conv_bytes (P := Try.prog) wa 45 9 5 wr.heap.size 0 256 256 z HZL.out Try.underlying45 Try.underlying5 Try.underlying9 (fun j v hv => by
        rw [cell_of_row _ _ _ _ _ _ R1, Nat.zero_add]; simpa using hv)
      rw [svS] at hcv
      have c1 := S1.rl.at6 (j := k) (by rw [zrK_len z hk]; exact hk6)
      have f1 := S1.rl.free k
      have S2 := S1.setL k z
      rw [zrK_set z hk6] at S2
      have S2 := hid S2
      clear R1 S1 hS hmk
      go_wp2
      exact ⟨⟨k + 1, by omega, by go_num, S2⟩, by simp [RowKit.intOf]; omega⟩
    · obtain rfl : k = 6 := by omega
      rw [show ((6 : Nat) : Int) = 6 from rfl]
      have hS := hS.out
      rw [zrK_six, ← pnl_nil 6] at hS
      have HS := hid hS
      clear hS hmk
      go_upto_block 2 with fail
      go_cut [] from 13 to 132 (fun w' => Hid (Lq w w' a g b hl hn'))
      case first =>
        go_wp2_with fail
        go_loopw [13, 14, 15, 16, 17] (fun i _ _ _ _ w' => ∃ (k : Nat) (L N : List (List UInt8)) (left : Nat), k ≤ 60 ∧ i = .int .i64 (k : Int) ∧ Hid (Ls w w' a g b hl hn' L (pnl N) L N left false)) (fun i _ _ _ _ _ => 60 - (RowKit.intOf i).toNat)
        case atStart => exact ⟨0, _, _, _, by omega, rfl, HS⟩
        case round =>
          clear HS
          obtain ⟨k, L, N, left, hk, rfl, hS⟩ := hrel
          by_cases hkn : k < n
          · have b0 : (k : Int) < (n : Int) := by omega
            by_cases hk60 : k < 60
            · have b1 : (k : Int) < 60 := by omega
              have k0 : (0 : Int) ≤ (k : Int) := by omega
              obtain ⟨x, fl, pg_, cc, rfl, xb, hc0, hc1, hc2, ⟨hp1, hp2⟩, hq1, hq2⟩ := HPT.out k hkn
              rw [← hS.out.bel.cell (p := x.add (k * 3)) (by rw [addr_block]; exact xb)] at hc0
              clear HPT HBT HBR HBL HZL
              cases fl with
              | true =>
                clear hc1 hc2 hp1 hp2 hq1 hq2 xb
                by_cases h1 : left = 1
                · subst h1
                  have i3 := dFlush_dies hS.out.dv
                  go_wp2_with (first
                    | (go_at_call 19; refine i3.mono ?_; rintro r wf ⟨rfl, hD, hK⟩; have S1 := hid (hS.out.kp hD hS.out.d6 hK); clear hD hK)
                    | (go_at_call 14; refine (dDead S1.out.dv).mono ?_; rintro r w9 ⟨rfl, hw9⟩; replace hw9 := hw9.symm; subst hw9))
                  go_meet
                  exact hid ⟨L, N, 0, true, S1.out⟩
                · have i3 := dFlush_ok hS.out.dv h1
                  rw [flush_l hS.out.dv hS.out.l6] at i3
                  have HL6 := hid hS.out.l6
                  have HN6 := hid hS.out.n6
                  go_wp2_with (go_at_call 19; refine i3.mono ?_; rintro r wf ⟨rfl, hD, hK⟩; have S1 := hid (hS.out.kp hD (flL_len L N) hK); clear hD hK)
                  clear hS i3
                  go_loopw [15] (fun j w' => ∃ m : Nat, m ≤ 6 ∧ j = .int .i64 (m : Int) ∧ Hid (Ls w w' a g b hl hn' (flL L N) (fun _ => none) (flK L N m) (noK N m) (left - 1) false)) (fun j _ => 6 - (RowKit.intOf j).toNat)
                  case atStart => exact ⟨0, by omega, rfl, by rw [flK_zero, noK_zero]; exact S1⟩
                  case round =>
                    clear S1
                    obtain ⟨m, hm, rfl, hS2⟩ := hrel
                    by_cases hm6 : m < 6
                    · have b2 : (m : Int) < 6 := by omega
                      have m0 : (0 : Int) ≤ (m : Int) := by omega
                      have c1 := hS2.out.rn.cell (j := m) (by rw [noK_len HN6.out hm]; exact hm6)
                      rw [noK_at HN6.out hm6] at c1
                      have f1 := hS2.out.rn.free m
                      by_cases hN : N[m]! = []
                      · rw [hN] at c1
                        have S3 := hS2.out.setN m []
                        rw [noK_set HN6.out hm6, flK_same HL6.out hm6 hN] at S3
                        have S3 := hid S3
                        clear hS2
                        go_wp2
                        exact ⟨⟨m + 1, by omega, by go_num, S3⟩, by simp [RowKit.intOf]; omega⟩
                      · have c2 := hS2.out.rl.cell (j := m) (by rw [flK_len N HL6.out hm]; exact hm6)
                        have f2 := hS2.out.rl.free m
                        have S2 := hS2.out.setL m N[m]!
                        rw [flK_set HL6.out hm6 hN] at S2
                        have c3 := S2.rn.cell (j := m) (by rw [noK_len HN6.out hm]; exact hm6)
                        have f3 := S2.rn.free m
                        have S3 := S2.setN m []
                        rw [noK_set HN6.out hm6] at S3
                        have S3 := hid S3
                        clear hS2 S2
                        generalize N[m]! = nm at *
                        have y1 : nm.isEmpty = false := by cases nm with | nil => exact absurd rfl hN | cons _ _ => rfl
                        go_wp2
                        exact ⟨⟨m + 1, by omega, by go_num, S3⟩, by simp [RowKit.intOf]; omega⟩
                    · obtain rfl : m = 6 := by omega
                      have hS3 := hS2.out
                      rw [flK_six N HL6.out, noK_six HN6.out, ← pnl_nil 6] at hS3
                      have HS3 := hid hS3
                      clear hS3 hS2
                      go_wp2
                      exact ⟨⟨k + 1, _, _, _, by omega, by go_num, HS3⟩, by simp [RowKit.intOf]; omega⟩
              | false =>
                have k1 := pk_nonneg pg_ 6 (by omega)
                have k2 := pk_lt pg_ 6 (by omega)
                obtain ⟨M, hM⟩ : ∃ M : Nat, pk pg_ 6 = (M : Int) := ⟨(pk pg_ 6).toNat, by omega⟩
                have i4 : ∀ w, Calls Try.prog 9 #[.int .i64 pg_, .int .i64 6] w fun e w' => e = .returned (.int .i64 (M : Int)) ∧ w' = w := fun w => by rw [← hM]; exact pick_any pg_ 6 hp1 hp2 (by omega) (by omega) w
                have hM6 : M < 6 := by omega
                have b2 : (M : Int) < 6 := by omega
                have m0 : (0 : Int) ≤ (M : Int) := by omega
                have i5 := page_any cc
                obtain ⟨P, hP⟩ : ∃ P, pg cc = P := ⟨_, rfl⟩
                rw [hP] at i5
                have hPl : P.length = 256 := by rw [← hP]; exact pg_len cc
                have hPn : P ≠ [] := by rintro rfl; simp at hPl
                have HPL := hid hPl
                have HPN := hid hPn
                have HC1 : ∀ w', Below w.heap.size w w' → w'.cell? ⟨(x.add (k * 3)).block, (x.add (k * 3)).off + 1, none⟩ = some (.int .i64 pg_) := fun w' h => by
                  show w'.cell? ((x.add (k * 3)).add 1) = _
                  rw [Go.Deep.add_add]; exact (h.cell (p := x.add (k * 3 + 1)) (by rw [addr_block]; exact xb)).trans hc1
                have HC2 : ∀ w', Below w.heap.size w w' → w'.cell? ⟨(x.add (k * 3)).block, (x.add (k * 3)).off + 2, none⟩ = some (.int .i64 cc) := fun w' h => by
                  show w'.cell? ((x.add (k * 3)).add 2) = _
                  rw [Go.Deep.add_add]; exact (h.cell (p := x.add (k * 3 + 2)) (by rw [addr_block]; exact xb)).trans hc2
                have q1 := HC1 _ hS.out.bel
                have q2 := HC2 _ hS.out.bel
                have HC2 := hid HC2
                clear hP hPl hPn hM k1 k2 hq1 hq2 hp1 hp2 xb hc1 hc2 HC1
                by_cases h1 : left = 1
                · subst h1
                  go_wp2_with (first
                    | (go_at_call 9; refine (i4 _).mono ?_; rintro r w9 ⟨rfl, hw9⟩; replace hw9 := hw9.symm; subst hw9)
                    | (go_at_call 10; refine (i5 _).mono ?_; rintro r wp ⟨rfl, bp⟩; have S0 := hid (hS.out.below bp); clear bp)
                    | (go_at_call 20; refine (dWrite_dies S0.out.dv M P (by rw [S0.out.d6]; exact hM6) HPL.out).mono ?_; rintro r wf ⟨rfl, hD, hK⟩; have S1 := hid (S0.out.kp hD S0.out.d6 hK); clear hD hK)
                    | (go_at_call 14; refine (dDead S1.out.dv).mono ?_; rintro r w9 ⟨rfl, hw9⟩; replace hw9 := hw9.symm; subst hw9))
                  go_meet
                  exact hid ⟨L, N, 0, true, S1.out⟩
                · go_wp2_with (first
                    | (go_at_call 9; refine (i4 _).mono ?_; rintro r w9 ⟨rfl, hw9⟩; replace hw9 := hw9.symm; subst hw9)
                    | (go_at_call 10; refine (i5 _).mono ?_; rintro r wp ⟨rfl, bp⟩; first | (have S2 := S1.out.below bp; have c4 := S2.rn.at6 (j := M) (by rw [S2.n6]; exact hM6); have f4 := S2.rn.free M; have S3 := S2.setN M P; rw [← pnl_set (by rw [S2.n6]; exact hM6) HPN.out] at S3; have S3 := hid S3; clear S2 bp) | (have S0 := hid (hS.out.below bp); clear bp))
                    | (go_at_call 20; refine (dWrite_ok S0.out.dv h1 M P (by rw [S0.out.d6]; exact hM6) HPL.out).mono ?_; rintro r wf ⟨rfl, hD, hK⟩; have S1 := hid (S0.out.kp hD S0.out.d6 hK); have hc5 := HC2.out _ S1.out.bel; clear hD hK))
                  exact ⟨⟨k + 1, _, _, _, by omega, by go_num, S3⟩, by simp [RowKit.intOf]; omega⟩
            · have b1 : ¬ (k : Int) < 60 := by omega
              go_wp2
              go_meet
              exact hid ⟨L, N, left, false, hS.out⟩
          · have b0 : ¬ (k : Int) < (n : Int) := by omega
            go_wp2
            go_meet
            exact hid ⟨L, N, left, false, hS.out⟩
      case rest =>
        obtain ⟨L, N, left, dead, hS⟩ := hcut.out
        have HL6 := hid hS.l6
        have HN6 := hid hS.n6
        have HSc := hid hS
        have i7 := dPending hS.dv
        rw [hS.l6] at i7
        clear HS hS
        obtain ⟨l0, l1, l2, l3, l4, l5, rfl⟩ : ∃ l0 l1 l2 l3 l4 l5, L = [l0, l1, l2, l3, l4, l5] := by
          match L, HL6.out with
          | [l0, l1, l2, l3, l4, l5], _ => exact ⟨l0, l1, l2, l3, l4, l5, rfl⟩
        have ql : ∀ w', Row6 w' hl [l0, l1, l2, l3, l4, l5] → w'.cell? ⟨hl, 0, none⟩ = some (.string ⟨l0.toArray⟩) ∧ w'.cell? ⟨hl, 1, none⟩ = some (.string ⟨l1.toArray⟩) ∧ w'.cell? ⟨hl, 2, none⟩ = some (.string ⟨l2.toArray⟩) ∧ w'.cell? ⟨hl, 3, none⟩ = some (.string ⟨l3.toArray⟩) ∧ w'.cell? ⟨hl, 4, none⟩ = some (.string ⟨l4.toArray⟩) ∧ w'.cell? ⟨hl, 5, none⟩ = some (.string ⟨l5.toArray⟩) := fun w' h => ⟨h.cell (j := 0) (by simp), h.cell (j := 1) (by simp), h.cell (j := 2) (by simp), h.cell (j := 3) (by simp), h.cell (j := 4) (by simp), h.cell (j := 5) (by simp)⟩
        go_wp2_with (go_at_call 17; refine i7.mono ?_; rintro r w5 ⟨vl, rfl, O5, hnw, b5⟩; have S5 := hid (HSc.out.below b5); have HO5 := hid O5; obtain ⟨p0, p1, p2, p3, p4, p5⟩ := ql _ S5.out.rl; clear O5 hnw b5)
        clear p0 p1 p2 p3 p4 p5 ql HSc i7
        have R6 : Row6 (w5.alloc (.cells #[.string ⟨l0.toArray⟩, .string ⟨l1.toArray⟩, .string ⟨l2.toArray⟩, .string ⟨l3.toArray⟩, .string ⟨l4.toArray⟩, .string ⟨l5.toArray⟩] 44)) w5.heap.size [l0, l1, l2, l3, l4, l5] := heap_alloc_new w5 _
        have b6 := (Below.refl w5.heap.size w5).alloc (Nat.le_refl _) (.cells #[.string ⟨l0.toArray⟩, .string ⟨l1.toArray⟩, .string ⟨l2.toArray⟩, .string ⟨l3.toArray⟩, .string ⟨l4.toArray⟩, .string ⟨l5.toArray⟩] 44)
        have S6 := S5.out.below b6
        have hH := S5.out.rn.lt
        obtain ⟨al, cl, rfl, hcl, AW⟩ := HO5.out.atW
        have AW := AW.kp (.ofBelow (a := w5.heap.size) (g := w5.heap.size) (b := w5.heap.size) b6) (Nat.le_refl _) (Nat.le_refl _)
        rw [rk_six]
        generalize w5.alloc (.cells #[.string ⟨l0.toArray⟩, .string ⟨l1.toArray⟩, .string ⟨l2.toArray⟩, .string ⟨l3.toArray⟩, .string ⟨l4.toArray⟩, .string ⟨l5.toArray⟩] 44) = wS at *
        generalize w5.heap.size = H at *
        have hHS := R6.lt
        obtain ⟨L, hL⟩ : ∃ L, [l0, l1, l2, l3, l4, l5] = L := ⟨_, rfl⟩
        rw [hL] at R6 S6 HL6
        have HR6 := hid R6
        have HS6 := hid S6
        have HAW := hid AW
        have hcl' : cl ≤ 9223372036854775807 := by simp only [maxLen] at hcl; omega
        clear hL S5 HO5 R6 S6 AW b6 hcl
        go_loopw [19, 20, 22, 23] (fun at_ vk i _ w' => ∃ q : Nat, q ≤ 6 ∧ i = .int .i64 (q : Int) ∧ at_ = .int .i64 (rk N q : Int) ∧ Hid (L4 wS w' H L N bs q q vk)) (fun _ _ i _ _ => 6 - (RowKit.intOf i).toNat)
        case atStart => exact ⟨0, by omega, rfl, by rw [rk_zero]; rfl, hid (L4.start HR6.out)⟩
        case round =>
          obtain ⟨q, hq, rfl, rfl, hS4⟩ := hrel
          by_cases hq6 : q < 6
          · have b0 : (q : Int) < 6 := by omega
            have q0 : (0 : Int) ≤ (q : Int) := by omega
            have Sq := HS6.out.off hS4.out.kp hH
            have c1 := Sq.rn.at6 (j := q) (by rw [Sq.n6]; exact hq6)
            have f1 := Sq.rn.free q
            by_cases hN : N[q]! = []
            · rw [hN] at c1
              have X : L4 wS wr H L N bs (q + 1) (q + 1) u20 := ⟨hS4.out.kp, by rw [← wnK_same HL6.out hq6 (Or.inl hN)]; exact hS4.out.row, by rw [kpK_none hN]; exact hS4.out.own, hS4.out.new⟩
              have X := hid X
              have e := rk_none hN
              clear Sq hS4 HPT HBT HBR HR6 HS6 HAW
              go_wp2
              exact ⟨⟨q + 1, by omega, by go_num, by rw [e], X⟩, by simp [RowKit.intOf]; omega⟩
            · have hr := rk_lt hq6 hN
              have h66 := rk_le N 6
              have e := rk_some hN
              have hpl := pls_rk hq6 hN
              obtain ⟨hplt, hple⟩ := List.getElem?_eq_some_iff.1 hpl
              obtain ⟨gw, ow, rfl, _, c2, c3⟩ := (HAW.out.kp hS4.out.kp (Nat.le_refl _) (Nat.le_of_lt hHS)) (rk N q) hplt
              rw [hple] at c2 c3
              have hNl : (N[q]!).length = 256 := by
                obtain ⟨D, _, hP⟩ := Sq.dv.mp
                exact (hP.dom q _ (pnl_some hN)).2
              have hLl : (L[q]!).length = 256 := Sq.dv.pg _ (by rw [at_get (by rw [Sq.l6]; exact hq6)]; exact List.getElem_mem _)
              have eqw := eq_w
              have b3 : ¬ ((rk N 6 : Nat) : Int) ≤ ((rk N q : Nat) : Int) := by omega
              have b4 : ((rk N q : Nat) : Int) < ((rk N 6 : Nat) : Int) := by omega
              have b5 : (0 : Int) ≤ ((rk N q : Nat) : Int) := by omega
              have X0 := hid (fun dn => hS4.out.drew dn)
              have wset := hid (fun hb => wnK_set (bs := bs) HL6.out hq6 hN hb)
              have wsame := hid (fun hb => wnK_same (L := L) (N := N) (bs := bs) HL6.out hq6 (Or.inr hb))
              have kmore := hid (fun hb => kpK_more (bs := bs) hN hb)
              have kpast := hid (fun hb => kpK_past (bs := bs) hN hb)
              have hkl := kpK_len N bs q
              have yP : ((ByteArray.mk (N[q]!).toArray).toList == (ByteArray.mk (N[q]!).toArray).toList) = true := by simp
              have yq : ((q : Int) == (q : Int)) = true := by simp
              clear hpl hple Sq hS4 HR6 HPT HAW hplt
              generalize hx : N[q]! = x at *
              generalize hR : rk N q = R at *
              have y1 : x.isEmpty = false := by cases x with | nil => exact absurd rfl hN | cons _ _ => rfl
              go_upto_region 40 with fail
              go_cut [159] from 136 to 189 (fun v w' => v = .bool false ∧ ∃ dn, w' = wr.drewN dn)
              case first =>
                generalize (ByteArray.mk x.toArray) = XB at *
                go_quiet (fail)
                go_wp2_with fail
                go_meet
                exact ⟨rfl, _, rfl⟩
              case rest =>
                obtain ⟨rfl, dn, hwc⟩ := hcut
                have X1 := X0.out dn
                rw [← hwc] at X1
                have S1 := HS6.out.off X1.kp hH
                clear hwc X0 c1 c2 c3 eqw
                by_cases hb : R < bs.length
                · have b6 : (R : Int) < (bs.length : Int) := by omega
                  obtain ⟨xb, rfl, xbl, cb_⟩ := HBT.out R bs[R]! (by rw [getElem!_pos bs R hb]; exact List.getElem?_eq_getElem hb)
                  have c4 := (S1.bel.cell (p := xb.add R) (by rw [addr_block]; exact xbl)).trans cb_
                  have hrg := HBR.out bs[R]! (by rw [getElem!_pos bs R hb]; exact List.getElem_mem hb)
                  have i8 : ∀ w, Calls Try.prog 9 #[.int .i64 bs[R]!, .int .i64 257] w fun e w' => e = .returned (.int .i64 (bfn bs R : Int)) ∧ w' = w := fun w => by rw [← bfn_pk]; exact pick_any bs[R]! 257 hrg.1 hrg.2 (by omega) (by omega) w
                  generalize bs[R]! = cR at *
                  obtain ⟨vk', w7, hap, O7, G7⟩ := append_k wc u20 (kpK N bs q) (R : Int) (bfn bs R : Int) X1.own (by omega)
                  rw [← kmore.out hb] at O7
                  have X7 := X1.grow hHS G7 O7
                  have S7 := HS6.out.off X7.kp hH
                  have d1 := S7.rn.at6 (j := q) (by rw [S7.n6]; exact hq6)
                  rw [hx] at d1
                  have g1 := S7.rn.free q
                  have d2 := S7.rl.at6 (j := q) (by rw [S7.l6]; exact hq6)
                  have g2 := S7.rl.free q
                  have d3 := X7.row.at6 (j := q) (by rw [wnK_len N bs HL6.out hq]; exact hq6)
                  have g3 := X7.row.free q
                  have X8 := hid ((X7.drew 1).set hHS (wset.out hb))
                  have hB := bfn_le bs R
                  have t1 := cut_to x (bfn bs R) (by omega)
                  have t2 := cut_from L[q]! (bfn bs R) (by omega)
                  have t3 : (ByteArray.mk (x.take (bfn bs R)).toArray) ++ (ByteArray.mk ((L[q]!).drop (bfn bs R)).toArray) = ⟨(torn x L[q]! (bfn bs R)).toArray⟩ := by rw [ByteArray.mk_append_mk, torn]
                  have t4 : ¬ 9223372036854775807 < (x.take (bfn bs R)).length + ((L[q]!).drop (bfn bs R)).length := by rw [List.length_take, List.length_drop]; omega
                  clear S7 X7 X1 S1 O7 G7 wset wsame kmore kpast hrg cb_ xbl HBT HBR HS6 hNl hLl
                  generalize torn x L[q]! (bfn bs R) = T at *
                  generalize (L[q]!).drop (bfn bs R) = Z2 at *
                  generalize x.take (bfn bs R) = Z1 at *
                  generalize L[q]! = Z at *
                  generalize bfn bs R = B at *
                  go_wp2_with (first
                    | (go_at_call 9; refine (i8 _).mono ?_; rintro r w9 ⟨rfl, hw9⟩; replace hw9 := hw9.symm; subst hw9)
                    | (at_builtin; go_must (refine Lib.wpList_append_run _ rfl _ _ 50 50 rfl _ _ rfl rfl _ _ hap ?_)))
                  go_region
                  go_wp2
                  exact ⟨⟨q + 1, by omega, by go_num, by rw [e]; go_num, X8⟩, by simp [RowKit.intOf]; omega⟩
                · have b6 : ¬ (R : Int) < (bs.length : Int) := by omega
                  have X : L4 wS wc H L N bs (q + 1) (q + 1) u20 := ⟨X1.kp, by rw [← wsame.out hb]; exact X1.row, by rw [kpast.out hb]; exact X1.own, X1.new⟩
                  have X := hid X
                  clear X1 S1 wset wsame kmore kpast HBT HBR HS6
                  go_wp2
                  exact ⟨⟨q + 1, by omega, by go_num, by rw [e]; go_num, X⟩, by simp [RowKit.intOf]; omega⟩
          · obtain rfl : q = 6 := by omega
            rw [show ((6 : Nat) : Int) = 6 from rfl]
            have X := hS4.out
            have Sq := HS6.out.off X.kp hH
            have e6 := wnK_six N bs HL6.out
            have hrow := X.row
            rw [e6] at hrow
            obtain ⟨ak, ck, rfl, hAK⟩ := X.own.atK
            have hkb := kpK_six N bs
            have hcr := crash_l (N := N) bs HL6.out
            have hwl := wnL_len L N bs
            have hkl := kpK_len N bs 6
            have hpgs : pgs L = true := by rw [pgs, List.all_eq_true]; exact fun y hy => decide_eq_true (Sq.dv.pg y hy)
            have HX := hid (And.intro Sq (And.intro hrow hAK))
            have HPG := hid hpgs
            have HKB := hid hkb
            have HCR := hid hcr
            have HWL := hid hwl
            have hH2 := hH
            have hHr : H < wr.heap.size := hrow.lt
            clear X Sq hrow e6 hpgs hkb hcr hwl hS4 HR6 HAW HS6 hAK HBT HBR HPT
            generalize kpK N bs 6 = KL at *
            generalize hWN : wnL L N bs = WN at *
            generalize rk N 6 = R6 at *
            have ldL : ∀ (gp c : Nat) (w' : World), w'.rangeAt gp 0 (svs L) → Calls Try.prog 11 #[.slice (some ⟨gp, 0, none⟩) L.length c] w' fun r w'' => ∃ a g b, r = .returned (.tuple #[.pointer (some ⟨a, 0, none⟩), .int .i64 0]) ∧ Dv w'' a g b L (fun _ => none) 0 false ∧ w'.heap.size ≤ a ∧ w'.heap.size ≤ g ∧ w'.heap.size ≤ b ∧ Below w'.heap.size w' w'' := fun gp c w' hR =>
              (load_ok L gp c w' (by rw [HL6.out]; omega) (by rw [HL6.out]; omega) hR).mono (fun r w'' ⟨e1, e2⟩ => by
                rw [if_pos (by rw [HL6.out]; omega), if_pos HPG.out] at e2
                obtain ⟨a, g, b, e3, e4, e5, e6, e7⟩ := e2
                exact ⟨a, g, b, e3, e4, e5, e6, e7, e1⟩)
            have crL : ∀ {w' : World}, Dv w' a g b L (pnl N) left dead → AtK w' ak KL → Calls Try.prog 21 #[.pointer (some ⟨a, 0, none⟩), .slice ak KL.length ck] w' fun r w'' => r = .returned (.int .i64 0) ∧ Dv w'' a g b WN (fun _ => none) 0 false ∧ Kp a g b w' w'' := fun hD hA => by
              have h := dCrash_ok hD KL ak ck (by omega) hA (ns := nsC N bs) (by rw [HL6.out]; exact HKB.out)
              rw [HCR.out] at h
              exact h
            have jP : ∀ {w' : World}, Dv w' a g b WN (fun _ => none) 0 false → Calls Try.prog 17 #[.pointer (some ⟨a, 0, none⟩)] w' fun r w'' => (∃ a c, r = .returned (.slice a 0 c)) ∧ Below w'.heap.size w' w'' := fun hD => by
              refine (dPending hD).mono fun r w'' ⟨v, e1, e2, _, e4⟩ => ⟨?_, e4⟩
              obtain ⟨a, c, e5, _, _⟩ := e2.shape
              rw [show pls WN.length (fun _ => none) = [] by simp [pls, pks]] at e5
              exact ⟨a, c, by rw [e1, e5]; rfl⟩
            have pgL : ∀ {w' : World} {Ld p l d}, Dv w' a g b Ld p l d → Ld.length = 6 → Calls Try.prog 16 #[.pointer (some ⟨a, 0, none⟩)] w' fun r w'' => ∃ gp c, r = .returned (.slice (some ⟨gp, 0, none⟩) Ld.length c) ∧ w''.rangeAt gp 0 (svs Ld) ∧ Below w'.heap.size w' w'' := fun hD h6 => by
              refine (dPages hD).mono fun r w'' ⟨v, e1, e2, e3⟩ => ?_
              obtain ⟨a7, c7, rfl, _, hg7⟩ := e2.at
              obtain ⟨gp, rfl, hrp, _⟩ := hg7 (by rw [h6]; omega)
              exact ⟨gp, c7, e1, hrp, e3⟩
            go_wp2_with (first
              | (go_at_call 16; refine (pgL S10.out.dv HWL.out).mono ?_; rintro r w11 ⟨g11, c11, rfl, hrp, b11⟩; have S11 := hid (S10.out.below b11); have R11 := hid (R10.out.keep (b11.block _ R10.out.lt)); have C11 := hid (C10.out.below b11 (Nat.le_refl _)); have HRP2 := hid hrp; rw [HWL.out]; clear b11 hrp S10 R10 C10)
              | (go_at_call 16; refine (pgL HX.out.1.dv HL6.out).mono ?_; rintro r w7 ⟨gp, c7, rfl, hrp, b7⟩; have S7 := hid (HX.out.1.below b7); have R7 := hid (HX.out.2.1.keep (b7.block _ hHr)); have K7 := hid (HX.out.2.2.below b7); have HRP := hid hrp; clear b7 hrp HX hHr)
              | (go_at_call 11; refine (ldL _ _ _ HRP.out).mono ?_; rintro r w8 ⟨a2, g2, b2, rfl, hD8, ha2, hg2, hb2, b8⟩; have S8 := hid (S7.out.below b8); have R8 := hid (R7.out.keep (b8.block _ R7.out.lt)); have K8 := hid (K7.out.below b8); have C8 := hid hD8; have N8 := hid (And.intro (show a < a2 ∧ g < a2 ∧ b < a2 from ⟨Nat.lt_of_lt_of_le S7.out.dv.al ha2, Nat.lt_of_lt_of_le S7.out.dv.gl ha2, Nat.lt_of_lt_of_le S7.out.dv.bl ha2⟩) (And.intro (show a < g2 ∧ g < g2 ∧ b < g2 from ⟨Nat.lt_of_lt_of_le S7.out.dv.al hg2, Nat.lt_of_lt_of_le S7.out.dv.gl hg2, Nat.lt_of_lt_of_le S7.out.dv.bl hg2⟩) (show a < b2 ∧ g < b2 ∧ b < b2 from ⟨Nat.lt_of_lt_of_le S7.out.dv.al hb2, Nat.lt_of_lt_of_le S7.out.dv.gl hb2, Nat.lt_of_lt_of_le S7.out.dv.bl hb2⟩))); clear b8 hD8 ha2 hg2 hb2 S7 R7 K7 HRP)
              | (go_at_call 21; refine (crL S8.out.dv K8.out).mono ?_; rintro r w9 ⟨rfl, hD9, hK9⟩; have S9 := hid (S8.out.kp hD9 HWL.out hK9); have R9 := hid (R8.out.keep (hK9.block _ R8.out.lt (by have := S8.out.al; have := S8.out.ln; omega) (by have := S8.out.gl; have := S8.out.ln; omega) (by have := S8.out.bl; have := S8.out.ln; omega))); have C9 := hid (C8.out.kept hK9.size (hK9.block _ C8.out.al (by have := N8.out; omega) (by have := N8.out; omega) (by have := N8.out; omega)) (hK9.block _ C8.out.gl (by have := N8.out; omega) (by have := N8.out; omega) (by have := N8.out; omega)) (hK9.block _ C8.out.bl (by have := N8.out; omega) (by have := N8.out; omega) (by have := N8.out; omega))); clear hD9 hK9 S8 R8 K8 C8 N8)
              | (go_at_call 14; refine (dDead S9.out.dv).mono ?_; rintro r wd ⟨rfl, hwd⟩; replace hwd := hwd.symm; subst hwd)
              | (go_at_call 17; refine (jP S9.out.dv).mono ?_; rintro r w10 ⟨⟨a10, c10, rfl⟩, b10⟩; have S10 := hid (S9.out.below b10); have R10 := hid (R9.out.keep (b10.block _ R9.out.lt)); have C10 := hid (C9.out.below b10 (Nat.le_refl _)); clear b10 S9 R9 C9))
            clear ldL crL jP pgL HPG HKB HCR
            go_loopw [28, 29, 30, 31, 32] (fun i _ _ _ _ w' => ∃ q : Nat, q ≤ 6 ∧ i = .int .i64 (q : Int) ∧ Hid (Below w11.heap.size w11 w')) (fun i _ _ _ _ _ => 6 - (RowKit.intOf i).toNat)
            case atStart => exact ⟨0, by omega, rfl, hid (Below.refl _ _)⟩
            case round =>
              obtain ⟨q, hq, rfl, hB⟩ := hrel
              by_cases hq6 : q < 6
              · have b0 : (q : Int) < 6 := by omega
                have q0 : (0 : Int) ≤ (q : Int) := by omega
                have Sr := S11.out.below hB.out
                have Cr := C11.out.below hB.out (Nat.le_refl _)
                have i9 : Calls Try.prog 22 #[.pointer (some ⟨a, 0, none⟩), .int .i64 (q : Int)] wr fun r w' => r = .returned (.tuple #[.string ⟨(WN[q]!).toArray⟩, .int .i64 0]) ∧ Below wr.heap.size wr w' := dRead_ok Sr.dv q (by rw [HWL.out]; exact hq6)
                have i10 : ∀ w', Below wr.heap.size wr w' → Calls Try.prog 22 #[.pointer (some ⟨a2, 0, none⟩), .int .i64 (q : Int)] w' fun r w'' => r = .returned (.tuple #[.string ⟨(L[q]!).toArray⟩, .int .i64 0]) ∧ Below w'.heap.size w' w'' := fun w' h => dRead_ok (Cr.below h (Nat.le_refl _)) q (by rw [HL6.out]; exact hq6)
                have cs : ∀ w', Below w11.heap.size w11 w' → w'.cell? ⟨H, q, none⟩ = some (.string ⟨(WN[q]!).toArray⟩) ∧ w'.cell? ⟨g11, q, none⟩ = some (.string ⟨(WN[q]!).toArray⟩) ∧ w'.cell? ⟨hl, q, none⟩ = some (.string ⟨(L[q]!).toArray⟩) := fun w' h => by
                  have x1 := R11.out.at6 (j := q) (by rw [HWL.out]; exact hq6)
                  have x3 := S11.out.rl.at6 (j := q) (by rw [HL6.out]; exact hq6)
                  have x2 : w11.cell? ⟨g11, q, none⟩ = some (.string ⟨(WN[q]!).toArray⟩) := by
                    have := HRP2.out q (sv WN[q]!) (by rw [at_get (by rw [HWL.out]; exact hq6)]; simp [svs, HWL.out, hq6])
                    rw [Nat.zero_add] at this
                    exact this
                  exact ⟨(h.cell (p := ⟨H, q, none⟩) R11.out.lt).trans x1, (h.cell (p := ⟨g11, q, none⟩) (block_lt_of_cell x2)).trans x2, (h.cell (p := ⟨hl, q, none⟩) S11.out.rl.lt).trans x3⟩
                have HB11 := hid hB.out
                clear Sr Cr hB
                generalize (ByteArray.mk (WN[q]!).toArray) = SB at *
                generalize (ByteArray.mk (L[q]!).toArray) = TB at *
                have yS : (SB.toList == SB.toList) = true := by simp
                have yS2 : (SB.toList != SB.toList) = false := by simp
                have yT : (TB.toList == TB.toList) = true := by simp
                have yT2 : (TB.toList != TB.toList) = false := by simp
                go_wp2_with (first
                  | (go_at_call 22; (with_reducible refine i9.mono ?_); rintro r wx ⟨rfl, bx⟩; have Bx := hid bx; clear bx)
                  | (go_at_call 22; (with_reducible refine (i10 _ Bx.out).mono ?_); rintro r wy ⟨rfl, b_y⟩; have By := hid ((HB11.out.trans (Bx.out.mono HB11.out.size)).trans (b_y.mono (Nat.le_trans HB11.out.size Bx.out.size))); clear b_y Bx))
                obtain ⟨x1, x2, x3⟩ := cs _ By.out
                clear cs i9 i10
                go_quiet (fail)
                go_wp2
                exact ⟨⟨q + 1, by omega, by go_num, hid (below_drewN' By.out _)⟩, by simp [RowKit.intOf]; omega⟩
              · obtain rfl : q = 6 := by omega
                go_wp2
                go_ret
                exact ⟨rfl, S11.out.bel.trans (hB.out.mono S11.out.bel.size)⟩
end Go.Proofs.Ytkpfpfjjkcefkaa
