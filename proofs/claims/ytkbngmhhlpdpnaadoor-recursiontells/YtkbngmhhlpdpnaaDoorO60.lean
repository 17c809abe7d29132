import Derived.Test.YtkbngmhhlpdpnaaDoorO59Q
import Derived.Test.YtkbngmhhlpdpnaaDoorO54
namespace Go.Proofs.YtkbngmhhlpdpnaaDoor
open Go.RowKit
theorem sz_le {w w' : World} (h : Below w.heap.size w w') : w.heap.size ≤ w'.heap.size := h.size
set_option maxRecDepth 100000 in
set_option maxHeartbeats 3000000 in
theorem tells_any (l : List (List UInt8)) (cs : List Int) (index first : Int) (a ai : Option Addr) (cap capi : Nat) (w : World) (hl : l.length ≤ cap) (hn6 : l.length ≤ 8796093021952) (hm6 : cs.length ≤ 17592186043904) (hA : At w a l) (hAi : AtI w ai cs) (T : Tabs w) :
    Calls Tryd.prog 3 #[.slice a l.length cap, .int .i64 index, .int .i64 first, .slice ai cs.length capi] w fun e w' => e = .returned (.bool true) ∧ Below w.heap.size w w' := by
  have HA := hid hA
  have HAi := hid hAi
  have HT := hid T
  clear hA hAi T
  obtain ⟨n, hn⟩ : ∃ n, l.length = n := ⟨_, rfl⟩
  obtain ⟨m, hm⟩ : ∃ m, cs.length = m := ⟨_, rfl⟩
  have hln := hid hn
  have hcm := hid hm
  have cL := lent_any l a cap
  rw [hn] at cL hl hn6 ⊢
  rw [hm] at hm6 ⊢
  go_enter Tryd.func3, Tryd.ntmps3
  go_wp2_with (go_at_call 9; fail)
  refine (known_any _ HT.out).mono ?_
  rintro e w1 ⟨rfl, hw1⟩
  have A1 := hid (HA.out.below hw1 (Nat.le_refl _))
  have B1 := hid hw1
  clear hw1
  go_wp2_with (go_at_call 10; fail)
  refine (cL _ (by omega) A1.out).mono ?_
  rintro e w2 ⟨rfl, hR2, hw2⟩
  have hHb := B1.out.size
  have R2 := hid hR2
  have B2 := hid (B1.out.trans (hw2.mono hHb))
  have I2 := hid (HAi.out.below B2.out (Nat.le_refl _))
  obtain ⟨v3, w3, hap3, hO3, hw3⟩ := append_copyI w2 ai capi cs I2.out (by have := hcm.out; omega)
  obtain ⟨v4, w4, hap4, hO4, hw4⟩ := append_77 w3 w2.heap.size v3 cs hO3 (by have := hcm.out; omega) hw3.size
  rw [hm] at hap3
  obtain ⟨a3, n3, c3, rfl⟩ := own_sl hO3
  obtain ⟨g, cw, hv4, hg1, hg2⟩ := ownSome hO4 (by rw [ivs_length, List.length_append]; exact Nat.lt_of_lt_of_le (by decide) (Nat.le_add_left 8 _))
  rw [ivs_length, List.length_append, show sevens.length = 8 from rfl] at hv4
  subst hv4
  have B24 := hw3.trans hw4
  have hRl := hR2.lt
  have R4 := hid (hR2.below B24 hRl)
  have B4 := hid (B2.out.trans (B24.mono B2.out.size))
  have s4 := B24.size
  have hHe : w1.heap.size < w2.heap.size := hRl
  have C5 : Hid (Cx w (w4.alloc (.cells #[.slice none 0 0, .slice none 0 0, .slice none 0 0, .slice none 0 0, .slice none 0 0] 29)) w1.heap.size w4.heap.size g cw l cs (.slice none 0 0) (.slice none 0 0) [] [] []) := by
    have hb := (Below.refl w4.heap.size w4).alloc (Nat.le_refl _) (.cells #[.slice none 0 0, .slice none 0 0, .slice none 0 0, .slice none 0 0, .slice none 0 0] 29)
    exact ⟨B4.out.trans (hb.mono B4.out.size), R4.out.below hb R4.out.lt, (hO4.mono (by omega)).below hb (Nat.le_refl _), Bk.nil (heap_alloc_new w4 _), hHb, by omega, hg2⟩
  rw [hm] at hap4
  clear A1 B1 cL hR2 hw2 R2 B2 I2 hO3 hO4 hw3 hw4 B24 R4 B4 hRl s4 hg1
  go_wp2_with (first
    | (at_builtin; refine Lib.wpList_append_run _ rfl _ _ 23 23 rfl _ _ rfl rfl _ _ hap3 ?_; clear hap3)
    | (at_builtin; refine Lib.wpList_append_run _ rfl _ _ 23 23 rfl _ _ rfl rfl _ _ hap4 ?_; clear hap4))
  obtain ⟨w5, hw5⟩ : ∃ w5, w4.alloc (.cells #[.slice none 0 0, .slice none 0 0, .slice none 0 0, .slice none 0 0, .slice none 0 0] 29) = w5 := ⟨_, rfl⟩
  rw [hw5] at C5 ⊢
  clear hw5
  generalize w1.heap.size = H at *
  generalize w4.heap.size = X at *
  obtain ⟨hcw1, hcw2⟩ := C5.out.ints.2
  rw [hm] at hcw1
  have t0 : (n : Int) ≤ (n : Int) + 8 := by omega
  have t1 : (m : Int) ≤ (m : Int) + 8 := by omega
  go_loopw [14] (fun i w' => ∃ (t : Nat) (qs : List (List UInt8)) (vf vw : Value) (us cc : List Value) (Ls : List (List (List UInt8))), t ≤ 3 ∧ i = .int .i64 (t : Int) ∧ Hid (qs.length = n) ∧ Hid (t ≤ 2 → qs = l) ∧ Hid (us.length = 3 * t) ∧ Hid (Cx w w' H X g cw qs cs vf vw us cc Ls)) (fun i _ => 3 - (intOf i).toNat)
  case atStart => exact ⟨0, l, _, _, [], [], [], by omega, rfl, hn, fun _ => rfl, rfl, C5⟩
  case round =>
    clear C5 hn hm
    obtain ⟨t, qs, vf, vw, us, cc, Ls, ht, rfl, hql, hqe, hul, C⟩ := hrel
    by_cases ht3 : t < 3
    · have b0 : (t : Int) < 3 := by omega
      go_upto_if 53 with (fail)
      go_cut [] (fun w' => ∃ qs : List (List UInt8), Hid (qs.length = n) ∧ Hid (t + 1 ≤ 2 → qs = l) ∧ Hid (Cx w w' H X g cw qs cs vf vw us cc Ls))
      case first =>
        obtain rfl := hqe.out (by omega)
        by_cases ht2 : t = 2
        · subst ht2
          go_wp2
          go_loopw [15] (fun i w' => ∃ k : Nat, k ≤ n ∧ i = .int .i64 (k : Int) ∧ Hid (Cx w w' H X g cw (rv qs k) cs vf vw us cc Ls)) (fun i _ => n - (intOf i).toNat)
          case atStart => exact ⟨0, by omega, rfl, by rw [rv_zero]; exact C⟩
          case round =>
            clear C
            obtain ⟨k, hk, rfl, C⟩ := hrel
            by_cases hkn : k < n
            · have q0 : (k : Int) < (n : Int) := by omega
              obtain ⟨p, hp⟩ : ∃ p, qs[n - 1 - k]? = some p := ⟨_, List.getElem?_eq_getElem (by have := hln.out; omega)⟩
              obtain ⟨x, rfl, _, hcx⟩ := HA.out.below C.out.bel (Nat.le_refl _) (n - 1 - k) p hp
              have q1 : IntKind.i64.wrap ((n : Int) - 1) = (n : Int) - 1 := wrap_small _ (by omega) (by omega)
              have q2 : IntKind.i64.wrap ((n : Int) - 1 - (k : Int)) = (n : Int) - 1 - (k : Int) := wrap_small _ (by omega) (by omega)
              have q3 : (0 : Int) ≤ (n : Int) - 1 - (k : Int) := by omega
              have q4 : (n : Int) - 1 - (k : Int) < (n : Int) := by omega
              have q5 : ((n : Int) - 1 - (k : Int)).toNat = n - 1 - k := by omega
              have q6 : (k : Int) < (n : Int) + 8 := by omega
              have hll : (rv qs k ++ behind 8).length = n + 8 := by rw [List.length_append, rv_len qs k (by have := hln.out; omega), behind_len 8 (by omega), hln.out]
              have hcx0 := C.out.row.cell (List.getElem?_eq_getElem (show k < (rv qs k ++ behind 8).length by omega))
              have fz := C.out.row.free (show k < (rv qs k ++ behind 8).length by omega)
              have R' := C.out.row.set k p
              rw [rv_step qs k (by have := hln.out; omega) p (by rw [hln.out]; exact hp)] at R'
              have C' := C.out.but (setCell_but wr H k (sv p)) R'
              rw [svS p] at C' hcx
              have C'' := hid C'
              clear C' R' C hp
              go_wp2
              exact ⟨⟨k + 1, by omega, by go_num, C''⟩, by simp [intOf]; omega⟩
            · obtain rfl : k = n := by omega
              have q0 : ¬ (k : Int) < (k : Int) := by omega
              go_wp2
              go_meet
              exact ⟨rv qs k, hid (by rw [rv_len qs k (by have := hln.out; omega)]; exact hln.out), hid (fun e => by omega), C⟩
        · have b1 : ((t : Int) == 2) = false := by
            have : ¬ (t : Int) = 2 := by omega
            simpa using this
          go_wp2
          go_meet
          exact ⟨qs, hql, hid (fun _ => rfl), C⟩
      case rest =>
        clear C hql hqe qs
        obtain ⟨qs, hql, hqe, C⟩ := hcut
        obtain ⟨r1, z1, hr1⟩ : ∃ r z, Hid (pathOut qs index = (r, z)) := ⟨_, _, rfl⟩
        obtain ⟨r2, z2, hr2⟩ : ∃ r z, Hid (proofOut qs first = (r, z)) := ⟨_, _, rfl⟩
        obtain ⟨r3, z3, hr3⟩ : ∃ r z, Hid (manyOut qs cs = (r, z)) := ⟨_, _, rfl⟩
        obtain ⟨k1, hk1⟩ : ∃ k, Hid (r1.length = k) := ⟨_, rfl⟩
        obtain ⟨k2, hk2⟩ : ∃ k, Hid (r2.length = k) := ⟨_, rfl⟩
        obtain ⟨k3, hk3⟩ : ∃ k, Hid (r3.length = k) := ⟨_, rfl⟩
        have lb1 := hid (pathOut_len hr1.out)
        have lb2 := hid (proofOut_len hr2.out)
        have lb3 := hid (manyOut_len hr3.out)
        have cP := Path_any qs index
        have cp := rPath_any qs index
        have cQ := Proof_any qs first
        have cq := rProof_any qs first
        have cM := Many_any qs cs
        have cm := rMany_any qs cs
        have cK := kept_yes qs
        have cI := sameI_yes cs
        rw [hql.out] at cP cp cQ cq cM cm cK
        rw [hcm.out] at cM cm cI
        obtain ⟨vl, w1, hap, hO1, hw1⟩ := append_copy wc (some ⟨H, 0, none⟩) (n + 8) qs C.out.row.first (by have := hql.out; omega)
        rw [hql.out] at hap
        obtain ⟨al, cl, rfl, hAl, hll, hlc⟩ := hO1.at
        rw [hql.out] at hap hll hO1
        have C1 := hid (C.out.below hw1)
        have Fl := hid (C.out.bk.fresh hO1 (Nat.le_refl _))
        have Gl := hid hO1
        have T1 := hid (HT.out.below C1.out.bel HT.out.lt)
        clear hO1 hAl hw1 C
        go_wp2_with (first
          | (at_builtin; go_must (refine Lib.wpList_append_run _ rfl _ _ 22 22 rfl _ _ rfl rfl _ _ hap ?_))
          | (go_at_call 11; fail))
        clear hap
        refine (cP (some ⟨H, 0, none⟩) (n + 8) w1 (by omega) (by omega) C1.out.row.first T1.out).mono ?_
        intro e w2 hh
        obtain ⟨ap, cap2, rfl, op, _, hw2⟩ := tells_of hr1 hk1 hh
        have C2 := hid (C1.out.below hw2)
        have Fp := hid (C1.out.bk.fresh op (Nat.le_refl _))
        have Dlp := hid (apart_of Gl.out op (Nat.le_refl _))
        have Gl2 := hid (Gl.out.below hw2 (Nat.le_refl _))
        have Gp2 := hid op
        have sp := hid C1.out.bk.free.ge
        have X1 : Hid (X ≤ w1.heap.size) := Nat.le_of_lt (lt_of_heap C1.out.bk.row)
        clear hh op hw2 Gl C1 T1 sp cP
        go_wp2_with (go_at_call 12; fail)
        refine (cp al cl w2 hll hlc (ownAt Gl2.out)).mono ?_
        intro e w3 hh
        obtain ⟨aq, cq2, rfl, _, hAq, hw3⟩ := tells_of hr1 hk1 hh
        have C3 := hid (C2.out.below hw3)
        have Gl3 := hid (Gl2.out.below hw3 (Nat.le_refl _))
        have Gp3 := hid (Gp2.out.below hw3 (Nat.le_refl _))
        have Aq3 := hid hAq
        have T3 := hid (HT.out.below C3.out.bel HT.out.lt)
        clear hh hAq hw3 Gl2 Gp2 C2 cp
        go_wp2_with (go_at_call 13; fail)
        refine (cQ (some ⟨H, 0, none⟩) (n + 8) w3 (by omega) (by omega) C3.out.row.first T3.out).mono ?_
        intro e w4 hh
        obtain ⟨ac, cc2, rfl, oc, _, hw4⟩ := tells_of hr2 hk2 hh
        have C4 := hid (C3.out.below hw4)
        have Fc := hid (C3.out.bk.fresh oc (Nat.le_refl _))
        have Dlc := hid (apart_of Gl3.out oc (Nat.le_refl _))
        have Dpc := hid (apart_of Gp3.out oc (Nat.le_refl _))
        have X3 : Hid (X ≤ w3.heap.size) := Nat.le_of_lt (lt_of_heap C3.out.bk.row)
        have Gl4 := hid (Gl3.out.below hw4 (Nat.le_refl _))
        have Gp4 := hid (Gp3.out.below hw4 (Nat.le_refl _))
        have Aq4 := hid (Aq3.out.below hw4 (Nat.le_refl _))
        have Gc4 := hid oc
        clear hh oc hw4 Gl3 Gp3 Aq3 C3 T3 cQ
        go_wp2_with (go_at_call 14; fail)
        refine (cq al cl w4 hll hlc (ownAt Gl4.out)).mono ?_
        intro e w5 hh
        obtain ⟨ad, cd2, rfl, _, hAd, hw5⟩ := tells_of hr2 hk2 hh
        have C5 := hid (C4.out.below hw5)
        have Gl5 := hid (Gl4.out.below hw5 (Nat.le_refl _))
        have Gp5 := hid (Gp4.out.below hw5 (Nat.le_refl _))
        have Aq5 := hid (Aq4.out.below hw5 (Nat.le_refl _))
        have Gc5 := hid (Gc4.out.below hw5 (Nat.le_refl _))
        have Ad5 := hid hAd
        clear hh hAd hw5 Gl4 Gp4 Aq4 Gc4 C4 cq
        have C5d := hid (C5.out.below (Below.refl w5.heap.size w5).drew)
        have T5 := hid (HT.out.below C5d.out.bel HT.out.lt)
        have F5 := hid C5d.out.row.first
        have I5 := hid C5d.out.wanted
        go_wp2
        go_region_with (go_at_call 15; refine (cM (some ⟨H, 0, none⟩) (some ⟨g, 0, none⟩) (n + 8) cw _ (by omega) (by omega) F5.out T5.out (by omega) hcw2 I5.out).mono ?_; intro e w6 hh; obtain ⟨ax, cx2, rfl, ox, _, hw6'⟩ := tells_of hr3 hk3 hh)
        have hw6 : Below w5.heap.size w5 w6 := (Below.refl w5.heap.size w5).drew.trans hw6'
        replace ox : Own w6 w5.heap.size (.slice ax k3 cx2) (svs r3) := ox
        have C6 := hid (C5.out.below hw6)
        have Fx := hid (C5.out.bk.fresh ox (Nat.le_refl _))
        have Dlx := hid (apart_of Gl5.out ox (Nat.le_refl _))
        have Dpx := hid (apart_of Gp5.out ox (Nat.le_refl _))
        have Dcx := hid (apart_of Gc5.out ox (Nat.le_refl _))
        have X5 : Hid (X ≤ w5.heap.size) := Nat.le_of_lt (lt_of_heap C5.out.bk.row)
        have Gl6 := hid (Gl5.out.below hw6 (Nat.le_refl _))
        have Gp6 := hid (Gp5.out.below hw6 (Nat.le_refl _))
        have Aq6 := hid (Aq5.out.below hw6 (Nat.le_refl _))
        have Gc6 := hid (Gc5.out.below hw6 (Nat.le_refl _))
        have Ad6 := hid (Ad5.out.below hw6 (Nat.le_refl _))
        have Gx6 := hid ox
        clear hh ox hw6 hw6' Gl5 Gp5 Aq5 Gc5 Ad5 C5 C5d T5 F5 I5 cM
        have I6 := hid (HAi.out.below C6.out.bel (Nat.le_refl _))
        go_wp2_with (go_at_call 16; fail)
        refine (cm al ai cl capi w6 hll hlc (ownAt Gl6.out) I6.out).mono ?_
        intro e w7 hh
        obtain ⟨ay, cy2, rfl, _, hAy, hw7⟩ := tells_of hr3 hk3 hh
        have C7 := hid (C6.out.below hw7)
        have Gl7 := hid (Gl6.out.below hw7 (Nat.le_refl _))
        have Gp7 := hid (Gp6.out.below hw7 (Nat.le_refl _))
        have Aq7 := hid (Aq6.out.below hw7 (Nat.le_refl _))
        have Gc7 := hid (Gc6.out.below hw7 (Nat.le_refl _))
        have Ad7 := hid (Ad6.out.below hw7 (Nat.le_refl _))
        have Gx7 := hid (Gx6.out.below hw7 (Nat.le_refl _))
        have Ay7 := hid hAy
        clear hh hAy hw7 Gl6 Gp6 Aq6 Gc6 Ad6 Gx6 C6 I6 cm
        have cS1 := same_yes r1 ap aq cap2 cq2 w7 (ownAt Gp7.out) Aq7.out (by have := lb1.out; omega)
        rw [hk1.out] at cS1
        go_wp2_with (go_at_call 17; fail)
        refine cS1.mono ?_
        rintro e w8 ⟨rfl, hw8, _⟩
        have Gl8 := hid (Gl7.out.below hw8 (Nat.le_refl _))
        have Gp8 := hid (Gp7.out.below hw8 (Nat.le_refl _))
        have Gc8 := hid (Gc7.out.below hw8 (Nat.le_refl _))
        have Ad8 := hid (Ad7.out.below hw8 (Nat.le_refl _))
        have Gx8 := hid (Gx7.out.below hw8 (Nat.le_refl _))
        have Ay8 := hid (Ay7.out.below hw8 (Nat.le_refl _))
        have C8 := hid (C7.out.below hw8)
        clear hw8 C7 Gl7 Gp7 Gc7 Ad7 Gx7 Ay7 Aq7
        have cS2 := same_yes r2 ac ad cc2 cd2 w8 (ownAt Gc8.out) Ad8.out (by have := lb2.out; omega)
        rw [hk2.out] at cS2
        go_wp2_with (go_at_call 17; fail)
        refine cS2.mono ?_
        rintro e w9 ⟨rfl, hw9, _⟩
        have Gl9 := hid (Gl8.out.below hw9 (Nat.le_refl _))
        have Gp9 := hid (Gp8.out.below hw9 (Nat.le_refl _))
        have Gc9 := hid (Gc8.out.below hw9 (Nat.le_refl _))
        have Gx9 := hid (Gx8.out.below hw9 (Nat.le_refl _))
        have Ay9 := hid (Ay8.out.below hw9 (Nat.le_refl _))
        have C9 := hid (C8.out.below hw9)
        clear hw9 C8 Gl8 Gp8 Gc8 Gx8 Ay8 Ad8
        have cS3 := same_yes r3 ax ay cx2 cy2 w9 (ownAt Gx9.out) Ay9.out (by have := lb3.out; omega)
        rw [hk3.out] at cS3
        go_wp2_with (go_at_call 17; fail)
        refine cS3.mono ?_
        rintro e w10 ⟨rfl, hw10, _⟩
        have Gl10 := hid (Gl9.out.below hw10 (Nat.le_refl _))
        have Gp10 := hid (Gp9.out.below hw10 (Nat.le_refl _))
        have Gc10 := hid (Gc9.out.below hw10 (Nat.le_refl _))
        have Gx10 := hid (Gx9.out.below hw10 (Nat.le_refl _))
        have Ay10 := hid (Ay9.out.below hw10 (Nat.le_refl _))
        have C10 := hid (C9.out.below hw10)
        clear hw10 C9 Gl9 Gp9 Gc9 Gx9 Ay9
        clear Ay10 cS1 cS2 cS3
        have K10 := hid C10.out.bk
        go_wp2_with (go_at_call 18; fail)
        refine (takes_any X X _ vf vw _ _ _ ap k1 cap2 us cc r1 w10 K10.out.row K10.out.free K10.out.was Gp10.out (by have := hul.out; omega) (by have := hul.out; have := K10.out.l1; have := K10.out.l2; omega) (by have := lb1.out; omega) (Nat.le_of_lt (lt_of_heap K10.out.row)) K10.out.dX.1 K10.out.dX.2 K10.out.dFW (fun k hk => ⟨(Fp.out k hk).1, (Fp.out k hk).2.1, (Fp.out k hk).2.2.1⟩)).mono ?_
        rintro e w11 ⟨rfl, vf1, vw1, co1, T11⟩
        have C11 := hid (C10.out.take T11 Gp10.out X1.out lb1.out Fp.out)
        have Gl11 := hid (Own.took T11 Fl.out Gl10.out)
        have Gc11 := hid (Own.took T11 Fc.out Gc10.out)
        have Gx11 := hid (Own.took T11 Fx.out Gx10.out)
        have Fl1 := hid (Fr.next T11 Fl.out Gl10.out (fun k h1 h2 => Dlp.out k h2 h1))
        have Fc1 := hid (Fr.next T11 Fc.out Gc10.out Dpc.out)
        have Fx1 := hid (Fr.next T11 Fx.out Gx10.out Dpx.out)
        clear T11 C10 K10 Gl10 Gp10 Gc10 Gx10 Fl Fp Fc Fx Dlp Dpc Dpx
        have K11 := hid C11.out.bk
        go_wp2_with (go_at_call 18; fail)
        refine (takes_any X X _ vf1 vw1 _ _ _ ac k2 cc2 _ _ r2 w11 K11.out.row K11.out.free K11.out.was Gc11.out (by have := hul.out; simp; omega) (by have := hul.out; have := K11.out.l1; have := K11.out.l2; simp at *; omega) (by have := lb2.out; omega) (Nat.le_of_lt (lt_of_heap K11.out.row)) K11.out.dX.1 K11.out.dX.2 K11.out.dFW (fun k hk => ⟨(Fc1.out k hk).1, (Fc1.out k hk).2.1, (Fc1.out k hk).2.2.1⟩)).mono ?_
        rintro e w12 ⟨rfl, vf2, vw2, co2, T12⟩
        have C12 := hid (C11.out.take T12 Gc11.out X3.out lb2.out Fc1.out)
        have Gl12 := hid (Own.took T12 Fl1.out Gl11.out)
        have Gx12 := hid (Own.took T12 Fx1.out Gx11.out)
        have Fl2 := hid (Fr.next T12 Fl1.out Gl11.out (fun k h1 h2 => Dlc.out k h2 h1))
        have Fx2 := hid (Fr.next T12 Fx1.out Gx11.out Dcx.out)
        clear T12 C11 K11 Gl11 Gc11 Gx11 Fl1 Fc1 Fx1 Dlc Dcx
        have K12 := hid C12.out.bk
        go_wp2_with (go_at_call 18; fail)
        refine (takes_any X X _ vf2 vw2 _ _ _ ax k3 cx2 _ _ r3 w12 K12.out.row K12.out.free K12.out.was Gx12.out (by have := hul.out; simp; omega) (by have := hul.out; have := K12.out.l1; have := K12.out.l2; simp at *; omega) (by have := lb3.out; omega) (Nat.le_of_lt (lt_of_heap K12.out.row)) K12.out.dX.1 K12.out.dX.2 K12.out.dFW (fun k hk => ⟨(Fx2.out k hk).1, (Fx2.out k hk).2.1, (Fx2.out k hk).2.2.1⟩)).mono ?_
        rintro e w13 ⟨rfl, vf3, vw3, co3, T13⟩
        have C13 := hid (C12.out.take T13 Gx12.out X5.out lb3.out Fx2.out)
        have Gl13 := hid (Own.took T13 Fl2.out Gl12.out)
        have hul3 : Hid ((us ++ [Value.slice ap k1 cap2] ++ [Value.slice ac k2 cc2] ++ [Value.slice ax k3 cx2]).length = 3 * (t + 1)) := by
          have := hul.out
          show _ = _
          simp only [List.length_append, List.length_singleton]
          omega
        clear T13 C12 K12 Gl12 Gx12 Fl2 Fx2 Dlx
        generalize us ++ [Value.slice ap k1 cap2] ++ [Value.slice ac k2 cc2] ++ [Value.slice ax k3 cx2] = us3 at *
        generalize cc ++ [co1] ++ [co2] ++ [co3] = cc3 at *
        generalize Ls ++ [r1] ++ [r2] ++ [r3] = Ls3 at *
        go_wp2_with (go_at_call 19; fail)
        refine (cK H al cl w13 (by omega) C13.out.row (ownAt Gl13.out)).mono ?_
        rintro e w14 ⟨rfl, hw14, _⟩
        have C14 := hid (C13.out.below hw14)
        clear C13 Gl13 hw14 cK
        have I14 := hid (HAi.out.below C14.out.bel (Nat.le_refl _))
        go_wp2_with (go_at_call 20; fail)
        refine (cI (some ⟨g, 0, none⟩) ai cw capi w14 C14.out.wanted I14.out (by omega)).mono ?_
        rintro e w15 ⟨rfl, hw15, _⟩
        have C15 := hid (C14.out.below hw15)
        have h77 : Hid (∀ j, j < 8 → w15.cell? ⟨g, m + j, none⟩ = some (.int .i64 77)) := fun j hj => by
          have := C15.out.seven hj
          rwa [hcm.out] at this
        clear C14 I14 hw15 cI
        have y1 : (z1 != z1) = false := by simp
        have y2 : (z2 != z2) = false := by simp
        have y3 : (z3 != z3) = false := by simp
        go_wp2
        go_loopw [33, 34] (fun v i w' => ∃ j : Nat, j ≤ 8 ∧ v = .bool true ∧ i = .int .i64 ((m : Int) + (j : Int)) ∧ w' = w15) (fun _ i _ => m + 8 - (intOf i).toNat)
        case atStart => exact ⟨0, by omega, rfl, by simp, rfl⟩
        case round =>
          obtain ⟨j, hj, rfl, rfl, rfl⟩ := hrel
          by_cases hlt : j < 8
          · have b1 : (m : Int) + (j : Int) < (m : Int) + 8 := by omega
            have b2 : (0 : Int) ≤ (m : Int) + (j : Int) := by omega
            have b3 : ((m : Int) + (j : Int)).toNat = m + j := by omega
            have c7 := h77.out j hlt
            go_wp2
            exact ⟨⟨j + 1, by omega, rfl, by rw [show (m : Int) + (j : Int) + 1 = (m : Int) + ((j + 1 : Nat) : Int) from by omega], trivial⟩, by simp [intOf]; omega⟩
          · obtain rfl : j = 8 := by omega
            have b1 : ¬ (m : Int) + ((8 : Nat) : Int) < (m : Int) + 8 := by omega
            go_wp2
            exact ⟨⟨t + 1, qs, vf3, vw3, us3, cc3, Ls3, by omega, by go_num, hql, hqe, hul3, C15⟩, by simp [intOf]; omega⟩
    · obtain rfl : t = 3 := by omega
      have b0 : ¬ ((3 : Nat) : Int) < 3 := by omega
      have cT := turned_any qs cs H (some ⟨g, 0, none⟩) cw index first wr (by have := hql.out; omega) C.out.row C.out.wanted (fun x hx => by obtain rfl := Option.some.inj hx; have := C.out.hg; show g ≠ H; omega) (by have := hcm.out; omega) hcw2 (HT.out.below C.out.bel HT.out.lt) (by have := C.out.hH; have := HT.out.lt; omega)
      rw [hql.out, hcm.out] at cT
      go_wp2_with (go_at_call 21; fail)
      refine cT.mono ?_
      rintro e w2 ⟨rfl, hB⟩
      have K2 := hid (C.out.bk.but hB (by have := C.out.hg; have := C.out.hX; omega))
      have B2 := hid (C.out.bel.trans (hB.below C.out.hH C.out.bel.size))
      have hXW := hid (show w.heap.size ≤ X by have := C.out.hH; have := C.out.hg; have := C.out.hX; omega)
      clear cT hB C
      have cB := still_any X X 9 vf vw us cc Ls w2 K2.out.row K2.out.free K2.out.was (by have := hul.out; omega) (by have := hul.out; have := K2.out.l1; have := K2.out.l2; omega) (by have := hul.out; have := K2.out.l1; omega) (by omega) (by omega) K2.out.own K2.out.cpy (fun i u g h1 h2 => (K2.out.apU i u g h1 h2).1) K2.out.di (Nat.le_refl _) (Nat.le_of_lt (lt_of_heap K2.out.row))
      go_wp2_with (go_at_call 22; fail)
      refine cB.mono ?_
      rintro e w3 ⟨rfl, hB3⟩
      have B3 := hid (B2.out.trans (hB3.mono hXW.out))
      clear cB hB3 K2 B2
      go_wp2
      go_ret
      exact ⟨rfl, B3.out⟩
end Go.Proofs.YtkbngmhhlpdpnaaDoor
