import Derived.Deep.CutRange
import Derived.Deep.DeepCutAuto
import Derived.Test.YtagplmnnbjidmaaDoorCTL30
import Derived.Test.YtagplmnnbjidmaaDoorCTL26
namespace Go.Proofs.YtagplmnnbjidmaaDoor
open Go.RowKit
theorem nums_more {cs : List Int} {k : Nat} (h : ¬ k < cs.length) : nums cs (k + 1) = nums cs k := by
  unfold nums
  rw [List.take_of_length_le (by omega), List.take_of_length_le (by omega)]
set_option maxRecDepth 100000 in
set_option maxHeartbeats 8000000 in
theorem clones_any (ht : Int) (cs ds os : List Int) (a d o : Option Addr) (ca cd co : Nat) (w : World) (h1 : -9223372036854775808 ≤ ht ∧ ht ≤ 9223372036854775807) (hcs : cs.length ≤ 9223372036854775807) (hA : AtI w a cs) (hD : AtI w d ds) (hO : AtI w o os) (Z : Tb w) :
    Calls Tryd.prog 4 #[.int .i64 ht, .slice a cs.length ca, .slice d ds.length cd, .slice o os.length co] w fun e w' => e = .returned (.bool true) ∧ Below w.heap.size w w' := by
  have HZ := hid Z
  have HA := hid hA
  have HD := hid hD
  have HO := hid hO
  have hT := Z.lt
  clear Z hA hD hO
  obtain ⟨nc, hnc⟩ : ∃ n : Nat, Hid (cs.length = n) := ⟨_, rfl⟩
  obtain ⟨nd, hnd⟩ : ∃ n : Nat, Hid (ds.length = n) := ⟨_, rfl⟩
  obtain ⟨no, hno⟩ : ∃ n : Nat, Hid (os.length = n) := ⟨_, rfl⟩
  rw [hnc.out] at hcs ⊢
  rw [hnd.out, hno.out]
  go_enter Tryd.func4, Tryd.ntmps4
  go_wp2_with (go_at_call 7; fail)
  refine (tknown_any _ HZ.out).mono ?_
  rintro e w1 ⟨rfl, hw1⟩
  have B1 := hid hw1
  have hT1 := (HZ.out.below hw1 hT).lt
  have Z1 := hid (HZ.out.below hw1 hT)
  have i1 := tfilled_any ht cs 100 (by omega) a ca w1 h1.1 h1.2 (by rw [hnc.out]; exact hcs) (HA.out.below hw1 (Nat.le_refl _)) Z1.out
  rw [show ((100 : Nat) : Int) = 100 from rfl, hnc.out] at i1
  clear hw1
  go_wp2_with (go_at_call 8; fail)
  refine i1.mono ?_
  rintro e w2 ⟨qt, h, Ft, rfl, hha, Tt0, hFt, hw2⟩
  have B2 := hid hw2
  have Tt := hid Tt0
  have HFt := hid hFt
  have hlen := nums_len cs 100
  have hTk := fun k (h : k ≤ 100) => nums_take cs (k := k) (M := 100) h
  clear i1 hw2 hFt hha Tt0
  obtain ⟨L, hL⟩ : ∃ L, nums cs 100 = L := ⟨_, rfl⟩
  have HTk : Hid (∀ k, k ≤ 100 → L.take k = nums cs k) := fun k h => by rw [← hL]; exact hTk k h
  rw [hL] at hlen Tt
  clear hTk hL
  rw [hnc.out] at hlen
  obtain ⟨n, hn⟩ : ∃ n, Hid (L.length = n) := ⟨_, rfl⟩
  rw [hn.out] at hlen
  have hn100 : n ≤ 100 := by omega
  have hnn : n ≤ nc := by omega
  clear hlen
  obtain ⟨x0, hx0⟩ : ∃ x0, Hid (Tree.root L = x0) := ⟨_, rfl⟩
  have iS := tSizeL Tt.out
  rw [hn.out] at iS
  have hP0 : Hid (tPartO L 0 (n : Int) = (x0, 0)) := by
    have := tPartO_all (L := L)
    rw [hn.out, hx0.out] at this
    exact this
  have iR := tRoot_any Tt.out (n : Int) (Z1.out.below B2.out hT1) hP0
  go_wp2_with (first
    | (go_at_call 10; refine iS.mono ?_; rintro e w0 ⟨rfl, h0⟩; have h0 := h0.symm; subst h0)
    | (go_at_call 14; fail))
  refine iR.mono ?_
  rintro e w3 ⟨rfl, hw3⟩
  have T3 := hid (Tt.out.below hw3)
  have B3 := hid (B2.out.trans (hw3.mono B2.out.size))
  have hT3 : 4 ≤ w3.heap.size := Nat.le_trans hT1 B3.out.size
  clear iS iR hw3 Tt B2 hP0
  go_wp2_with (go_at_call 15; fail)
  refine (tClone_any T3.out hT3).mono ?_
  rintro e w4 ⟨qc, Fc, rfl, Tc, hFc, hw4⟩
  have G4' : Hid (G5 w4 w1.heap.size qt qc h L L [] [] (.slice none 0 0) (.slice none 0 0) Ft Fc) :=
    ⟨T3.out.below hw4, Tc, Own.nil _ _, Own.nil _ _, fun k hk e => by have := T3.out.lt k hk; have := hFc k e; omega, fun k hk => (by cases hk), fun k hk => (by cases hk), fun k hk => (by cases hk), fun k hk => (by cases hk), fun k hk => (by cases hk), HFt.out, fun k hk => Nat.le_trans B3.out.size (hFc k hk), Nat.le_trans B3.out.size hw4.size⟩
  have B4 := hid (B3.out.trans (hw4.mono B3.out.size))
  have D1 := hid (HD.out.below B1.out (Nat.le_refl _))
  have O1 := hid (HO.out.below B1.out (Nat.le_refl _))
  have A1 := hid (HA.out.below B1.out (Nat.le_refl _))
  clear Tc hFc hw4 T3 HFt B3 HD HO HA
  go_wp2
  go_loopw [17, 15, 16] (fun iv lv mv w' => ∃ (k : Nat), k ≤ n ∧ iv = .int .i64 (k : Int) ∧ Hid (G5 w' w1.heap.size qt qc h L L (L.take k) (L.take k) lv mv Ft Fc) ∧ Hid (Below w1.heap.size w1 w')) (fun iv _ _ _ => n - (intOf iv).toNat)
  case atStart => exact ⟨0, by omega, rfl, G4', B4⟩
  case round =>
    clear G4' B4
    obtain ⟨k, hk, rfl, hG, hB⟩ := hrel
    obtain ⟨al, cl, rfl, _, _, _⟩ := hG.out.ol.at
    obtain ⟨am, cm, rfl, _, _, _⟩ := hG.out.om.at
    have hlt : (L.take k).length = k := by rw [List.length_take, hn.out]; omega
    have hG0 := hG.out
    rw [hlt] at hG0 ⊢
    have HG := hid hG0
    clear hG hG0
    by_cases hkn : k < n
    · have c0 : (k : Int) < (n : Int) := by omega
      have c1 : (k : Int) < (nc : Int) := by omega
      have hkc : k < cs.length := by rw [hnc.out]; omega
      obtain ⟨y, rfl, hyb, hy2⟩ := A1.out k cs[k] (List.getElem?_eq_getElem hkc)
      have hnx : L.take (k + 1) = L.take k ++ [lf cs[k]] := by rw [HTk.out (k + 1) (by omega), nums_succ cs k hkc, HTk.out k (by omega)]
      generalize cs[k] = c at *
      obtain ⟨r, hr⟩ : ∃ r, Hid (lf c = r) := ⟨_, rfl⟩
      rw [hr.out] at hnx
      have HNX := hid hnx
      have hcell := fun w' (b : Below w1.heap.size w1 w') => (b.cell (p := y.add k) (by rw [addr_block]; exact hyb)).trans hy2
      have hlt2 : (L.take (k + 1)).length = k + 1 := by rw [List.length_take, hn.out]; omega
      have cl0 := hcell _ hB.out
      clear hnx hy2 hkc hyb
      go_wp2_with (go_at_call 16; fail)
      refine (lleaf_at c r hr _).mono ?_
      rintro e w6 ⟨rfl, hw6⟩
      have G6 := HG.out.below hw6
      obtain ⟨vl', w7, hap, o7, g7⟩ := append_S w6 w1.heap.size _ (L.take k) r G6.ol (by rw [hlt]; omega) G6.sz
      rw [← HNX.out] at o7
      obtain ⟨g, bb⟩ := G6.pushL g7 o7
      obtain ⟨al', cl', rfl, _, _, _⟩ := o7.at
      rw [hlt2] at hap g
      have G7 := hid g
      have B7 := hid ((hB.out.trans (hw6.mono hB.out.size)).trans bb)
      have cl7 := hcell _ B7.out
      rw [svS r]
      clear G6 o7 g7 g bb hw6 HG cl0
      go_wp2_with (first
        | (at_builtin; go_must (refine Lib.wpList_append_run _ rfl _ _ 33 33 rfl _ _ rfl rfl _ _ hap ?_); clear hap)
        | (go_at_call 16; fail))
      refine (lleaf_at c r hr _).mono ?_
      rintro e w8 ⟨rfl, hw8⟩
      have G8 := G7.out.below hw8
      obtain ⟨vm', w9, hap, o9, g9⟩ := append_S w8 w1.heap.size _ (L.take k) r G8.om (by rw [hlt]; omega) G8.sz
      rw [← HNX.out] at o9
      obtain ⟨g, bb⟩ := G8.pushM g9 o9
      obtain ⟨am', cm', rfl, _, _, _⟩ := o9.at
      rw [hlt2] at hap g
      have G9 := hid g
      have B9 := hid ((B7.out.trans (hw8.mono B7.out.size)).trans bb)
      rw [svS r]
      clear G8 o9 g9 g bb hw8 G7 cl7 hcell
      go_wp2_with (at_builtin; go_must (refine Lib.wpList_append_run _ rfl _ _ 33 33 rfl _ _ rfl rfl _ _ hap ?_); clear hap)
      exact ⟨⟨k + 1, by omega, by go_num, G9, B9⟩, by simp [intOf]; omega⟩
    · obtain rfl : k = n := by omega
      have c0 : ¬ (k : Int) < (k : Int) := by omega
      have hLk : L.take k = L := by rw [← hn.out]; exact List.take_length
      have hG1 := HG.out
      rw [hLk] at hG1
      have HG := hid hG1
      clear hG1 A1 HTk hlt
      go_wp2
      go_loopw [18, 15, 16] (fun iv lv mv w' => ∃ (i : Nat) (F1 F2 : Nat → Prop), i ≤ 100 ∧ iv = .int .i64 (i : Int) ∧ Hid (G5 w' w1.heap.size qt qc h (L ++ nums ds i) (L ++ nums os i) (L ++ nums ds i) (L ++ nums os i) lv mv F1 F2) ∧ Hid (Below w1.heap.size w1 w')) (fun iv _ _ _ => 100 - (intOf iv).toNat)
      case atStart => exact ⟨0, Ft, Fc, by omega, rfl, by unfold Hid; rw [show nums ds 0 = [] from rfl, show nums os 0 = [] from rfl, List.append_nil]; exact HG.out, hB⟩
      case round =>
        clear HG hB
        obtain ⟨i, F1, F2, hi, rfl, hG, hB⟩ := hrel
        have hl1 := nums_len ds i
        have hl2 := nums_len os i
        obtain ⟨al, cl, rfl, _, _, _⟩ := hG.out.ol.at
        obtain ⟨am, cm, rfl, _, _, _⟩ := hG.out.om.at
        obtain ⟨nt, hnt⟩ : ∃ nt, Hid ((L ++ nums ds i).length = nt) := ⟨_, rfl⟩
        obtain ⟨nm, hnm⟩ : ∃ nm, Hid ((L ++ nums os i).length = nm) := ⟨_, rfl⟩
        have hnt2 : nt ≤ 200 := by rw [← hnt.out, List.length_append, hn.out, hl1]; omega
        have hnm2 : nm ≤ 200 := by rw [← hnm.out, List.length_append, hn.out, hl2]; omega
        have hG0 := hG.out
        rw [hnt.out, hnm.out] at hG0 ⊢
        have HG := hid hG0
        clear hG hG0 hl1 hl2
        by_cases hi100 : i < 100
        · have c0 : (i : Int) < 100 := by omega
          go_upto_if 85 with (fail)
          go_cut [15] from 78 to 119 (fun v w' => ∃ (F1' : Nat → Prop), Hid (G5 w' w1.heap.size qt qc h (L ++ nums ds (i + 1)) (L ++ nums os i) (L ++ nums ds (i + 1)) (L ++ nums os i) v (.slice am nm cm) F1' F2) ∧ Hid (Below w1.heap.size w1 w'))
          case first =>
            by_cases hid' : i < nd
            · have c1 : (i : Int) < (nd : Int) := by omega
              have hil : i < ds.length := by rw [hnd.out]; exact hid'
              obtain ⟨y, rfl, hyb, hy2⟩ := D1.out i ds[i] (List.getElem?_eq_getElem hil)
              have hnx : L ++ nums ds (i + 1) = (L ++ nums ds i) ++ [lf ds[i]] := by rw [nums_succ ds i hil, List.append_assoc]
              generalize ds[i] = c at *
              obtain ⟨r, hr⟩ : ∃ r, Hid (lf c = r) := ⟨_, rfl⟩
              have lr : r.length = 32 := by rw [← hr.out, lf_length]
              rw [hr.out] at hnx
              have HNX := hid hnx
              have hcell := fun w' (b : Below w1.heap.size w1 w') => (b.cell (p := y.add i) (by rw [addr_block]; exact hyb)).trans hy2
              have cl0 := hcell _ hB.out
              clear hnx hy2 hil hyb
              go_wp2_with (go_at_call 16; fail)
              refine (lleaf_at c r hr _).mono ?_
              rintro e w6 ⟨rfl, hw6⟩
              have G6 := hid (HG.out.below hw6)
              have B6 := hid (hB.out.trans (hw6.mono hB.out.size))
              have iA := tAdd_any G6.out.t r lr (by rw [hnt.out]; omega) (Z1.out.below B6.out hT1)
              rw [← HNX.out] at iA
              clear hw6 HG cl0
              go_wp2_with (go_at_call 17; fail)
              refine iA.mono ?_
              rintro e w7 ⟨rfl, F7, T7, M7⟩
              obtain ⟨g, bb⟩ := G6.out.addT M7 T7
              have G7 := hid g
              have B7 := hid (B6.out.trans bb)
              have cl7 := hcell _ B7.out
              clear iA T7 M7 g bb G6 B6
              go_wp2_with (go_at_call 16; fail)
              refine (lleaf_at c r hr _).mono ?_
              rintro e w8 ⟨rfl, hw8⟩
              have G8 := G7.out.below hw8
              obtain ⟨vl', w9, hap, o9, g9⟩ := append_S w8 w1.heap.size _ (L ++ nums ds i) r G8.ol (by rw [hnt.out]; omega) G8.sz
              rw [← HNX.out] at o9
              obtain ⟨g, bb⟩ := G8.pushL g9 o9
              have G9 := hid g
              have B9 := hid ((B7.out.trans (hw8.mono B7.out.size)).trans bb)
              rw [svS r]
              clear G8 o9 g9 g bb hw8 G7 cl7 hcell
              go_wp2_with (at_builtin; go_must (refine Lib.wpList_append_run _ rfl _ _ 33 33 rfl _ _ rfl rfl _ _ hap ?_); clear hap)
              go_meet
              exact ⟨F7, G9, B9⟩
            · have c1 : ¬ (i : Int) < (nd : Int) := by omega
              have hG1 := HG.out
              rw [← nums_more (cs := ds) (k := i) (by rw [hnd.out]; exact hid')] at hG1
              have HG := hid hG1
              clear hG1
              go_wp2
              go_meet
              exact ⟨F1, HG, hB⟩
          case rest =>
            obtain ⟨F1', HG1, hB1⟩ := hcut
            obtain ⟨w5, rfl⟩ : ∃ w5, w5 = wc := ⟨_, rfl⟩
            clear HG hB
            obtain ⟨al', cl', hv', _, _, _⟩ := HG1.out.ol.at
            obtain ⟨nt', hnt'⟩ : ∃ nt', Hid ((L ++ nums ds (i + 1)).length = nt') := ⟨_, rfl⟩
            rw [hnt'.out] at hv'
            subst hv'
            by_cases hid' : i < no
            · have c1 : (i : Int) < (no : Int) := by omega
              have hil : i < os.length := by rw [hno.out]; exact hid'
              obtain ⟨y, rfl, hyb, hy2⟩ := O1.out i os[i] (List.getElem?_eq_getElem hil)
              have hnx : L ++ nums os (i + 1) = (L ++ nums os i) ++ [lf os[i]] := by rw [nums_succ os i hil, List.append_assoc]
              generalize os[i] = c at *
              obtain ⟨r, hr⟩ : ∃ r, Hid (lf c = r) := ⟨_, rfl⟩
              have lr : r.length = 32 := by rw [← hr.out, lf_length]
              rw [hr.out] at hnx
              have HNX := hid hnx
              have hcell := fun w' (b : Below w1.heap.size w1 w') => (b.cell (p := y.add i) (by rw [addr_block]; exact hyb)).trans hy2
              have cl0 := hcell _ hB1.out
              clear hnx hy2 hil hyb
              go_wp2_with (go_at_call 16; fail)
              refine (lleaf_at c r hr _).mono ?_
              rintro e w6 ⟨rfl, hw6⟩
              have G6 := hid (HG1.out.below hw6)
              have B6 := hid (hB1.out.trans (hw6.mono hB1.out.size))
              have iA := tAdd_any G6.out.c r lr (by rw [hnm.out]; omega) (Z1.out.below B6.out hT1)
              rw [← HNX.out] at iA
              clear hw6 HG1 cl0
              go_wp2_with (go_at_call 17; fail)
              refine iA.mono ?_
              rintro e w7 ⟨rfl, F7, T7, M7⟩
              obtain ⟨g, bb⟩ := G6.out.addC M7 T7
              have G7 := hid g
              have B7 := hid (B6.out.trans bb)
              have cl7 := hcell _ B7.out
              clear iA T7 M7 g bb G6 B6
              go_wp2_with (go_at_call 16; fail)
              refine (lleaf_at c r hr _).mono ?_
              rintro e w8 ⟨rfl, hw8⟩
              have G8 := G7.out.below hw8
              obtain ⟨vm', w9, hap, o9, g9⟩ := append_S w8 w1.heap.size _ (L ++ nums os i) r G8.om (by rw [hnm.out]; omega) G8.sz
              rw [← HNX.out] at o9
              obtain ⟨g, bb⟩ := G8.pushM g9 o9
              have G9 := hid g
              have B9 := hid ((B7.out.trans (hw8.mono B7.out.size)).trans bb)
              rw [svS r]
              clear G8 o9 g9 g bb hw8 G7 cl7 hcell
              go_wp2_with (at_builtin; go_must (refine Lib.wpList_append_run _ rfl _ _ 33 33 rfl _ _ rfl rfl _ _ hap ?_); clear hap)
              exact ⟨⟨i + 1, F1', F7, by omega, by go_num, G9, B9⟩, by simp [intOf]; omega⟩
            · have c1 : ¬ (i : Int) < (no : Int) := by omega
              have hG1 := HG1.out
              rw [← nums_more (cs := os) (k := i) (by rw [hno.out]; exact hid')] at hG1
              have HG := hid hG1
              clear hG1
              go_wp2
              exact ⟨⟨i + 1, F1', F2, by omega, by go_num, HG, hB1⟩, by simp [intOf]; omega⟩
        · obtain rfl : i = 100 := by omega
          have c0 : ¬ ((100 : Nat) : Int) < 100 := by omega
          generalize nums ds 100 = M1 at *
          generalize nums os 100 = M2 at *
          have hTt := HG.out.t
          have hTc := HG.out.c
          obtain ⟨x1, hx1⟩ : ∃ x1, Hid (Tree.root (L ++ M1) = x1) := ⟨_, rfl⟩
          obtain ⟨x2, hx2⟩ : ∃ x2, Hid (Tree.root (L ++ M2) = x2) := ⟨_, rfl⟩
          have hP1 : Hid (tPartO (L ++ M1) 0 (nt : Int) = (x1, 0)) := by
            have := tPartO_all (L := L ++ M1)
            rw [hnt.out, hx1.out] at this
            exact this
          have hP2 : Hid (tPartO (L ++ M2) 0 (nm : Int) = (x2, 0)) := by
            have := tPartO_all (L := L ++ M2)
            rw [hnm.out, hx2.out] at this
            exact this
          have hpre : ∀ M : List (List UInt8), Hid (tPartO (L ++ M) 0 (k : Int) = (x0, 0)) := fun M => by
            have h1 := tPartO_nat (L := L ++ M) (b := 0) (e := k) (by omega) (by rw [List.length_append, hn.out]; omega)
            rw [Til.sg_append (by rw [hn.out]; omega)] at h1
            have h2 : Til.sg L 0 k = L := by rw [← hn.out]; exact Til.sg_all L
            rw [h2, hx0.out] at h1
            exact h1
          have hAl : At wr al (L ++ M1) := by assumption
          have hAm : At wr am (L ++ M2) := by assumption
          have hcl : nt ≤ cl ∧ cl ≤ 9223372036854775807 := by
            obtain ⟨a2, c2, h2, _, h4, h5⟩ := HG.out.ol.at
            injection h2 with e1 e2 e3
            rw [hnt.out] at h4
            rw [e3]; exact ⟨h4, h5⟩
          have hcm : nm ≤ cm ∧ cm ≤ 9223372036854775807 := by
            obtain ⟨a2, c2, h2, _, h4, h5⟩ := HG.out.om.at
            injection h2 with e1 e2 e3
            rw [hnm.out] at h4
            rw [e3]; exact ⟨h4, h5⟩
          have Zr := hid (Z1.out.below hB.out hT1)
          have iR1 := fun w' (bb : Below wr.heap.size wr w') => tRoot_any (hTt.below bb) (nt : Int) (Zr.out.below bb Zr.out.lt) hP1
          have iR2 := fun w' (bb : Below wr.heap.size wr w') => tRoot_any (hTc.below bb) (nm : Int) (Zr.out.below bb Zr.out.lt) hP2
          have iQ1 := fun w' (bb : Below wr.heap.size wr w') => Root_hs hTt.hs (by rw [hnt.out]; omega) al cl w' (by rw [hnt.out]; exact hcl.1) hcl.2 (hAl.below bb (Nat.le_refl _)) (Zr.out.below bb Zr.out.lt).t
          have iQ2 := fun w' (bb : Below wr.heap.size wr w') => Root_hs hTc.hs (by rw [hnm.out]; omega) am cm w' (by rw [hnm.out]; exact hcm.1) hcm.2 (hAm.below bb (Nat.le_refl _)) (Zr.out.below bb Zr.out.lt).t
          rw [hnt.out, hx1.out] at iQ1
          rw [hnm.out, hx2.out] at iQ2
          have iP1 := fun w' (bb : Below wr.heap.size wr w') => tRoot_any (hTt.below bb) (k : Int) (Zr.out.below bb Zr.out.lt) (hpre M1)
          have iP2 := fun w' (bb : Below wr.heap.size wr w') => tRoot_any (hTc.below bb) (k : Int) (Zr.out.below bb Zr.out.lt) (hpre M2)
          have iS1 := fun w' (bb : Below wr.heap.size wr w') => tSizeL (hTt.below bb)
          have iS2 := fun w' (bb : Below wr.heap.size wr w') => tSizeL (hTc.below bb)
          rw [hnt.out] at iS1
          rw [hnm.out] at iS2
          rw [svS x1] at iR1 iQ1
          rw [svS x2] at iR2 iQ2
          rw [svS x0] at iP1 iP2 ⊢
          have r1 : ((ByteArray.mk x1.toArray).toList == (ByteArray.mk x1.toArray).toList) = true := by simp
          have r2 : ((ByteArray.mk x2.toArray).toList == (ByteArray.mk x2.toArray).toList) = true := by simp
          have r0 : ((ByteArray.mk x0.toArray).toList == (ByteArray.mk x0.toArray).toList) = true := by simp
          have BB := hid (B1.out.trans (hB.out.mono B1.out.size))
          have iR1' := iR1 _ (Below.refl _ _)
          clear hTt hTc hP1 hP2 hpre hAl hAm HG hB iR1
          go_wp2_with (go_at_call 14; fail)
          refine iR1'.mono ?_
          rintro e v1 ⟨rfl, b1⟩
          have iR2' := iR2 _ b1
          clear iR1' iR2
          go_wp2_with (go_at_call 14; fail)
          refine iR2'.mono ?_
          rintro e v2 ⟨rfl, b2⟩
          have b2 := b1.trans (b2.mono b1.size)
          have iQ1' := iQ1 _ b2
          clear iR2' iQ1
          go_wp2_with (go_at_call 18; fail)
          refine iQ1'.mono ?_
          rintro e v3 ⟨rfl, b3⟩
          have b3 := b2.trans (b3.mono b2.size)
          have iQ2' := iQ2 _ b3
          clear iQ1' iQ2
          go_wp2_with (go_at_call 18; fail)
          refine iQ2'.mono ?_
          rintro e v4 ⟨rfl, b4⟩
          have b4 := b3.trans (b4.mono b3.size)
          have iP1' := iP1 _ b4
          clear iQ2' iP1
          go_wp2_with (go_at_call 14; fail)
          refine iP1'.mono ?_
          rintro e v5 ⟨rfl, b5⟩
          have b5 := b4.trans (b5.mono b4.size)
          have iP2' := iP2 _ b5
          clear iP1' iP2
          go_wp2_with (go_at_call 14; fail)
          refine iP2'.mono ?_
          rintro e v6 ⟨rfl, b6⟩
          have b6 := b5.trans (b6.mono b5.size)
          have iS1' := iS1 _ b6
          have iS2' := iS2 _ b6
          clear iP2' iS1 iS2
          go_wp2_with (first
            | (go_at_call 10; (with_reducible refine iS1'.mono ?_); rintro e w0 ⟨rfl, h0⟩; have h0 := h0.symm; subst h0)
            | (go_at_call 10; (with_reducible refine iS2'.mono ?_); rintro e w0 ⟨rfl, h0⟩; have h0 := h0.symm; subst h0))
          go_ret
          exact ⟨rfl, BB.out.trans (b6.mono BB.out.size)⟩
end Go.Proofs.YtagplmnnbjidmaaDoor
