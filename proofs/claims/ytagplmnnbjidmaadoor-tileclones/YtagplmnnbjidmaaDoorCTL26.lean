import Derived.Deep.CutRange
import Derived.Deep.DeepCutAuto
import Derived.Test.YtagplmnnbjidmaaDoorCTL25
namespace Go.Proofs.YtagplmnnbjidmaaDoor
open Go.RowKit
theorem nums_take (cs : List Int) {k M : Nat} (h : k ≤ M) : (nums cs M).take k = nums cs k := by
  unfold nums
  rw [← List.map_take, List.take_take, Nat.min_eq_left h]
set_option maxRecDepth 100000 in
set_option maxHeartbeats 8000000 in
theorem roots_any (ht : Int) (cs ds : List Int) (a d : Option Addr) (ca cd : Nat) (w : World) (h1 : -9223372036854775808 ≤ ht ∧ ht ≤ 9223372036854775807) (hcs : cs.length ≤ 9223372036854775807) (hA : AtI w a cs) (hD : AtI w d ds) (hdr : ∀ c ∈ ds, -9223372036854775808 ≤ c ∧ c ≤ 9223372036854775807) (Z : Tb w) :
    Calls Tryd.prog 5 #[.int .i64 ht, .slice a cs.length ca, .slice d ds.length cd] w fun e w' => e = .returned (.bool true) ∧ Below w.heap.size w w' := by
  have HZ := hid Z
  have HA := hid hA
  have HD := hid hD
  have HDR := hid hdr
  have hT := Z.lt
  clear Z hA hD hdr
  obtain ⟨nc, hnc⟩ : ∃ n : Nat, Hid (cs.length = n) := ⟨_, rfl⟩
  obtain ⟨nd, hnd⟩ : ∃ n : Nat, Hid (ds.length = n) := ⟨_, rfl⟩
  rw [hnc.out] at hcs ⊢
  rw [hnd.out]
  go_enter Tryd.func5, Tryd.ntmps5
  go_wp2_with (go_at_call 7; fail)
  refine (tknown_any _ HZ.out).mono ?_
  rintro e w1 ⟨rfl, hw1⟩
  have B1 := hid hw1
  have i1 := tfilled_any ht cs 300 (by omega) a ca w1 h1.1 h1.2 (by rw [hnc.out]; exact hcs) (HA.out.below hw1 (Nat.le_refl _)) (HZ.out.below hw1 hT)
  rw [show ((300 : Nat) : Int) = 300 from rfl, hnc.out] at i1
  clear hw1
  go_wp2_with (go_at_call 8; fail)
  refine i1.mono ?_
  rintro e w2 ⟨qa, ha, Fa, rfl, hha, Ta0, hFa, hw2⟩
  have B2 := hid (B1.out.trans (hw2.mono B1.out.size))
  have Ta := hid Ta0
  have Z2 := hid (HZ.out.below B2.out hT)
  have hT2 := Z2.out.lt
  have hlen := nums_len cs 300
  have hLs := hid (nums_hs cs 300)
  have hTk := fun k (h : k ≤ 300) => nums_take cs (k := k) (M := 300) h
  clear i1 hw2 hFa hha Ta0 B1
  obtain ⟨L, hL⟩ : ∃ L, nums cs 300 = L := ⟨_, rfl⟩
  have HTk : Hid (∀ k, k ≤ 300 → L.take k = nums cs k) := fun k h => by rw [← hL]; exact hTk k h
  rw [hL] at hlen hLs Ta
  clear hTk hL
  rw [hnc.out] at hlen
  obtain ⟨n, hn⟩ : ∃ n, Hid (L.length = n) := ⟨_, rfl⟩
  rw [hn.out] at hlen
  have hn300 : n ≤ 300 := by omega
  have HLEN := hid hlen
  clear hlen
  go_wp2_with (go_at_call 19; fail)
  refine (fNew_any _ hT2).mono ?_
  rintro e w3 ⟨rfl, E3, b3⟩
  have RG3 : Hid (RG w3 w2.heap.size w2.heap.size [] [] [] (.slice none 0 0) (.slice none 0 0) (fun k => w2.heap.size ≤ k ∧ k < w3.heap.size)) :=
    ⟨EdL.nil E3, Own.nil _ _, Own.nil _ _, fun j h => (by cases h), fun j h => (by cases h), fun j h => (by cases h), fun j h => h.1, b3.size⟩
  have B3 := hid b3
  clear E3 b3
  go_upto_region 7 with (fail)
  go_step
  go_step
  go_step
  go_step
  go_step
  go_step
  go_step
  go_step
  go_cut [10, 11] (fun lv rv w' => ∃ (F : Nat → Prop), Hid (RG w' w2.heap.size w2.heap.size L (rts L n) L rv lv F) ∧ Hid (Below w2.heap.size w2 w'))
  case first =>
    go_wp2
    go_loopw [12, 10, 11] (fun iv lv rv w' => ∃ (k : Nat) (F : Nat → Prop), k ≤ n ∧ iv = .int .i64 (k : Int) ∧ Hid (RG w' w2.heap.size w2.heap.size (L.take k) (rts L k) (L.take k) rv lv F) ∧ Hid (Below w2.heap.size w2 w')) (fun iv _ _ _ => n - (intOf iv).toNat)
    case atStart => exact ⟨0, _, by omega, rfl, RG3, B3⟩
    case round =>
      clear RG3 B3
      obtain ⟨k, F, hk, rfl, hG, hB⟩ := hrel
      obtain ⟨al, cl, rfl, _, _, _⟩ := hG.out.ol.at
      obtain ⟨ar, cr, rfl, _, _, _⟩ := hG.out.or.at
      have hlt : (L.take k).length = k := by rw [List.length_take, hn.out]; omega
      have hG0 := hG.out
      rw [hlt, rts_len] at hG0 ⊢
      have HG := hid hG0
      clear hG hG0
      by_cases hkn : k < n
      · have c0 : (k : Int) < (nc : Int) := by have := HLEN.out; omega
        have c1 : (k : Int) < 300 := by omega
        have hkc : k < cs.length := by have := HLEN.out; rw [hnc.out]; omega
        obtain ⟨y, rfl, hyb, hy2⟩ := (HA.out.below B2.out (Nat.le_refl _)) k cs[k] (List.getElem?_eq_getElem hkc)
        have hnx : L.take (k + 1) = L.take k ++ [lf cs[k]] := by rw [HTk.out (k + 1) (by omega), nums_succ cs k hkc, HTk.out k (by omega)]
        generalize cs[k] = c at *
        obtain ⟨r, hr⟩ : ∃ r, Hid (lf c = r) := ⟨_, rfl⟩
        have lr : r.length = 32 := by rw [← hr.out, lf_length]
        rw [hr.out] at hnx
        have HNX := hid hnx
        have hcell := fun w' (b : Below w2.heap.size w2 w') => (b.cell (p := y.add k) (by rw [addr_block]; exact hyb)).trans hy2
        obtain ⟨R, hR⟩ : ∃ R, Hid (Tree.root (L.take k) = R) := ⟨_, rfl⟩
        have iR := fRootL HG.out.ed (Z2.out.below hB.out hT2).t hR
        rw [svS R] at iR
        clear hnx hy2 hkc hyb
        go_wp2_with (go_at_call 20; fail)
        refine iR.mono ?_
        rintro e w4 ⟨rfl, hw4⟩
        have G4 := HG.out.below hw4
        obtain ⟨vr', w5, hap, o5, g5⟩ := append_S w4 w2.heap.size _ (rts L k) R G4.or (by rw [rts_len]; omega) G4.sz
        rw [← hR.out, ← rts_succ] at o5
        obtain ⟨g, bb⟩ := G4.pushR g5 o5
        obtain ⟨ar', cr', rfl, _, _, _⟩ := o5.at
        rw [rts_len] at hap g
        have G5 := hid g
        have B5 := hid ((hB.out.trans (hw4.mono hB.out.size)).trans bb)
        have cl5 := hcell _ B5.out
        clear iR G4 o5 g5 g bb hw4 HG
        go_wp2_with (first
          | (at_builtin; go_must (refine Lib.wpList_append_run _ rfl _ _ 33 33 rfl _ _ rfl rfl _ _ hap ?_); clear hap)
          | (go_at_call 16; fail))
        refine (lleaf_at c r hr _).mono ?_
        rintro e w6 ⟨rfl, hw6⟩
        have G6 := G5.out.below hw6
        obtain ⟨vl', w7, hap, o7, g7⟩ := append_S w6 w2.heap.size _ (L.take k) r G6.ol (by rw [hlt]; omega) G6.sz
        rw [← HNX.out] at o7
        obtain ⟨g, bb⟩ := G6.pushL g7 o7
        obtain ⟨al', cl', rfl, _, _, _⟩ := o7.at
        have hlt2 : (L.take (k + 1)).length = k + 1 := by rw [List.length_take, hn.out]; omega
        rw [hlt2] at hap g
        have G7 := hid g
        have B7 := hid ((B5.out.trans (hw6.mono B5.out.size)).trans bb)
        have cl7 := hcell _ B7.out
        rw [svS r]
        clear G6 o7 g7 g bb hw6 G5 cl5
        go_wp2_with (first
          | (at_builtin; go_must (refine Lib.wpList_append_run _ rfl _ _ 33 33 rfl _ _ rfl rfl _ _ hap ?_); clear hap)
          | (go_at_call 16; fail))
        refine (lleaf_at c r hr _).mono ?_
        rintro e w8 ⟨rfl, hw8⟩
        have G8 := hid (G7.out.below hw8)
        have B8 := hid (B7.out.trans (hw8.mono B7.out.size))
        have iA := fAddL G8.out.ed r lr (by rw [hlt]; omega) (Z2.out.below B8.out hT2).t
        rw [← HNX.out] at iA
        clear G7 hw8 cl7
        go_wp2_with (go_at_call 21; fail)
        refine iA.mono ?_
        rintro e w9 ⟨rfl, F9, E9, M9⟩
        obtain ⟨g, bb⟩ := G8.out.add M9 E9
        have G9 := hid g
        have B9 := hid (B8.out.trans bb)
        clear iA E9 M9 g bb G8
        go_wp2
        exact ⟨⟨k + 1, F9, by omega, by go_num, G9, B9⟩, by simp [intOf]; omega⟩
      · obtain rfl : k = n := by omega
        have hLk : L.take k = L := by rw [← hn.out]; exact List.take_length
        have hG1 := HG.out
        rw [hLk] at hG1
        have HG := hid hG1
        by_cases hkc : k < nc
        · have c0 : (k : Int) < (nc : Int) := by omega
          have c1 : ¬ (k : Int) < 300 := by have := HLEN.out; omega
          go_wp2
          go_meet
          exact ⟨F, HG, hB⟩
        · have c0 : ¬ (k : Int) < (nc : Int) := by omega
          go_wp2
          go_meet
          exact ⟨F, HG, hB⟩
  case rest =>
    obtain ⟨F, hG, hB⟩ := hcut
    obtain ⟨w4, rfl⟩ : ∃ w4, w4 = wc := ⟨_, rfl⟩
    clear RG3 B3 HA HTk HLEN
    obtain ⟨al, cl, rfl, _, hll, hcl⟩ := hG.out.ol.at
    obtain ⟨ar, cr, rfl, _, _, _⟩ := hG.out.or.at
    have hG0 := hG.out
    rw [hn.out, rts_len] at hG0
    rw [hn.out] at hll
    rw [hn.out, rts_len]
    have hNone : Hid (al = none → cl = 0) := fun e => by
      rcases hG0.ol with ⟨h, _⟩ | ⟨g, cap, h, _⟩
      · injection h
      · injection h with h; rw [h] at e; cases e
    have HG := hid hG0
    clear hG hG0
    obtain ⟨R, hR⟩ : ∃ R, Hid (Tree.root L = R) := ⟨_, rfl⟩
    have iR := fRootL HG.out.ed (Z2.out.below hB.out hT2).t hR
    rw [svS R] at iR
    go_wp2_with (go_at_call 20; fail)
    refine iR.mono ?_
    rintro e w5 ⟨rfl, hw5⟩
    have G5 := HG.out.below hw5
    obtain ⟨vr', w6, hap, o6, g6⟩ := append_S w5 w2.heap.size _ (rts L n) R G5.or (by rw [rts_len]; omega) G5.sz
    have eL : L.take n = L := by rw [← hn.out]; exact List.take_length
    rw [← hR.out, show rts L n ++ [Tree.root L] = rts L (n + 1) by rw [rts_succ, eL]] at o6
    obtain ⟨g, bb⟩ := G5.pushR g6 o6
    obtain ⟨ar', cr', rfl, hAr, _, _⟩ := o6.at
    have hAl : At w6 al L := by
      obtain ⟨a2, c2, h2, hA2, _, _⟩ := g.ol.at
      injection h2 with e1 e2 e3
      rw [e1]; exact hA2
    rw [rts_len] at hap
    have AR := hid hAr
    have AL := hid hAl
    have B6 := hid ((hB.out.trans (hw5.mono hB.out.size)).trans bb)
    have T6 := hid (Ta.out.below B6.out)
    have Z6 := hid (Z2.out.below B6.out hT2)
    have D6 := hid (HD.out.below (B2.out.trans (B6.out.mono B2.out.size)) (Nat.le_refl _))
    have BW := hid (B2.out.trans (B6.out.mono B2.out.size))
    have hT6 := Z6.out.lt
    clear iR G5 o6 g6 g bb hw5 HG hB hAr hAl B6 Ta Z2 HD B2 eL
    go_wp2_with (at_builtin; go_must (refine Lib.wpList_append_run _ rfl _ _ 33 33 rfl _ _ rfl rfl _ _ hap ?_); clear hap)
    go_loopw [14] (fun iv w' => ∃ (k : Nat), k ≤ n + 1 ∧ iv = .int .i64 (k : Int) ∧ Hid (Below w6.heap.size w6 w')) (fun iv _ => n + 1 - (intOf iv).toNat)
    case atStart => exact ⟨0, by omega, rfl, Below.refl _ _⟩
    case round =>
      obtain ⟨k, hk, rfl, hB⟩ := hrel
      by_cases hkn : k < n + 1
      · have c0 : (k : Int) < (n : Int) + 1 := by omega
        obtain ⟨x, hx⟩ : ∃ x, Tree.root (L.take k) = x := ⟨_, rfl⟩
        obtain ⟨y, rfl, hyb, hy⟩ := AR.out k x (by rw [rts_get hkn, hx])
        have hP : Hid (tPartO L 0 (k : Int) = (x, 0)) := by
          have h1 := tPartO_nat (L := L) (b := 0) (e := k) (by omega) (by rw [hn.out]; omega)
          unfold Til.sg at h1
          rw [List.drop_zero, hx] at h1
          exact h1
        have iR := tRoot_any (T6.out.below hB.out) (k : Int) (Z6.out.below hB.out hT6) hP
        have hcell := fun w' (b : Below w6.heap.size w6 w') => (b.cell (p := y.add k) (by rw [addr_block]; exact hyb)).trans hy
        rw [svS x] at iR hcell
        have rr1 : ((ByteArray.mk x.toArray).toList != (ByteArray.mk x.toArray).toList) = false := by simp
        clear hx hP hy
        go_wp2_with (go_at_call 14; fail)
        refine iR.mono ?_
        rintro e w7 ⟨rfl, hw7⟩
        have B7 := hid (hB.out.trans (hw7.mono hB.out.size))
        have c7 := hcell _ B7.out
        clear iR hcell hw7
        go_wp2
        exact ⟨⟨k + 1, by omega, by go_num, B7⟩, by simp [intOf]; omega⟩
      · obtain rfl : k = n + 1 := by omega
        have c0 : ¬ (((n + 1 : Nat) : Int)) < (n : Int) + 1 := by omega
        go_wp2
        go_loopw [17] (fun iv w' => ∃ (k : Nat), k ≤ 22 ∧ iv = .int .i64 (k : Int) ∧ Hid (Below w6.heap.size w6 w')) (fun iv _ => 22 - (intOf iv).toNat)
        case atStart => exact ⟨0, by omega, rfl, hB⟩
        case round =>
          clear hB
          obtain ⟨k, hk, rfl, hB⟩ := hrel
          have k1 : IntKind.i64.wrap ((k : Int) + 1) = ((k + 1 : Nat) : Int) := by rw [wrap_small _ (by omega) (by omega)]; omega
          obtain ⟨k', hk'⟩ : ∃ k' : Nat, Hid (k + 1 = k') := ⟨_, rfl⟩
          rw [hk'.out] at k1
          by_cases hgo : k' < nd ∧ k < 20
          · obtain ⟨g1, g2⟩ := hgo
            have c0 : (k' : Int) < (nd : Int) := by omega
            have c1 : (k : Int) < 20 := by omega
            have hkl : k < ds.length := by rw [hnd.out]; have := hk'.out; omega
            have hkl' : k' < ds.length := by rw [hnd.out]; exact g1
            obtain ⟨y, rfl, hyb, hy⟩ := D6.out k ds[k] (List.getElem?_eq_getElem hkl)
            obtain ⟨y', hyy, _, hy'⟩ := D6.out k' ds[k'] (List.getElem?_eq_getElem hkl')
            injection hyy with hyy
            subst hyy
            have e1 := HDR.out ds[k] (List.getElem_mem hkl)
            have e2 := HDR.out ds[k'] (List.getElem_mem hkl')
            generalize ds[k] = x1 at *
            generalize ds[k'] = x2 at *
            have q0 : (0 : Int) ≤ (k : Int) := by omega
            have q1 : (k : Int) < (nd : Int) := by have := hk'.out; omega
            have q2 : (0 : Int) ≤ (k' : Int) := by omega
            have bl1 : (y.add k).block < w6.heap.size := by rw [addr_block]; exact hyb
            have bl2 : (y.add k').block < w6.heap.size := by rw [addr_block]; exact hyb
            have S0 : S22 (y.add k) (y.add k') (.int .i64 x1) (.int .i64 x2) wr := S22.below ⟨hy, hy'⟩ hB.out bl1 bl2
            have hsz := hB.out.size
            have bl1' : (y.add k).block < wr.heap.size := Nat.lt_of_lt_of_le bl1 hsz
            have bl2' : (y.add k').block < wr.heap.size := Nat.lt_of_lt_of_le bl2 hsz
            have SZ := S0.below ((Below.refl wr.heap.size wr).alloc (Nat.le_refl _) (.cells #[Value.int .i64 0, .int .i64 0] 47)) bl1' bl2'
            obtain ⟨jA, jB⟩ := span_both x1 x2 n (by omega) e1 e2 wr
            clear hy hy' hkl hkl' hyb
            go_upto_region 26 with (fail)
            go_cut [18] from 100 to 167 (fun v w' => ∃ g b e : Nat, v = .pointer (some ⟨g, 0, none⟩) ∧ b ≤ e ∧ e ≤ n ∧ Hid (Sn wr w' g b e))
            case first =>
              go_region_held3 (fun w' => w'.cell? (y.add k) = some (.int .i64 x1) ∧ w'.cell? (y.add k') = some (.int .i64 x2)) (first | exact S0 | exact SZ | exact S9 | exact S9z | exact S9n) (first
                | (go_at_call 22; (with_reducible refine jA.mono ?_); rintro r w9 ⟨b, e, rfl, hbe, hen, hB9, H9⟩; have S9 := S0.below hB9.out bl1' bl2'; have S9z := S9.below ((Below.refl w9.heap.size w9).alloc (Nat.le_refl _) (.cells #[Value.int .i64 0, .int .i64 0] 47)) (Nat.lt_of_lt_of_le bl1' hB9.out.size) (Nat.lt_of_lt_of_le bl2' hB9.out.size); have S9n := S0.below H9.out.2 bl1' bl2')
                | (go_at_call 22; (with_reducible refine jB.mono ?_); rintro r w9 ⟨b, e, rfl, hbe, hen, hB9, H9, R9⟩; have S9 := S0.below hB9.out bl1' bl2'; have d0 : w9.cell? ⟨wr.heap.size, 0, none⟩ = some (.int .i64 0) := (by rw [cell_of_row _ _ _ _ _ _ R9]; rfl); have d1 : w9.cell? ⟨wr.heap.size, 1, none⟩ = some (.int .i64 0) := (by rw [cell_of_row _ _ _ _ _ _ R9]; rfl); have f0 : w9.frozen? ⟨wr.heap.size, 0, none⟩ = false := frozen_of_row _ _ _ _ _ R9; have f1 : w9.frozen? ⟨wr.heap.size, 1, none⟩ = false := frozen_of_row _ _ _ _ _ R9; have S9n := S0.below H9.out.2 bl1' bl2'))
              all_goals
                go_wp2_with fail
                go_meet
                exact ⟨_, _, _, rfl, hbe, hen, H9⟩
            case rest =>
              obtain ⟨g, b, e, rfl, hbe, hen, HS⟩ := hcut
              obtain ⟨w7, rfl⟩ : ∃ w7, w7 = wc := ⟨_, rfl⟩
              clear jA jB S0 SZ
              have B7 := hid (hB.out.trans (HS.out.2.mono hB.out.size))
              have gl : g < w7.heap.size := lt_of_heap HS.out.1
              have c70 : w7.cell? ⟨g, 0, none⟩ = some (.int .i64 (b : Int)) := by rw [cell_of_row _ _ _ _ _ _ HS.out.1]; rfl
              have c71 : w7.cell? ⟨g, 1, none⟩ = some (.int .i64 (e : Int)) := by rw [cell_of_row _ _ _ _ _ _ HS.out.1]; rfl
              have C0 := hid c70
              have C1 := hid c71
              obtain ⟨x, hx⟩ : ∃ x, Hid (Tree.root (Til.sg L b e) = x) := ⟨_, rfl⟩
              have heL : e ≤ L.length := by rw [hn.out]; exact hen
              have hP : Hid (tPartO L (b : Int) (e : Int) = (x, 0)) := by
                have h1 := tPartO_nat (L := L) hbe heL
                rw [hx.out] at h1
                exact h1
              have iP := tPart_any (T6.out.below B7.out) (b : Int) (e : Int) (Z6.out.below B7.out hT6) hP
              have iQ := fun w' (bb : Below w6.heap.size w6 w') => Part_nat hLs.out (by rw [hn.out]; omega) hbe heL al cl w' (by rw [hn.out]; exact hll) hcl (AL.out.below bb (Nat.le_refl _)) (Z6.out.below bb hT6).t
              rw [hn.out, hx.out] at iQ
              have iL := fun w' (bb : Below w6.heap.size w6 w') => tLeaves_any (T6.out.below bb) b e hbe heL
              rw [svS x] at iP iQ
              have rr1 : ((ByteArray.mk x.toArray).toList != (ByteArray.mk x.toArray).toList) = false := by simp
              clear hP c70 c71
              have c70 := C0.out
              have c71 := C1.out
              go_upto_region 30 with (go_at_call 23; fail)
              refine iP.mono ?_
              rintro r w8 ⟨rfl, hw8⟩
              have B8 := hid (B7.out.trans (hw8.mono B7.out.size))
              have c80 := (hw8.cell (p := ⟨g, 0, none⟩) gl).trans C0.out
              have c81 := (hw8.cell (p := ⟨g, 1, none⟩) gl).trans C1.out
              have gl8 : g < w8.heap.size := Nat.lt_of_lt_of_le gl hw8.size
              have C80 := hid c80
              have C81 := hid c81
              have iQ8 := iQ _ B8.out
              clear iP iQ c70 c71 hw8 B7
              go_upto_region 30 with (go_at_call 24; fail)
              refine iQ8.mono ?_
              rintro r w9 ⟨rfl, hw9⟩
              have B9 := hid (B8.out.trans (hw9.mono B8.out.size))
              have c90 := (hw9.cell (p := ⟨g, 0, none⟩) gl8).trans C80.out
              have c91 := (hw9.cell (p := ⟨g, 1, none⟩) gl8).trans C81.out
              have gl9 : g < w9.heap.size := Nat.lt_of_lt_of_le gl8 hw9.size
              have C90 := hid c90
              have C91 := hid c91
              have iL9 := iL _ B9.out
              clear iQ8 iL c80 c81 hw9 B8
              go_upto_region 30 with (go_at_call 25; fail)
              refine iL9.mono ?_
              rintro r w10 ⟨gL, hgL, rfl, RL, hw10⟩
              have B10 := hid (B9.out.trans (hw10.mono B9.out.size))
              have c100 := (hw10.cell (p := ⟨g, 0, none⟩) gl9).trans C90.out
              have c101 := (hw10.cell (p := ⟨g, 1, none⟩) gl9).trans C91.out
              have RL := hid RL
              clear iL9 c90 c91 hw10 B9
              go_upto_region 30 with (fail)
              go_cut [25] from 100 to 167 (fun v w' => v = .bool true ∧ Hid (Below w6.heap.size w6 w'))
              case first =>
                have hsl : (Til.sg L b e).length = e - b := Til.sg_len heL
                have AL10 := AL.out.below B10.out (Nat.le_refl _)
                have m0 : (0 : Int) ≤ (b : Int) := by omega
                have m1 : (b : Int) ≤ (e : Int) := by omega
                have m2 : (e : Int) ≤ (cl : Int) := by omega
                have iS := fun (c' : Nat) (a' : Option Addr) (hh : At w10 a' (Til.sg L b e)) => same_yes (Til.sg L b e) (some ⟨gL, 0, none⟩) a' (e - b) c' w10 RL.out.at hh (by rw [hsl]; omega)
                rw [hsl] at iS
                cases al with
                | none =>
                  have hcl0 := hNone.out rfl
                  have jS := iS (cl - b) none (fun j p hp => by have := (List.getElem?_eq_some_iff.1 hp).1; omega)
                  clear iS AL10 hsl hcl0
                  go_wp2_with (go_at_call 26; refine jS.mono ?_; rintro r w11 ⟨rfl, hw11, _⟩)
                  go_meet
                  exact ⟨rfl, hid (B10.out.trans (hw11.mono B10.out.size))⟩
                | some xl =>
                  by_cases hclb : cl = b
                  · have hcl2 : cl - b = 0 := by omega
                    have jS := iS 0 (some xl) (fun j p hp => by have := (List.getElem?_eq_some_iff.1 hp).1; omega)
                    clear iS AL10 hsl hclb
                    go_wp2_with (go_at_call 26; refine jS.mono ?_; rintro r w11 ⟨rfl, hw11, _⟩)
                    go_meet
                    exact ⟨rfl, hid (B10.out.trans (hw11.mono B10.out.size))⟩
                  · have jS := iS (cl - b) (some (xl.add b)) ((AL10.take e).drop b)
                    clear iS AL10 hsl
                    go_wp2_with (go_at_call 26; refine jS.mono ?_; rintro r w11 ⟨rfl, hw11, _⟩)
                    go_meet
                    exact ⟨rfl, hid (B10.out.trans (hw11.mono B10.out.size))⟩
              case rest =>
                obtain ⟨rfl, B11⟩ := hcut
                obtain ⟨w11, rfl⟩ : ∃ w11, w11 = wc := ⟨_, rfl⟩
                have k2 : IntKind.i64.wrap ((k : Int) + 2) = ((k + 2 : Nat) : Int) := by rw [wrap_small _ (by omega) (by omega)]; omega
                clear c100 c101
                go_wp2
                exact ⟨⟨k + 2, by omega, by go_num, B11⟩, by simp [intOf]; omega⟩
          · have iS := tSizeL (T6.out.below hB.out)
            rw [hn.out] at iS
            have BB := hid (BW.out.trans (hB.out.mono BW.out.size))
            by_cases h1 : k' < nd
            · have c0 : (k' : Int) < (nd : Int) := by omega
              have c1 : ¬ (k : Int) < 20 := by omega
              go_wp2_with (go_at_call 10; refine iS.mono ?_; rintro e w0 ⟨rfl, h0⟩; have h0 := h0.symm; subst h0)
              go_ret
              exact ⟨rfl, BB.out⟩
            · have c0 : ¬ (k' : Int) < (nd : Int) := by omega
              go_wp2_with (go_at_call 10; refine iS.mono ?_; rintro e w0 ⟨rfl, h0⟩; have h0 := h0.symm; subst h0)
              go_ret
              exact ⟨rfl, BB.out⟩
end Go.Proofs.YtagplmnnbjidmaaDoor
