import Derived.Test.YtfolaldjdefioaaDoorO29
namespace Go.Proofs.YtfolaldjdefioaaDoor
open Go.RowKit
set_option maxRecDepth 100000 in
set_option maxHeartbeats 2000000 in
theorem paths_any (cs : List Int) (at_ : Int) (a : Option Addr) (cap : Nat) (w : World) (hcs : cs.length ≤ 9223372036854775807) (h1 : -9223372036854775808 ≤ at_) (h2 : at_ ≤ 9223372036854775807) (hA : AtI w a cs) (T : Tabs w) :
    Calls Tryd.prog 6 #[.slice a cs.length cap, .int .i64 at_] w fun e w' => e = .returned (.bool true) ∧ Below w.heap.size w w' := by
  have HT := hid T
  have HA := hid hA
  clear T hA
  go_enter Tryd.func6, Tryd.ntmps6
  go_wp2_with (go_at_call 9; fail)
  refine (known_any _ HT.out).mono ?_
  rintro e w1 ⟨rfl, hw1⟩
  have B1 := hid hw1
  have T1 := hid (HT.out.next hw1)
  have A1 := hid (HA.out.below hw1 (Nat.le_refl _))
  clear hw1 HA
  go_wp2_with (go_at_call 12; fail)
  refine (numbered_any cs 300 (by omega) a cap _ hcs A1.out).mono ?_
  rintro e w2 ⟨v, rfl, hO, hw2⟩
  have hs := hid (nums_hs cs 300)
  have hlen := nums_len cs 300
  have B2 := hid (B1.out.trans (hw2.mono B1.out.size))
  have T2 := hid (T1.out.next hw2)
  obtain ⟨a2, cap2, rfl, hA2, hl2, hc2⟩ := hO.at
  have A2 := hid hA2
  clear hO hA2 hw2 B1 T1 A1
  generalize hL : nums cs 300 = L at *
  clear hL
  by_cases h0 : L.length = 0
  · rw [h0]
    go_wp2
    go_ret
    exact ⟨rfl, B2.out⟩
  · obtain ⟨n, hn⟩ : ∃ n : Nat, L.length = n := ⟨_, rfl⟩
    have hn0 : 0 < n := by omega
    have hn3 : n ≤ 300 := by omega
    have z0 : ((n : Int) == 0) = false := by simp; omega
    have hp0 := pk_nonneg at_ n (by omega)
    have hp1 := pk_lt at_ n (by omega)
    obtain ⟨m, hj⟩ : ∃ j : Nat, pk at_ n = (j : Int) := ⟨(pk at_ n).toNat, by omega⟩
    have cp := pick_any at_ n h1 h2 (by omega) (by omega)
    rw [hj] at hp0 hp1 cp
    clear hj
    obtain ⟨x, rfl⟩ := A2.out.pos (by omega)
    have hm : m < L.length := by omega
    have cP := Path_hs hs.out (by omega) m (by omega) (some x) cap2 w2 hl2 hc2 A2.out T2.out
    have cR := fun w' h => Root_hs hs.out (by omega) (some x) cap2 w' hl2 hc2 h
    have cM := fun w' g h hT hI => Many_hs hs.out (by omega) [(m : Int)] (by rw [hn]; exact okI_one n m (by omega)) (some x) (some g) cap2 1 w' hl2 hc2 h hT (by simp) (by omega) hI
    have cW := fun w' => right_any _ L m w' (Nat.le_refl _) (by omega) hm
    have eM : Tree.many (toN [(m : Int)]) 0 L = Tree.lft (Tree.zp m L) ++ Tree.rgt (Tree.zp m L) := by
      have := Tree.many_zp _ m 0 L (Nat.le_refl _) hm
      rw [Nat.zero_add] at this
      rw [← this]
      rfl
    have eP := Tree.path_zp _ m L (Nat.le_refl _)
    have eD := Tree.zp_dg _ m L (Nat.le_refl _)
    have eU := hid (Tree.up_root _ m L hm (Nat.le_refl _))
    have eLen := Tree.lr_len (Tree.zp m L)
    have cD := digits_any (n - 1) (by omega)
    obtain ⟨s0, hs0, hcell0⟩ := A2.out.cell m hm
    have ex0 := hid (A2.out.cell m hm)
    clear hs0 hcell0 s0 ex0
    obtain ⟨h0', hh0⟩ : ∃ h, Hid (L[m] = h) := ⟨L[m], hid rfl⟩
    have hx0 : At w2 (some x) L := A2.out
    obtain ⟨y0, hy0, hyb, hyc⟩ := hx0 m _ (List.getElem?_eq_getElem hm)
    obtain rfl := Option.some.inj hy0
    rw [hh0.out, svS] at hyc
    rw [hh0.out] at eU
    have HC := hid hyc
    clear hx0 hy0 hyc
    rw [eM] at cM
    rw [eP] at cP
    rw [hn] at cP cR cM cW eD hm ⊢
    rw [show (1 : Nat) = [(m : Int)].length from rfl] at cM
    have e1 : ((n - 1 : Nat) : Int) = (n : Int) - 1 := by omega
    rw [e1] at cD
    go_wp2_with (go_at_call 13; fail)
    refine (cp _).mono ?_
    rintro e w' ⟨rfl, rfl⟩
    go_wp2_with (go_at_call 20; fail)
    refine cP.mono ?_
    rintro e w3 ⟨vp, rfl, hOp, hw3⟩
    have B3 := hid (B2.out.trans (hw3.mono B2.out.size))
    have T3 := hid (T2.out.next hw3)
    have A3 := hid (A2.out.below hw3 (Nat.le_refl _))
    have HC3 := hid ((hw3.cell (p := x.add m) (by rw [addr_block]; exact hyb)).trans HC.out)
    obtain ⟨ap, capp, rfl, hAp, hlp, hcp⟩ := hOp.at
    have AP := hid hAp
    dsimp only at hlp
    rw [List.length_map] at hlp
    dsimp only
    rw [List.length_map]
    have hyb3 := Nat.lt_of_lt_of_le hyb hw3.size
    clear hAp hOp hw3 A2 B2 T2 cP cp HC hyb
    go_wp2_with (go_at_call 15; fail)
    refine (cR _ A3.out T3.out).mono ?_
    rintro e w4 ⟨rfl, hw4⟩
    have B4 := hid (B3.out.trans (hw4.mono B3.out.size))
    have T4 := hid (T3.out.next hw4)
    have A4 := hid (A3.out.below hw4 (Nat.le_refl _))
    have AP4 := hid (AP.out.below hw4 (Nat.le_refl _))
    have HC4 := hid ((hw4.cell (p := x.add m) (by rw [addr_block]; exact hyb3)).trans HC3.out)
    have hyb4 := Nat.lt_of_lt_of_le hyb3 hw4.size
    clear hw4 A3 B3 T3 AP cR HC3 hyb3
    have I4 := hid (atI_one w4 (m : Int))
    have hb5 := (Below.refl w4.heap.size w4).alloc (Nat.le_refl _) (.cells #[.int .i64 (m : Int)] 3)
    go_wp2_with (go_at_call 18; fail)
    refine (cM _ ⟨w4.heap.size, 0, none⟩ (A4.out.below hb5 (Nat.le_refl _)) (T4.out.next hb5) I4.out).mono ?_
    rintro e w5 ⟨vo, rfl, hOo, hw5'⟩
    have hw5 := hb5.trans (hw5'.mono hb5.size)
    have B5 := hid (B4.out.trans (hw5.mono B4.out.size))
    have T5 := hid (T4.out.next hw5)
    have AP5 := hid (AP4.out.below hw5 (Nat.le_refl _))
    have HC5 := hid ((hw5.cell (p := x.add m) (by rw [addr_block]; exact hyb4)).trans HC4.out)
    have hyb5 := Nat.lt_of_lt_of_le hyb4 hw5.size
    obtain ⟨ao, capo, rfl, hAo, hlo, hco⟩ := hOo.at
    dsimp only at hlo
    rw [eLen] at hlo
    dsimp only
    rw [eLen]
    have AO := hid hAo
    clear hb5 hw5' hw5 hOo hAo I4 A4 B4 T4 AP4 HC4 hyb4 cM
    go_wp2_with (go_at_call 21; fail)
    refine (cW _).mono ?_
    rintro e w6 ⟨vw, rfl, hOw, hw6⟩
    have B6 := hid (B5.out.trans (hw6.mono B5.out.size))
    have T6 := hid (T5.out.next hw6)
    have AP6 := hid (AP5.out.below hw6 (Nat.le_refl _))
    have AO6 := hid (AO.out.below hw6 (Nat.le_refl _))
    have HC6 := (hw6.cell (p := x.add m) (by rw [addr_block]; exact hyb5)).trans HC5.out
    obtain ⟨aw, capw, rfl, hAw, hlw, hcw⟩ := hOw.atB
    have AW6 := hid hAw
    rw [sides, List.length_map] at hlw ⊢
    clear hw6 hOw hAw B5 T5 AP5 AO HC5 hyb5 cW
    have hzs : (Tree.zp m L).length ≤ 1000000 := by
      have := Tree.path_length _ m L (Nat.le_refl _)
      rw [eP, List.length_map] at this
      omega
    obtain ⟨q, hq⟩ : ∃ q, (Tree.zp m L).length = q := ⟨_, rfl⟩
    rw [hq] at eD hlp hlo hlw hzs eLen ⊢
    have b5 : ¬ ((Tree.dg (n - 1) : Nat) : Int) < (q : Int) := by omega
    have b6 : ((q : Int) != (q : Int)) = false := by simp
    have b7 : ((q : Int) == (q : Int)) = true := by simp
    generalize Tree.dg (n - 1) = D at *
    have b8 : (m : Int) < (n : Int) := by omega
    have b10 : decide (D < q) = false := by simp; omega
    have b11 : ¬ D < q := by omega
    go_wp2_with (go_at_call 22; refine (cD _).mono ?_; rintro e w6' ⟨rfl, rfl⟩)
    go_loopw [16, 17, 18, 19] (fun vh vl vr i w' => ∃ k : Nat, k ≤ q ∧ i = .int .i64 (k : Int) ∧ Hid (Up L m h0' w6'.heap.size w6' k vh vl vr w')) (fun _ _ _ i _ => q - (intOf i).toNat)
    case atStart => exact ⟨0, by omega, rfl, hid ⟨rfl, Own.nil _ _, Own.nil _ _, fun g hg => (by cases hg), Below.refl _ _⟩⟩
    case round =>
      obtain ⟨k, hk, rfl, hU⟩ := hrel
      by_cases hkq : k < q
      · have b9 : (k : Int) < (q : Int) := by omega
        obtain ⟨s, t, hz⟩ : ∃ s t, (Tree.zp m L)[k]? = some (s, t) := ⟨_, _, List.getElem?_eq_getElem (by omega)⟩
        have htk := hid (show (Tree.zp m L).take (k + 1) = (Tree.zp m L).take k ++ [(s, t)] by rw [List.take_add_one, hz]; rfl)
        obtain ⟨xp, rfl, hpb, hpc⟩ := AP6.out k t (by simp [hz])
        obtain ⟨xw, rfl, hwb, hwc⟩ := AW6.out k s (by simp [sides, hz])
        have hpc' := (hU.out.below.cell (p := xp.add k) (by rw [addr_block]; exact hpb)).trans hpc
        have hwc' := (hU.out.below.cell (p := xw.add k) (by rw [addr_block]; exact hwb)).trans hwc
        have hpl := rgt_len ((Tree.zp m L).take k)
        have hll := lft_len ((Tree.zp m L).take k)
        rw [List.length_take] at hpl hll
        have Tr := hid (T6.out.next hU.out.below)
        have hvh := hU.out.h
        have hUl := hU.out.l
        have hUr := hU.out.r
        have hUa := hid hU.out.apart
        have hUb := hid hU.out.below
        have eh := Tree.up_step h0' ((Tree.zp m L).take k) (s, t)
        rw [svS] at hpc'
        clear hpc hwc hz AP6 AW6 HC6 hU
        generalize hzk : (Tree.zp m L).take k = zk at *
        obtain ⟨hc, hhc⟩ : ∃ hc, Tree.up h0' zk = hc := ⟨_, rfl⟩
        rw [hhc] at hvh eh
        subst hvh
        have hUl := hid hUl
        have hUr := hid hUr
        cases s
        · obtain ⟨N, hN⟩ : ∃ N, Hid (Tree.nd t hc = N) := ⟨_, rfl⟩
          have eh' := hid (show Tree.up h0' (zk ++ [(false, t)]) = N by rw [eh]; exact hN.out)
          clear eh
          have hsz := hUb.out.size
          go_wp2_with (first
            | (go_at_call 23; refine (lnode_at t hc N hN _ Tr.out).mono ?_; rintro e w7 ⟨rfl, hw7⟩; have hpc7 := (hw7.cell (p := xp.add k) (by rw [addr_block]; omega)).trans hpc'; obtain ⟨v8, w8, hap, hO8, hb8⟩ := append_list (w7.alloc (.cells #[sv t] 9)) w7.heap.size w6'.heap.size (.slice (some ⟨w7.heap.size, 0, none⟩) 1 1) u17 [t] (Tree.lft zk) (own_one w7 w7.heap.size t (Nat.le_refl _)) ((hUl.out.below hw7 (Nat.le_refl _)).alloc _) (by simp; omega) (by rw [size_alloc]; omega); rw [show sv t = Value.string ⟨t.toArray⟩ from rfl] at hap hb8)
            | (at_builtin; go_must (refine Lib.wpList_append_run _ rfl _ _ 26 26 rfl _ _ rfl rfl _ _ hap ?_)))
          have hs7 := hw7.size
          have hb78 : Below w7.heap.size w7 w8 := ((Below.refl _ _).alloc (Nat.le_refl _) _).trans hb8
          have hnew : ∃ k' : Nat, k' ≤ q ∧ Value.int .i64 ((k : Int) + 1) = .int .i64 (k' : Int) ∧ Hid (Up L m h0' w6'.heap.size w6' k' (sv N) v8 u18 w8) := by
            refine ⟨k + 1, by omega, by go_num, hid ⟨by rw [htk.out, eh'.out], by rw [htk.out, lft_step]; exact hO8.mono (by omega), by rw [htk.out, rgt_skip]; exact (hUr.out.below hw7 (Nat.le_refl _)).below hb78 (Nat.le_refl _), fun g hg hr => ?_, (hUb.out.trans (hw7.mono hsz)).trans (hb78.mono (by omega))⟩⟩
            have x1 := hO8.ge g hg
            have x2 := (hUr.out.below hw7 (Nat.le_refl _)).lt g hr
            omega
          exact ⟨hnew, by simp [intOf]; omega⟩
        · obtain ⟨N, hN⟩ : ∃ N, Hid (Tree.nd hc t = N) := ⟨_, rfl⟩
          have eh' := hid (show Tree.up h0' (zk ++ [(true, t)]) = N by rw [eh]; exact hN.out)
          clear eh
          have hsz := hUb.out.size
          go_wp2_with (first
            | (go_at_call 23; refine (lnode_at hc t N hN _ Tr.out).mono ?_; rintro e w7 ⟨rfl, hw7⟩; have hpc7 := (hw7.cell (p := xp.add k) (by rw [addr_block]; omega)).trans hpc'; obtain ⟨v8, w8, hap, hO8, hb8, hg8, ho8⟩ := append_text2 w7 w6'.heap.size u18 (Tree.rgt zk) t (hUr.out.below hw7 (Nat.le_refl _)) (by omega) (Nat.le_trans hsz hw7.size); rw [show sv t = Value.string ⟨t.toArray⟩ from rfl] at hap)
            | (at_builtin; go_must (refine Lib.wpList_append_run _ rfl _ _ 26 26 rfl _ _ rfl rfl _ _ hap ?_)))
          have hs7 := hw7.size
          have hL7 := hUl.out.below hw7 (Nat.le_refl _)
          have hnew : ∃ k' : Nat, k' ≤ q ∧ Value.int .i64 ((k : Int) + 1) = .int .i64 (k' : Int) ∧ Hid (Up L m h0' w6'.heap.size w6' k' (sv N) u17 v8 w8) := by
            refine ⟨k + 1, by omega, by go_num, hid ⟨by rw [htk.out, eh'.out], by rw [htk.out, lft_skip]; exact hL7.kept hg8.size (fun g hg => hg8.block g (hL7.lt g hg) (fun e => hUa.out g hg e.symm)), by rw [htk.out, rgt_step]; exact hO8, fun g hg hr => ?_, (hUb.out.trans (hw7.mono hsz)).trans hb8⟩⟩
            have x1 := hL7.lt g hg
            rcases ho8 with e | e
            · rw [e] at hr; exact hUa.out g hg hr
            · rw [e] at hr; obtain rfl := Option.some.inj hr; omega
          exact ⟨hnew, by simp [intOf]; omega⟩
      · obtain rfl : k = q := by omega
        have b9 : ¬ (k : Int) < (k : Int) := by omega
        have hvh := hU.out.h
        rw [← hq, List.take_length, eU.out] at hvh
        subst hvh
        have hl' := hU.out.l
        have hr' := hU.out.r
        rw [← hq, List.take_length] at hl' hr'
        have hsz := hU.out.below.size
        rw [List.length_append] at eLen
        obtain ⟨v8, w8, hap, hO8, hb8⟩ := append_list wr w6'.heap.size w6'.heap.size u17 u18 _ _ hl' hr' (by omega) hsz
        have hB8 := hU.out.below.trans hb8
        obtain ⟨a8, c8, rfl, hA8, hl8, hc8⟩ := hO8.at
        have cS := same_yes _ ao a8 capo c8 w8 (AO6.out.below hB8 (Nat.le_refl _)) hA8 (by rw [List.length_append]; omega)
        rw [List.length_append, eLen] at cS hap
        generalize Tree.root L = R at *
        rw [svS R]
        have Bf := hid (B6.out.trans (hB8.mono B6.out.size))
        clear hl' hr' hA8 hO8 hb8 hB8 AO6 AP6 AW6 hU
        go_wp2_with (first
          | (at_builtin; go_must (refine Lib.wpList_append_run _ rfl _ _ 26 26 rfl _ _ rfl rfl _ _ hap ?_))
          | (go_at_call 24; refine cS.mono ?_; rintro e w9 ⟨rfl, hw9, hh9⟩))
        go_ret
        exact ⟨rfl, Bf.out.trans (hw9.mono Bf.out.size)⟩
end Go.Proofs.YtfolaldjdefioaaDoor
