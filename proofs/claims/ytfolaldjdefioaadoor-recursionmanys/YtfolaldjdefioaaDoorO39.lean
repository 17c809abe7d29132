import Derived.Test.YtfolaldjdefioaaDoorO38
namespace Go.Proofs.YtfolaldjdefioaaDoor
open Go.RowKit
set_option maxRecDepth 100000 in
set_option maxHeartbeats 2000000 in
theorem manys_any (cs ds : List Int) (a a' : Option Addr) (cap cap' : Nat) (w : World) (hcs : cs.length ≤ 9223372036854775807) (hds : ds.length ≤ 9223372036854775807) (hdr : ∀ c ∈ ds, -9223372036854775808 ≤ c ∧ c ≤ 9223372036854775807) (hA : AtI w a cs) (hD : AtI w a' ds) (T : Tabs w) :
    Calls Tryd.prog 5 #[.slice a cs.length cap, .slice a' ds.length cap'] w fun e w' => e = .returned (.bool true) ∧ Below w.heap.size w w' := by
  have HT := hid T
  have HA := hid hA
  have HD := hid hD
  clear T hA hD
  go_enter Tryd.func5, Tryd.ntmps5
  go_wp2_with (go_at_call 9; fail)
  refine (known_any _ HT.out).mono ?_
  rintro e w1 ⟨rfl, hw1⟩
  have B1 := hid hw1
  have T1 := hid (HT.out.next hw1)
  have A1 := hid (HA.out.below hw1 (Nat.le_refl _))
  clear hw1 HA
  go_wp2_with (go_at_call 12; fail)
  refine (numbered_any cs 200 (by omega) a cap _ hcs A1.out).mono ?_
  rintro e w2 ⟨v, rfl, hO, hw2⟩
  have hs := hid (nums_hs cs 200)
  have hlen := nums_len cs 200
  have B2 := hid (B1.out.trans (hw2.mono B1.out.size))
  have T2 := hid (T1.out.next hw2)
  obtain ⟨a2, cap2, rfl, hA2, hl2, hc2⟩ := hO.at
  have A2 := hid hA2
  clear hO hA2 hw2 B1 T1 A1
  generalize hL : nums cs 200 = L at *
  clear hL
  by_cases h0 : L.length = 0
  · rw [h0]
    go_wp2
    go_ret
    exact ⟨rfl, B2.out⟩
  · obtain ⟨n, hn⟩ : ∃ n : Nat, L.length = n := ⟨_, rfl⟩
    have hn0 : 0 < n := by omega
    have hn3 : n ≤ 200 := by omega
    have z0 : ((n : Int) == 0) = false := by simp; omega
    obtain ⟨m, hm⟩ : ∃ m : Nat, ds.length = m := ⟨_, rfl⟩
    rw [hm] at hds
    rw [hn, hm]
    have hmk := make_bools w2 n (by omega)
    have R3 := hid (show RowB (w2.alloc (.cells (bls (List.replicate n false)).toArray 4)) w2.heap.size (List.replicate n false) from heap_alloc_new w2 _)
    have W3 := hid ((Below.refl w2.heap.size w2).alloc (Nat.le_refl _) (.cells (bls (List.replicate n false)).toArray 4))
    generalize w2.alloc (.cells (bls (List.replicate n false)).toArray 4) = w3 at *
    go_wp2
    clear hmk
    have D2 := hid (HD.out.below B2.out (Nat.le_refl _))
    have sB := B2.out.size
    go_loopw [9] (fun i w' => ∃ (k : Nat) (wt : List Bool), k ≤ m ∧ wt.length = n ∧ i = .int .i64 (k : Int) ∧ Hid (RowB w' w2.heap.size wt) ∧ Hid (Below w2.heap.size w2 w')) (fun i _ => m - (intOf i).toNat)
    case atStart => exact ⟨0, _, by omega, by simp, rfl, R3, W3⟩
    case round =>
      clear R3 W3
      obtain ⟨k, wt, hk, hwl, rfl, hR, hB⟩ := hrel
      by_cases hkm : k < m
      · have q0 : (k : Int) < (m : Int) := by omega
        obtain ⟨c, hcc⟩ : ∃ c, ds[k]? = some c := ⟨_, List.getElem?_eq_getElem (by omega)⟩
        have hcr := hdr c (List.mem_of_getElem? hcc)
        obtain ⟨x, rfl, _, hcell⟩ := D2.out.below hB.out (Nat.le_refl _) k c hcc
        have hp0 := pk_nonneg c n (by omega)
        have hp1 := pk_lt c n (by omega)
        obtain ⟨j, hj⟩ : ∃ j : Nat, pk c n = (j : Int) := ⟨(pk c n).toNat, by omega⟩
        have cp := pick_any c n hcr.1 hcr.2 (by omega) (by omega)
        rw [hj] at hp0 hp1 cp
        have hjn : j < wt.length := by omega
        have ch := hR.out.cell (List.getElem?_eq_getElem hjn)
        have fz := hR.out.free hjn
        have R' := hid (hR.out.set j true)
        have B' := hid (hB.out.setCell (p := ⟨w2.heap.size, j, none⟩) (Nat.le_refl _) (.bool true))
        clear hj hR hB hcc
        go_wp2_with (go_at_call 13; refine (cp _).mono ?_; rintro e w' ⟨rfl, hw'⟩; rw [hw']; clear hw' w')
        exact ⟨⟨k + 1, _, by omega, by rw [List.length_set]; exact hwl, by go_num, R', B'⟩, by simp [intOf]; omega⟩
      · obtain rfl : k = m := by omega
        have q0 : ¬ (k : Int) < (k : Int) := by omega
        have R4 := hid hR.out
        have W4 := hid hB.out
        have hlt4 := hR.out.lt
        clear hR hB
        go_wp2
        rename World => w4
        go_loopw [10, 11] (fun v i w' => ∃ k : Nat, k ≤ n ∧ i = .int .i64 (k : Int) ∧ Hid (Own w' w4.heap.size v (ivs (ix (Tree.wi wt 0 k)))) ∧ Hid (Below w4.heap.size w4 w')) (fun _ i _ => n - (intOf i).toNat)
        case atStart => exact ⟨0, by omega, rfl, Own.nil _ _, Below.refl _ _⟩
        case round =>
          obtain ⟨k', hk', rfl, hO, hB⟩ := hrel
          by_cases hkn : k' < n
          · have q1 : (k' : Int) < (n : Int) := by omega
            obtain ⟨s, hs'⟩ : ∃ s, wt[k']? = some s := ⟨_, List.getElem?_eq_getElem (by omega)⟩
            have ch := (R4.out.below hB.out hlt4).cell hs'
            have hsucc := Tree.wi_succ wt 0 k'
            have hgd : wt.getD (0 + k') false = s := by rw [Nat.zero_add, List.getD_eq_getElem?_getD, hs']; rfl
            rw [hgd, Nat.zero_add] at hsucc
            have hwn := Tree.wi_length wt 0 k'
            have sz := hB.out.size
            cases s
            · have O' : Hid (Own wr w4.heap.size u10 (ivs (ix (Tree.wi wt 0 (k' + 1))))) := by
                unfold Hid; rw [hsucc]; simpa using hO.out
              go_wp2
              exact ⟨⟨k' + 1, by omega, by go_num, O', hB⟩, by simp [intOf]; omega⟩
            · obtain ⟨v5, w5, hap, hO5, hb5⟩ := append_int wr w4.heap.size u10 (ix (Tree.wi wt 0 k')) (k' : Int) hO.out (by rw [ix_len]; omega) sz
              have O' : Hid (Own w5 w4.heap.size v5 (ivs (ix (Tree.wi wt 0 (k' + 1))))) := by
                unfold Hid; rw [hsucc]; simpa [ix] using hO5
              have B' := hid (hB.out.trans hb5)
              clear hO5 hb5
              go_wp2_with (at_builtin; go_must (refine Lib.wpList_append_run _ rfl _ _ 25 25 rfl _ _ rfl rfl _ _ hap ?_))
              exact ⟨⟨k' + 1, by omega, by go_num, O', B'⟩, by simp [intOf]; omega⟩
          · obtain rfl : k' = n := by omega
            have q1 : ¬ (k' : Int) < (k' : Int) := by omega
            have Wf := hid (W4.out.trans (hB.out.mono (by have := W4.out.size; omega)))
            have Bf := hid (B2.out.trans (Wf.out.mono sB))
            have Tf := hid (T2.out.next Wf.out)
            have Lf := hid (A2.out.below Wf.out (Nat.le_refl _))
            have Rf := hid (R4.out.below hB.out hlt4).at
            obtain ⟨ai, ci, rfl, hAi, hli, hci⟩ := hO.out.atI
            rw [ix_len] at hli ⊢
            have hwn := Tree.wi_length wt 0 k'
            have hwm := Tree.wi_many _ wt 0 L (Nat.le_refl _) (by omega)
            rw [hn] at hwm
            have hAI := hid hAi
            clear hO hB W4 B2 T2 A2 R4 hAi D2
            by_cases hw0 : Tree.wi wt 0 k' = []
            · have cM := Many_any L (ix (Tree.wi wt 0 k')) a2 ai cap2 ci wr hl2 hc2 Lf.out Tf.out (by rw [ix_len]; exact hli) hci hAI.out
              have ho : manyOut L (ix (Tree.wi wt 0 k')) = ([], 30) := by
                rw [manyOut, if_pos (wrg_hs hs.out (by omega)), if_neg (fun h => by have := h.pos; rw [hw0] at this; simp [ix] at this)]
              rw [ho, ix_len, hw0, hn] at cM
              rw [hw0]
              clear ho hwm hwn hAI Rf hli hw0
              go_wp2_with (go_at_call 18; fail)
              refine cM.mono ?_
              rintro e w6 ⟨vp, rfl, hOp, hw6⟩
              obtain ⟨ap, cpp, rfl, _, _, _⟩ := hOp.at
              go_wp2
              go_ret
              exact ⟨rfl, Bf.out.trans (hw6.mono Bf.out.size)⟩
            · have cM := Many_hs hs.out (by omega) (ix (Tree.wi wt 0 k')) (by rw [hn]; exact wi_ok wt k' hwl hn3 hw0) a2 ai cap2 ci wr hl2 hc2 Lf.out Tf.out (by rw [ix_len]; exact hli) hci hAI.out
              rw [toN_ix, ix_len, hn] at cM
              have cR := fun w' h => Root_hs hs.out (by omega) a2 cap2 w' hl2 hc2 h
              have cT := fun (ap : Option Addr) (cpp : Nat) w' g1 g2 g3 g4 g5 g6 => told_any L wt (by omega) (by omega) a2 (some ⟨w2.heap.size, 0, none⟩) cap2 k' _ 0 k' k' [] ap cpp w' (Nat.le_refl _) (by omega) (by omega) (by omega) g1 g2 g3 g4 g5 g6
              rw [List.drop_zero, show L.take k' = L from List.take_of_length_le (by omega), List.append_nil, show ((0 : Nat) : Int) = 0 from rfl, hwl] at cT
              rw [hn] at cR cT
              obtain ⟨ni, hni⟩ : ∃ ni, (Tree.wi wt 0 k').length = ni := ⟨_, rfl⟩
              have hni0 : 0 < ni := by rw [← hni]; exact List.length_pos_iff.2 hw0
              rw [hni] at cM hwm hwn hli ⊢
              have hz : ((ni : Int) == 0) = false := by simp; omega
              generalize Tree.many (Tree.wi wt 0 k') 0 L = P at *
              generalize Tree.root L = rt at *
              clear hAI hw0 hni
              go_wp2_with (go_at_call 18; fail)
              refine cM.mono ?_
              rintro e w6 ⟨vp, rfl, hOp, hw6⟩
              obtain ⟨ap, cpp, rfl, hAp, hlp, hcp⟩ := hOp.at
              dsimp only at hAp hlp ⊢
              have AP6 := hid hAp
              have L6 := hid (Lf.out.below hw6 (Nat.le_refl _))
              have T6 := hid (Tf.out.next hw6)
              have R6 := hid (Rf.out.below hw6 (Nat.le_refl _))
              have B6 := hid (Bf.out.trans (hw6.mono Bf.out.size))
              clear hOp hAp hw6 Lf Tf Rf Bf cM
              go_wp2_with (go_at_call 15; fail)
              refine (cR _ L6.out T6.out).mono ?_
              rintro e w7 ⟨rfl, hw7⟩
              have AP7 := hid (AP6.out.below hw7 (Nat.le_refl _))
              have L7 := hid (L6.out.below hw7 (Nat.le_refl _))
              have T7 := hid (T6.out.next hw7)
              have R7 := hid (R6.out.below hw7 (Nat.le_refl _))
              have B7 := hid (B6.out.trans (hw7.mono B6.out.size))
              clear hw7 AP6 L6 T6 R6 B6 cR
              go_wp2_with (go_at_call 19; fail)
              refine (cT ap cpp _ hlp hcp AP7.out T7.out L7.out R7.out).mono ?_
              rintro e w8 ⟨a8, c8, rfl, hA8, hl8, hc8, hw8⟩
              have B8 := hid (B7.out.trans (hw8.mono B7.out.size))
              clear hw8 AP7 L7 T7 R7 B7 cT
              rw [svS rt]
              have e1 : ((P.length : Nat) : Int) ≤ (k' : Int) - (ni : Int) := by omega
              go_wp2
              go_ret
              exact ⟨rfl, B8.out⟩
end Go.Proofs.YtfolaldjdefioaaDoor
