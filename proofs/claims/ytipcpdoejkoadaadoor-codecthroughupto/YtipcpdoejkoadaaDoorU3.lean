import Derived.Test.YtipcpdoejkoadaaDoorU1
namespace Go.Proofs.YtipcpdoejkoadaaDoor
open Go.RowKit Cod

theorem str_eta {l : List UInt8} {b : ByteArray} (h : sv l = .string b) : b.data.toList = l ∧ b.size = l.length := by
  unfold sv at h
  injection h with h
  rw [← h]
  exact ⟨sv_data l, sv_size l⟩
theorem ne_empty {b : ByteArray} (h : 0 < b.size) : b.toList.isEmpty = false := by
  rw [isEmpty_data, decide_eq_false (by omega)]
/-- frames one behind the other -/
def framesOf (ps : List (List UInt8)) : List UInt8 := (ps.map wrText).flatten
theorem framesOf_succ (ps : List (List UInt8)) (k : Nat) (h : k < ps.length) : framesOf (ps.take (k + 1)) = framesOf (ps.take k) ++ wrText ps[k] := by
  simp only [framesOf]
  rw [List.take_succ_eq_append_getElem h, List.map_append, List.flatten_append, List.map_cons, List.map_nil, List.flatten_cons, List.flatten_nil, List.append_nil]
theorem framesOf_drop (ps : List (List UInt8)) (k : Nat) (h : k < ps.length) : framesOf (ps.drop k) = wrText ps[k] ++ framesOf (ps.drop (k + 1)) := by
  simp only [framesOf]
  rw [List.drop_eq_getElem_cons h, List.map_cons, List.flatten_cons]

set_option maxRecDepth 100000 in
set_option maxHeartbeats 4000000 in
theorem row_any (v : Value) (qs : List (List UInt8)) (bh : ByteArray) (cut : Int) (h1 : -9223372036854775808 ≤ cut) (h2 : cut ≤ 9223372036854775807) (hs : bh.size ≤ 4611686018427380000) (hq : qs.length ≤ maxLen) (w : World) (T : Lay w) (hp : Slc w v qs) :
    Calls Tryd.prog 4 #[v, .string bh, .int .i64 cut] w fun r w' => r = .returned (.bool true) ∧ Below w.heap.size w w' := by
  have hK := hid (known_any w T)
  unfold maxLen at hq
  obtain ⟨a, cap, rfl, hp⟩ := hp
  have Hp := hid hp
  clear hp
  obtain ⟨N, hN⟩ : ∃ N, min qs.length 30 = N := ⟨_, rfl⟩
  have yh : (bh.toList == bh.toList) = true := by simp
  go_enter Tryd.func4, Tryd.ntmps4
  go_wp2_with (go_at_call 9; refine hK.out.mono ?_; rintro z w1 ⟨rfl, k1⟩; have K1 := hid k1; clear k1)
  go_loopw [8, 9] (fun s i w' => ∃ (k : Nat) (b : ByteArray), k ≤ N ∧ i = .int .i64 k ∧ s = .string b ∧ Hid (b.data.toList = framesOf (qs.take k)) ∧ b.size ≤ k * 1009 ∧ Hid (∀ j (hj : j < qs.length), j < k → qs[j].length ≤ 1000) ∧ Hid (Below w.heap.size w w')) (fun _ i _ => N - (intOf i).toNat)
  case atStart => exact ⟨0, ⟨#[]⟩, by omega, rfl, rfl, hid (by rfl), Nat.le_refl _, hid (fun j hj h => by omega), K1⟩
  case round =>
    obtain ⟨k, b, hk, rfl, rfl, hb, hbz, hsm, hbl⟩ := hrel
    by_cases hlt : k < N
    · have hlq : k < qs.length := by omega
      have b0 : (k : Int) < (qs.length : Int) := by omega
      have b1 : (k : Int) < 30 := by omega
      obtain ⟨x, hx, hxb, hc⟩ := Hp.out k _ (List.getElem?_eq_getElem hlq)
      subst hx
      have cp : wr.cell? (x.add k) = some (sv qs[k]) := (hbl.out.cell (p := x.add k) (by rw [add_block]; exact hxb)).trans hc
      clear hc
      obtain ⟨p, hpv⟩ : ∃ p, Hid (sv qs[k] = .string p) := ⟨⟨qs[k].toArray⟩, hid rfl⟩
      obtain ⟨hpd, hpz⟩ := str_eta hpv.out
      rw [hpv.out] at cp
      by_cases hbig : 1000 < p.size
      · have b2 : (1000 : Int) < (p.size : Int) := by omega
        clear hpd hpz
        go_wp2
        go_ret
        exact ⟨rfl, hbl.out⟩
      · have b2 : ¬ (1000 : Int) < (p.size : Int) := by omega
        have hF := fun w => frame_any p w
        simp only [if_neg (show ¬ 1048576 < p.size by omega)] at hF
        obtain ⟨f, hf⟩ : ∃ f, Hid (sv (wrText p.data.toList) = .string f) := ⟨_, rfl⟩
        obtain ⟨hfd, hfz⟩ := str_eta hf.out
        rw [hf.out] at hF
        have h9 : (digs p.size).length ≤ 9 := digs_len9 (by omega)
        have hdp := digs_pos p.size
        rw [wrText, List.length_append, data_length] at hfz
        have hf0 : 0 < f.size := by omega
        have hf1 : f.size ≤ 1009 := by omega
        have ne := ne_empty hf0
        obtain ⟨c, hcv, hc2⟩ := pk_nat cut (f.size : Int) (by omega)
        have hc3 : c ≤ f.size := by omega
        obtain ⟨z, hz⟩ : ∃ z, f.extract 0 c = z := ⟨_, rfl⟩
        have hzd : z.data.toList = (wrText p.data.toList).take c := by rw [← hz, Lib.extract_data, List.drop_zero, Nat.sub_zero, hfd]
        have hzz : z.size ≤ maxLen := by
          rw [← data_length, hzd, List.length_take, wrText, List.length_append, data_length]
          unfold maxLen
          omega
        have hU := fun w => unframe_any z w hzz
        have hshort : rdText z.data.toList 1048576 = .bad 21 := by
          rw [hzd]
          have ht := text_there (t := p.data.toList) (most := 1048576) (by rw [data_length, top]; omega) (by rw [data_length]; omega) []
          refine (pf_text 1048576).short _ _ _ ht _ ((wrText p.data.toList).drop c) (List.take_append_drop _ _).symm (fun e => ?_)
          have := congrArg List.length e
          rw [List.length_drop, wrText, List.length_append, data_length, List.length_nil] at this
          omega
        rw [hshort, tupS, show sv [] = .string ⟨#[]⟩ from rfl] at hU
        have hbf : b.size + f.size ≤ 9223372036854775807 := by omega
        have hbf' : (b.size : Int) + (f.size : Int) ≤ 9223372036854775807 := by omega
        have HD : Hid ((b ++ f).data.toList = framesOf (qs.take (k + 1))) := by
          show _ = _
          rw [app_data, hb.out, hfd, hpd, framesOf_succ qs k hlq]
        have HZ : Hid ((b ++ f).size ≤ (k + 1) * 1009) := by
          show _ ≤ _
          have e : (b ++ f).size = b.size + f.size := by rw [← data_length, app_data, List.length_append, data_length, data_length]
          rw [e]
          omega
        have HS : Hid (∀ j (hj : j < qs.length), j < k + 1 → qs[j].length ≤ 1000) := by
          intro j hj hjk
          rcases Nat.lt_or_ge j k with h | h
          · exact hsm.out j hj h
          · obtain rfl : j = k := by omega
            omega
        have HF := hid hF
        have HU := hid hU
        have b3 : (c : Int) ≤ (f.size : Int) := by omega
        clear hF hU hpd hpz hfd hfz h9 hdp hzd hzz hshort hf1
        go_wp2_with (first
          | (go_at_call 11; refine (HF.out _).mono ?_; rintro y w2 ⟨rfl, k2⟩; have K2 := hid (hbl.out.trans (k2.mono hbl.out.size)); clear k2)
          | (go_at_call 10; refine (pick_at hcv h1 h2 (by omega) (by omega) _).mono ?_; rintro y w' ⟨rfl, hw'⟩; rw [hw']; clear hw' w')
          | (go_at_call 12; refine (HU.out _).mono ?_; rintro y w3 ⟨rfl, k3⟩; have K3 := hid (K2.out.trans (k3.mono K2.out.size)); clear k3))
        exact ⟨⟨k + 1, b ++ f, by omega, by go_num, rfl, HD, HZ.out, HS, K3⟩, by simp [intOf]; omega⟩
    · obtain rfl : k = N := by omega
      have b0 : ¬ ((k : Int) < (qs.length : Int) ∧ (k : Int) < 30) := by omega
      have hbb : b.size + bh.size ≤ 9223372036854775807 := by omega
      have hbb' : (b.size : Int) + (bh.size : Int) ≤ 9223372036854775807 := by omega
      have H0 : Hid ((b ++ bh).data.toList = framesOf ((qs.take k).drop 0) ++ bh.data.toList) := by
        show _ = _
        rw [app_data, hb.out, List.drop_zero]
      have H0z : Hid ((b ++ bh).size ≤ 4611686018427480000) := by
        show _ ≤ _
        have e : (b ++ bh).size = b.size + bh.size := by rw [← data_length, app_data, List.length_append, data_length, data_length]
        rw [e]
        omega
      by_cases he2 : ¬ (k : Int) < (qs.length : Int)
      · clear b0
        go_wp2
        go_loopw [8, 16] (fun s i w' => ∃ (j : Nat) (c : ByteArray), j ≤ k ∧ i = .int .i64 j ∧ s = .string c ∧ Hid (c.data.toList = framesOf ((qs.take k).drop j) ++ bh.data.toList) ∧ c.size ≤ 4611686018427480000 ∧ Hid (Below w.heap.size w w')) (fun _ i _ => k - (intOf i).toNat)
        case atStart => exact ⟨0, _, by omega, rfl, rfl, H0, H0z.out, hbl⟩
        case round =>
          obtain ⟨j, c, hj, rfl, rfl, hcd, hcz, hbl2⟩ := hrel
          by_cases hjk : j < k
          · have hjq : j < qs.length := by omega
            have d0 : (j : Int) < (qs.length : Int) := by omega
            have d1 : (j : Int) < 30 := by omega
            obtain ⟨x, hx, hxb, hc⟩ := Hp.out j _ (List.getElem?_eq_getElem hjq)
            subst hx
            have cp : wr.cell? (x.add j) = some (sv qs[j]) := (hbl2.out.cell (p := x.add j) (by rw [add_block]; exact hxb)).trans hc
            clear hc
            have hsml := hsm.out j hjq hjk
            obtain ⟨p, hpv⟩ : ∃ p, Hid (sv qs[j] = .string p) := ⟨⟨qs[j].toArray⟩, hid rfl⟩
            rw [hpv.out] at cp
            have hU := fun w => unframe_any c w (by unfold maxLen; omega)
            have hjt : j < (qs.take k).length := by rw [List.length_take]; omega
            have hcd2 := hcd.out
            rw [framesOf_drop _ j hjt, List.getElem_take, List.append_assoc] at hcd2
            have hrt := text_there (t := qs[j]) (most := 1048576) (by rw [top]; omega) (by omega) (framesOf ((qs.take k).drop (j + 1)) ++ bh.data.toList)
            rw [hcd2, hrt, tupS, hpv.out] at hU
            obtain ⟨r, hr⟩ : ∃ r, Hid (sv (framesOf ((qs.take k).drop (j + 1)) ++ bh.data.toList) = .string r) := ⟨_, rfl⟩
            rw [hr.out] at hU
            obtain ⟨hrd, hrz⟩ := str_eta hr.out
            have hlt2 : r.size < c.size := by
              have := digs_pos qs[j].length
              rw [hrz, ← data_length c, hcd2, wrText]
              simp only [List.length_append]
              omega
            have d2 : (r.size : Int) < (c.size : Int) := by omega
            have HRD := hid hrd
            have HU := hid hU
            have yp : (p.toList == p.toList) = true := by simp
            clear hU hcd2 hrt hrd hrz hsml hjt
            go_wp2_with (go_at_call 12; refine (HU.out _).mono ?_; rintro y w3 ⟨rfl, k3⟩; have K3 := hid (hbl2.out.trans (k3.mono hbl2.out.size)); have cp3 := (k3.cell (p := x.add j) (by rw [add_block]; exact Nat.lt_of_lt_of_le hxb hbl2.out.size)).trans cp; clear k3)
            exact ⟨⟨j + 1, r, by omega, by go_num, rfl, HRD, by omega, K3⟩, by simp [intOf]; omega⟩
          · obtain rfl : j = k := by omega
            have hcd2 := hcd.out
            rw [List.drop_of_length_le (by rw [List.length_take]; omega), show framesOf [] = [] from rfl, List.nil_append] at hcd2
            have hcb : c = bh := by
              cases c; cases bh
              simp at hcd2
              rw [hcd2]
            subst hcb
            clear hcd2
            go_wp2
            go_ret
            exact ⟨rfl, hbl2.out⟩
      · have he3 : (k : Int) < (qs.length : Int) := by omega
        have he' : ¬ (k : Int) < 30 := by omega
        · clear b0 he2
          go_wp2
          go_loopw [8, 16] (fun s i w' => ∃ (j : Nat) (c : ByteArray), j ≤ k ∧ i = .int .i64 j ∧ s = .string c ∧ Hid (c.data.toList = framesOf ((qs.take k).drop j) ++ bh.data.toList) ∧ c.size ≤ 4611686018427480000 ∧ Hid (Below w.heap.size w w')) (fun _ i _ => k - (intOf i).toNat)
          case atStart => exact ⟨0, _, by omega, rfl, rfl, H0, H0z.out, hbl⟩
          case round =>
            obtain ⟨j, c, hj, rfl, rfl, hcd, hcz, hbl2⟩ := hrel
            by_cases hjk : j < k
            · have hjq : j < qs.length := by omega
              have d0 : (j : Int) < (qs.length : Int) := by omega
              have d1 : (j : Int) < 30 := by omega
              obtain ⟨x, hx, hxb, hc⟩ := Hp.out j _ (List.getElem?_eq_getElem hjq)
              subst hx
              have cp : wr.cell? (x.add j) = some (sv qs[j]) := (hbl2.out.cell (p := x.add j) (by rw [add_block]; exact hxb)).trans hc
              clear hc
              have hsml := hsm.out j hjq hjk
              obtain ⟨p, hpv⟩ : ∃ p, Hid (sv qs[j] = .string p) := ⟨⟨qs[j].toArray⟩, hid rfl⟩
              rw [hpv.out] at cp
              have hU := fun w => unframe_any c w (by unfold maxLen; omega)
              have hjt : j < (qs.take k).length := by rw [List.length_take]; omega
              have hcd2 := hcd.out
              rw [framesOf_drop _ j hjt, List.getElem_take, List.append_assoc] at hcd2
              have hrt := text_there (t := qs[j]) (most := 1048576) (by rw [top]; omega) (by omega) (framesOf ((qs.take k).drop (j + 1)) ++ bh.data.toList)
              rw [hcd2, hrt, tupS, hpv.out] at hU
              obtain ⟨r, hr⟩ : ∃ r, Hid (sv (framesOf ((qs.take k).drop (j + 1)) ++ bh.data.toList) = .string r) := ⟨_, rfl⟩
              rw [hr.out] at hU
              obtain ⟨hrd, hrz⟩ := str_eta hr.out
              have hlt2 : r.size < c.size := by
                have := digs_pos qs[j].length
                rw [hrz, ← data_length c, hcd2, wrText]
                simp only [List.length_append]
                omega
              have d2 : (r.size : Int) < (c.size : Int) := by omega
              have HRD := hid hrd
              have HU := hid hU
              have yp : (p.toList == p.toList) = true := by simp
              clear hU hcd2 hrt hrd hrz hsml hjt
              go_wp2_with (go_at_call 12; refine (HU.out _).mono ?_; rintro y w3 ⟨rfl, k3⟩; have K3 := hid (hbl2.out.trans (k3.mono hbl2.out.size)); have cp3 := (k3.cell (p := x.add j) (by rw [add_block]; exact Nat.lt_of_lt_of_le hxb hbl2.out.size)).trans cp; clear k3)
              exact ⟨⟨j + 1, r, by omega, by go_num, rfl, HRD, by omega, K3⟩, by simp [intOf]; omega⟩
            · obtain rfl : j = k := by omega
              have hcd2 := hcd.out
              rw [List.drop_of_length_le (by rw [List.length_take]; omega), show framesOf [] = [] from rfl, List.nil_append] at hcd2
              have hcb : c = bh := by
                cases c; cases bh
                simp at hcd2
                rw [hcd2]
              subst hcb
              clear hcd2
              go_wp2
              go_ret
              exact ⟨rfl, hbl2.out⟩
end Go.Proofs.YtipcpdoejkoadaaDoor
