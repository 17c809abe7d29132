import Derived.Test.YtalkkekkojigjaaDoorV1
import Derived.Test.YtalkkekkojigjaaDoorU3
namespace Go.Proofs.YtalkkekkojigjaaDoor
open Go.RowKit Cod

theorem again_step {sl : List UInt8} {t : Nat} {bytes r : List UInt8} (ht : t ≤ sl.length) (h : sl.drop t = bytes ++ r) : t + bytes.length ≤ sl.length ∧ sl.take t ++ bytes = sl.take (t + bytes.length) ∧ r = sl.drop (t + bytes.length) := by
  have hl := congrArg List.length h
  rw [List.length_drop, List.length_append] at hl
  refine ⟨by omega, ?_, ?_⟩
  · rw [List.take_add, h, List.take_left]
  · rw [← List.drop_drop, h, List.drop_left]

theorem tdiv7 (c : Int) (h1 : -9223372036854775808 ≤ c) (h2 : c ≤ 9223372036854775807) : -9223372036854775808 ≤ c.tdiv 7 ∧ c.tdiv 7 ≤ 9223372036854775807 := by
  by_cases h : 0 ≤ c
  · rw [Int.tdiv_eq_ediv_of_nonneg h]; omega
  · obtain ⟨d, rfl⟩ : ∃ d, c = -d := ⟨-c, by omega⟩
    rw [Int.neg_tdiv, Int.tdiv_eq_ediv_of_nonneg (by omega)]; omega
set_option maxRecDepth 100000 in
set_option maxHeartbeats 16000000 in
theorem again_any (sb : ByteArray) (hs : sb.size ≤ 4611686018427380000) (v1 : Value) (cs : List Int) (hcb : ∀ c ∈ cs, -9223372036854775808 ≤ c ∧ c ≤ 9223372036854775807) (hcl : cs.length ≤ maxLen) (w : World) (T : Lay w) (hcs : SlcI w v1 cs) :
    Calls Tryd.prog 5 #[.string sb, v1] w fun r w' => r = .returned (.bool true) ∧ Below w.heap.size w w' := by
  have hT := T.lt
  have HT := hid T
  have hK := hid (known_any w T)
  unfold maxLen at hcl
  obtain ⟨a, cap, rfl, hcs⟩ := hcs
  have Hc := hid hcs
  have Hcb := hid hcb
  clear hcs hcb T
  obtain ⟨M, hM⟩ : ∃ M, min cs.length 100 = M := ⟨_, rfl⟩
  obtain ⟨B, hB⟩ : ∃ B, w.heap.size = B := ⟨_, rfl⟩
  obtain ⟨N, hN0⟩ : ∃ N, sb.size = N := ⟨_, rfl⟩
  obtain ⟨sl, hsl⟩ : ∃ sl, Hid (sb.data.toList = sl) := ⟨_, rfl⟩
  have hN : sl.length = N := by rw [← hsl.out, data_length, hN0]
  rw [hB] at hT
  go_enter Tryd.func5, Tryd.ntmps5
  go_wp2_with (first
    | (go_at_call 9; refine hK.out.mono ?_; rw [hB]; rintro z w1 ⟨rfl, k1⟩; have K1 := hid k1; clear k1)
    | (go_at_call 13; fail))
  go_at_call 13
  refine (newReader_any sb (by unfold maxLen; omega) w1).mono ?_
  obtain ⟨RB, hRB⟩ : ∃ RB, w1.heap.size = RB := ⟨_, rfl⟩
  rw [hRB, hsl.out]
  rintro z w2 ⟨rfl, r2, b2, s2⟩
  have R2 := hid r2
  have B2 := hid b2
  clear r2 b2
  go_wp2_with (go_at_call 14; fail)
  go_at_call 14
  refine (newWriter_any w2).mono ?_
  obtain ⟨WB, hWB⟩ : ∃ WB, w2.heap.size = WB := ⟨_, rfl⟩
  rw [hWB]
  rintro z w3 ⟨rfl, r3, b3, s3⟩
  have hBR : B ≤ RB := by have := K1.out.size; omega
  have D0 : Hid (Duo w B RB WB w3 (.slice none 0 0) ⟨sl.drop 0, 0, 0⟩ (.ok (sl.take 0))) := by
    refine ⟨R2.out.below (by rw [hWB]; exact b3), ⟨by omega, r3.2.1, Own.nil _ _, r3.2.2.2⟩, fun e => ?_, ?_, hBR, by omega⟩
    · rcases e with e | e
      · omega
      · cases e
    · exact (K1.out.trans (B2.out.mono hBR)).trans (b3.mono (by omega))
  clear r3 b3 R2 B2 hK K1
  go_wp2
  go_loopw [8] (fun i w' => ∃ (k t : Nat) (v : Value), k ≤ M ∧ i = .int .i64 k ∧ t ≤ sl.length ∧ t ≤ k * 1400 ∧ Hid (Duo w B RB WB w' v ⟨sl.drop t, t, 0⟩ (.ok (sl.take t)))) (fun i _ => M - (intOf i).toNat)
  case atStart => exact ⟨0, 0, _, by omega, rfl, by omega, by omega, D0⟩
  case round =>
    obtain ⟨k, t, v, hk, rfl, ht, htk0, D⟩ := hrel
    clear D0
    by_cases hlt : k < M
    · have hlq : k < cs.length := by omega
      have b0 : (k : Int) < (cs.length : Int) := by omega
      have b1 : (k : Int) < 100 := by omega
      have hk100 : k < 100 := by omega
      obtain ⟨x0, hx0, hxb, hc⟩ := Hc.out k _ (List.getElem?_eq_getElem hlq)
      subst hx0
      obtain ⟨hc1, hc2⟩ := Hcb.out _ (List.getElem_mem hlq)
      have cp : wr.cell? (x0.add k) = some (.int .i64 cs[k]) := (D.out.bl.cell (p := x0.add k) (by rw [add_block, ← hB]; exact hxb)).trans hc
      clear hc
      generalize cs[k] = c at *
      obtain ⟨was, hwas⟩ : ∃ was, N - t = was := ⟨_, rfl⟩
      have hleft : (RS.mk (sl.drop t) t 0).rest.length = was := by show (sl.drop t).length = _; rw [List.length_drop, hN, hwas]
      have hleft' : (N : Int) - (was : Int) = (t : Int) := by omega
      have hleft2 : (was : Int) ≤ (N : Int) := by omega
      have yt : ((t : Int) == (t : Int)) = true := by simp
      have yw : ((was : Int) == (was : Int)) = true := by simp
      clear hwas
      obtain ⟨m, hm, hm2⟩ := pk_nat (c.tdiv 7) 40 (by omega)
      obtain ⟨kd, hkd, hkd2⟩ := pk_nat c 7 (by omega)
      obtain ⟨h40a, h40b⟩ := tdiv7 c hc1 hc2
      have hq7 : kd = 0 ∨ kd = 1 ∨ kd = 2 ∨ kd = 3 ∨ kd = 4 ∨ kd = 5 ∨ kd = 6 := by omega
      rcases hq7 with rfl | rfl | rfl | rfl | rfl | rfl | rfl
      · cases hx : rdByte (sl.drop t) with
        | bad e =>
          have he1 := nz_byte (sl.drop t) e hx
          have he2 := nw_byte (sl.drop t) e hx
          have he3 : ((e : Int) == 0) = false := by simp; omega
          have he4 : ((e : Int) == 24) = false := by simp; omega
          have he5 : ((e : Int) != 0) = true := by simp; omega
          have he6 : ((e : Int) != 24) = true := by simp; omega
          go_wp2_with (first
            | (go_at_call 15; refine (left_any RB _ wr D.out.rd).mono ?_; rw [hleft]; rintro z w' ⟨rfl, hw'⟩; rw [hw']; clear hw' w')
            | (go_at_call 10; fail))
          go_at_call 10
          refine (pick_at hm h40a h40b (by omega) (by omega) _).mono ?_
          rintro z w' ⟨rfl, hw'⟩; rw [hw']; clear hw' w'
          go_wp2_with (go_at_call 10; fail)
          go_at_call 10
          refine (pick_at hkd hc1 hc2 (by omega) (by omega) _).mono ?_
          rintro z w' ⟨rfl, hw'⟩; rw [hw']; clear hw' w'
          go_wp2_with (go_at_call 17; fail)
          go_at_call 17
          refine (rByte_any RB _ wr D.out.rd).mono ?_
          rw [hx]
          rw [step_badx rfl, val_badx rfl]
          rintro z w1 ⟨rfl, r1, r2⟩
          have D1 := hid (D.out.read r1 r2)
          clear r1 r2
          go_wp2_with (go_at_call 16; fail)
          go_at_call 16
          refine (wByte_any B WB _ _ ((0 : Nat) : Int) _ D1.out.wri D1.out.base (fun bs hbs => by cases hbs; rw [List.length_take]; omega)).mono ?_
          rintro z w2 ⟨rfl, v2, g1, g2, g3⟩
          have D2 := hid (D1.out.write g1 g2 g3)
          clear g1 g2 g3
          go_wp2_with (go_at_call 30; fail)
          go_at_call 30
          refine (rDone_any RB _ w2 (HT.out.below D2.out.bl hT) D2.out.rd).mono ?_
          rw [show (RS.mk (sl.drop t) t (e : Int)).done = (e : Int) from by rw [RS.done, if_neg (by show ¬ (e : Int) = 0; omega)]]
          rintro z w3 ⟨rfl, q3⟩
          have D3 := hid (D2.out.below q3)
          clear q3
          go_wp2_with (go_at_call 15; fail)
          go_at_call 15
          refine (left_any RB _ w3 D3.out.rd).mono ?_
          rw [show (RS.mk (sl.drop t) t (e : Int)).rest.length = was from hleft]
          rintro z w' ⟨rfl, hw'⟩; rw [hw']; clear hw' w'
          go_wp2
          go_ret
          exact ⟨rfl, by first | exact D3.out.bl | (rw [hB]; exact D3.out.bl)⟩
        | good x r =>
          obtain ⟨a1, a2⟩ := byte_again hx
          obtain ⟨ht2, ht3, ht4⟩ := again_step ht a2
          obtain ⟨t2, htt⟩ : ∃ t2, Hid (t + ([UInt8.ofNat (x : Int).toNat]).length = t2) := ⟨_, rfl⟩
          have hbl : ([UInt8.ofNat (x : Int).toNat]).length ≤ 1300 := by simp
          have hrl : (sl.drop t).length - r.length = ([UInt8.ofNat (x : Int).toNat]).length := by rw [a2, List.length_append]; omega
          have hst : RS.mk r (t + ((sl.drop t).length - r.length)) 0 = ⟨sl.drop t2, t2, 0⟩ := by rw [hrl, htt.out, ← htt.out, ht4]
          rw [htt.out] at ht2
          have htk : sl.take t ++ [UInt8.ofNat (x : Int).toNat] = sl.take t2 := by rw [← htt.out]; exact ht3
          have hput : (WSt.ok (sl.take t)).put (byteErr (x : Int)) ([UInt8.ofNat (x : Int).toNat]) = .ok (sl.take t ++ [UInt8.ofNat (x : Int).toNat]) := by rw [WSt.put, if_pos a1]
          rw [htk] at hput
          have hdl : (sl.drop t2).length = N - t2 := by rw [List.length_drop, hN]
          go_wp2_with (first
            | (go_at_call 15; refine (left_any RB _ wr D.out.rd).mono ?_; rw [hleft]; rintro z w' ⟨rfl, hw'⟩; rw [hw']; clear hw' w')
            | (go_at_call 10; fail))
          go_at_call 10
          refine (pick_at hm h40a h40b (by omega) (by omega) _).mono ?_
          rintro z w' ⟨rfl, hw'⟩; rw [hw']; clear hw' w'
          go_wp2_with (go_at_call 10; fail)
          go_at_call 10
          refine (pick_at hkd hc1 hc2 (by omega) (by omega) _).mono ?_
          rintro z w' ⟨rfl, hw'⟩; rw [hw']; clear hw' w'
          go_wp2_with (go_at_call 17; fail)
          go_at_call 17
          refine (rByte_any RB _ wr D.out.rd).mono ?_
          rw [hx]
          rw [step_good rfl, val_good rfl]
          rintro z w1 ⟨rfl, r1, r2⟩
          have D1 := hid (D.out.read r1 r2)
          clear r1 r2
          rw [hst] at D1
          go_wp2_with (go_at_call 16; fail)
          go_at_call 16
          refine (wByte_any B WB _ _ (x : Int) _ D1.out.wri D1.out.base (fun bs hbs => by cases hbs; rw [List.length_take]; omega)).mono ?_
          rw [hput]
          rintro z w2 ⟨rfl, v2, g1, g2, g3⟩
          have D2 := hid (D1.out.write g1 g2 g3)
          have HTK := hid hst
          clear g1 g2 g3 hst hput htk hrl a2 ht3 ht4 hx
          go_wp2_with (go_at_call 30; fail)
          go_at_call 30
          refine (rDone_any RB _ w2 (HT.out.below D2.out.bl hT) D2.out.rd).mono ?_
          have hdn : (RS.mk (sl.drop t2) t2 0).done = if N - t2 = 0 then 0 else 24 := by rw [RS.done, if_pos rfl]; show (if (sl.drop t2).length = 0 then _ else _) = _; rw [hdl]
          rw [hdn]
          rintro z w3 ⟨rfl, q3⟩
          have D3 := hid (D2.out.below q3)
          clear q3 hdn
          have ee : sv (sl.take t2) = .string (sb.extract 0 t2) := by rw [← hsl.out]; exact sv_take sb t2
          have yy : ((sb.extract 0 t2).toList == (sb.extract 0 t2).toList) = true := by simp
          have t2s : (t2 : Int) ≤ (sb.size : Int) := by omega
          obtain ⟨lf, hlf0⟩ : ∃ lf, N - t2 = lf := ⟨_, rfl⟩
          have hlf : (t2 : Int) + (lf : Int) = (N : Int) := by omega
          have hlf2 : (lf : Int) ≤ (N : Int) := by omega
          have yN : ((N : Int) == (N : Int)) = true := by simp
          have yN2 : ((N : Int) != (N : Int)) = false := by simp
          have yy2 : ((sb.extract 0 t2).toList != (sb.extract 0 t2).toList) = false := by simp
          rw [hlf0] at hdl
          have h3b : t2 ≤ (k + 1) * 1400 := by rw [← htt.out]; omega
          have H3b := hid h3b
          clear h3b
          rw [hlf0]
          clear hlf0
          by_cases h0 : lf = 0
          · rw [if_pos h0]
            clear h0
            go_wp2_with (go_at_call 31; fail)
            go_at_call 31
            refine (wDone_any B WB _ _ w3 (HT.out.below D3.out.bl hT) D3.out.wri).mono ?_
            rw [show (WSt.ok (sl.take t2)).text = sl.take t2 from rfl, show (WSt.ok (sl.take t2)).err = 0 from rfl, ee]
            rintro z w4 ⟨rfl, q4⟩
            have D4 := hid (D3.out.below q4)
            clear q4
            go_wp2_with (go_at_call 15; fail)
            go_at_call 15
            refine (left_any RB _ w4 D4.out.rd).mono ?_
            rw [show (RS.mk (sl.drop t2) t2 0).rest.length = lf from hdl]
            rintro z w' ⟨rfl, hw'⟩; rw [hw']; clear hw' w'
            go_wp2
            exact ⟨⟨k + 1, t2, v2, by omega, by go_num, by omega, H3b.out, D4⟩, by simp [intOf]; omega⟩
          · rw [if_neg h0]
            go_wp2_with (go_at_call 31; fail)
            go_at_call 31
            refine (wDone_any B WB _ _ w3 (HT.out.below D3.out.bl hT) D3.out.wri).mono ?_
            rw [show (WSt.ok (sl.take t2)).text = sl.take t2 from rfl, show (WSt.ok (sl.take t2)).err = 0 from rfl, ee]
            rintro z w4 ⟨rfl, q4⟩
            have D4 := hid (D3.out.below q4)
            clear q4
            go_wp2_with (go_at_call 15; fail)
            go_at_call 15
            refine (left_any RB _ w4 D4.out.rd).mono ?_
            rw [show (RS.mk (sl.drop t2) t2 0).rest.length = lf from hdl]
            rintro z w' ⟨rfl, hw'⟩; rw [hw']; clear hw' w'
            go_wp2
            exact ⟨⟨k + 1, t2, v2, by omega, by go_num, by omega, H3b.out, D4⟩, by simp [intOf]; omega⟩
      · cases hx : rdNum (sl.drop t) with
        | bad e =>
          have he1 := nz_num (sl.drop t) e hx
          have he2 := nw_num (sl.drop t) e hx
          have he3 : ((e : Int) == 0) = false := by simp; omega
          have he4 : ((e : Int) == 24) = false := by simp; omega
          have he5 : ((e : Int) != 0) = true := by simp; omega
          have he6 : ((e : Int) != 24) = true := by simp; omega
          go_wp2_with (first
            | (go_at_call 15; refine (left_any RB _ wr D.out.rd).mono ?_; rw [hleft]; rintro z w' ⟨rfl, hw'⟩; rw [hw']; clear hw' w')
            | (go_at_call 10; fail))
          go_at_call 10
          refine (pick_at hm h40a h40b (by omega) (by omega) _).mono ?_
          rintro z w' ⟨rfl, hw'⟩; rw [hw']; clear hw' w'
          go_wp2_with (go_at_call 10; fail)
          go_at_call 10
          refine (pick_at hkd hc1 hc2 (by omega) (by omega) _).mono ?_
          rintro z w' ⟨rfl, hw'⟩; rw [hw']; clear hw' w'
          go_wp2_with (go_at_call 19; fail)
          go_at_call 19
          refine (rNum_any RB _ wr D.out.rd).mono ?_
          rw [hx]
          rw [step_badx rfl, val_badx rfl]
          rintro z w1 ⟨rfl, r1, r2⟩
          have D1 := hid (D.out.read r1 r2)
          clear r1 r2
          go_wp2_with (go_at_call 18; fail)
          go_at_call 18
          refine (wNum_any B WB _ _ ((0 : Nat) : Int) (by omega) (by omega) _ D1.out.wri D1.out.base (fun bs hbs => by cases hbs; rw [List.length_take]; omega)).mono ?_
          rintro z w2 ⟨rfl, v2, g1, g2, g3⟩
          have D2 := hid (D1.out.write g1 g2 g3)
          clear g1 g2 g3
          go_wp2_with (go_at_call 30; fail)
          go_at_call 30
          refine (rDone_any RB _ w2 (HT.out.below D2.out.bl hT) D2.out.rd).mono ?_
          rw [show (RS.mk (sl.drop t) t (e : Int)).done = (e : Int) from by rw [RS.done, if_neg (by show ¬ (e : Int) = 0; omega)]]
          rintro z w3 ⟨rfl, q3⟩
          have D3 := hid (D2.out.below q3)
          clear q3
          go_wp2_with (go_at_call 15; fail)
          go_at_call 15
          refine (left_any RB _ w3 D3.out.rd).mono ?_
          rw [show (RS.mk (sl.drop t) t (e : Int)).rest.length = was from hleft]
          rintro z w' ⟨rfl, hw'⟩; rw [hw']; clear hw' w'
          go_wp2
          go_ret
          exact ⟨rfl, by first | exact D3.out.bl | (rw [hB]; exact D3.out.bl)⟩
        | good x r =>
          obtain ⟨a1, a2, a3⟩ := num_again hx
          obtain ⟨ht2, ht3, ht4⟩ := again_step ht a2
          obtain ⟨t2, htt⟩ : ∃ t2, Hid (t + (digs (x : Int).toNat).length = t2) := ⟨_, rfl⟩
          have hbl : (digs (x : Int).toNat).length ≤ 1300 := by have := digs_len9 (n := (x : Int).toNat) (by omega); omega
          have hrl : (sl.drop t).length - r.length = (digs (x : Int).toNat).length := by rw [a2, List.length_append]; omega
          have hst : RS.mk r (t + ((sl.drop t).length - r.length)) 0 = ⟨sl.drop t2, t2, 0⟩ := by rw [hrl, htt.out, ← htt.out, ht4]
          rw [htt.out] at ht2
          have htk : sl.take t ++ digs (x : Int).toNat = sl.take t2 := by rw [← htt.out]; exact ht3
          have hput : (WSt.ok (sl.take t)).put (numErr (x : Int)) (digs (x : Int).toNat) = .ok (sl.take t ++ digs (x : Int).toNat) := by rw [WSt.put, if_pos a1]
          rw [htk] at hput
          have hdl : (sl.drop t2).length = N - t2 := by rw [List.length_drop, hN]
          go_wp2_with (first
            | (go_at_call 15; refine (left_any RB _ wr D.out.rd).mono ?_; rw [hleft]; rintro z w' ⟨rfl, hw'⟩; rw [hw']; clear hw' w')
            | (go_at_call 10; fail))
          go_at_call 10
          refine (pick_at hm h40a h40b (by omega) (by omega) _).mono ?_
          rintro z w' ⟨rfl, hw'⟩; rw [hw']; clear hw' w'
          go_wp2_with (go_at_call 10; fail)
          go_at_call 10
          refine (pick_at hkd hc1 hc2 (by omega) (by omega) _).mono ?_
          rintro z w' ⟨rfl, hw'⟩; rw [hw']; clear hw' w'
          go_wp2_with (go_at_call 19; fail)
          go_at_call 19
          refine (rNum_any RB _ wr D.out.rd).mono ?_
          rw [hx]
          rw [step_good rfl, val_good rfl]
          rintro z w1 ⟨rfl, r1, r2⟩
          have D1 := hid (D.out.read r1 r2)
          clear r1 r2
          rw [hst] at D1
          go_wp2_with (go_at_call 18; fail)
          go_at_call 18
          refine (wNum_any B WB _ _ (x : Int) (by omega) (by omega) _ D1.out.wri D1.out.base (fun bs hbs => by cases hbs; rw [List.length_take]; omega)).mono ?_
          rw [hput]
          rintro z w2 ⟨rfl, v2, g1, g2, g3⟩
          have D2 := hid (D1.out.write g1 g2 g3)
          have HTK := hid hst
          clear g1 g2 g3 hst hput htk hrl a2 ht3 ht4 hx
          go_wp2_with (go_at_call 30; fail)
          go_at_call 30
          refine (rDone_any RB _ w2 (HT.out.below D2.out.bl hT) D2.out.rd).mono ?_
          have hdn : (RS.mk (sl.drop t2) t2 0).done = if N - t2 = 0 then 0 else 24 := by rw [RS.done, if_pos rfl]; show (if (sl.drop t2).length = 0 then _ else _) = _; rw [hdl]
          rw [hdn]
          rintro z w3 ⟨rfl, q3⟩
          have D3 := hid (D2.out.below q3)
          clear q3 hdn
          have ee : sv (sl.take t2) = .string (sb.extract 0 t2) := by rw [← hsl.out]; exact sv_take sb t2
          have yy : ((sb.extract 0 t2).toList == (sb.extract 0 t2).toList) = true := by simp
          have t2s : (t2 : Int) ≤ (sb.size : Int) := by omega
          obtain ⟨lf, hlf0⟩ : ∃ lf, N - t2 = lf := ⟨_, rfl⟩
          have hlf : (t2 : Int) + (lf : Int) = (N : Int) := by omega
          have hlf2 : (lf : Int) ≤ (N : Int) := by omega
          have yN : ((N : Int) == (N : Int)) = true := by simp
          have yN2 : ((N : Int) != (N : Int)) = false := by simp
          have yy2 : ((sb.extract 0 t2).toList != (sb.extract 0 t2).toList) = false := by simp
          rw [hlf0] at hdl
          have h3b : t2 ≤ (k + 1) * 1400 := by rw [← htt.out]; omega
          have H3b := hid h3b
          clear h3b
          rw [hlf0]
          clear hlf0
          by_cases h0 : lf = 0
          · rw [if_pos h0]
            clear h0
            go_wp2_with (go_at_call 31; fail)
            go_at_call 31
            refine (wDone_any B WB _ _ w3 (HT.out.below D3.out.bl hT) D3.out.wri).mono ?_
            rw [show (WSt.ok (sl.take t2)).text = sl.take t2 from rfl, show (WSt.ok (sl.take t2)).err = 0 from rfl, ee]
            rintro z w4 ⟨rfl, q4⟩
            have D4 := hid (D3.out.below q4)
            clear q4
            go_wp2_with (go_at_call 15; fail)
            go_at_call 15
            refine (left_any RB _ w4 D4.out.rd).mono ?_
            rw [show (RS.mk (sl.drop t2) t2 0).rest.length = lf from hdl]
            rintro z w' ⟨rfl, hw'⟩; rw [hw']; clear hw' w'
            go_wp2
            exact ⟨⟨k + 1, t2, v2, by omega, by go_num, by omega, H3b.out, D4⟩, by simp [intOf]; omega⟩
          · rw [if_neg h0]
            go_wp2_with (go_at_call 31; fail)
            go_at_call 31
            refine (wDone_any B WB _ _ w3 (HT.out.below D3.out.bl hT) D3.out.wri).mono ?_
            rw [show (WSt.ok (sl.take t2)).text = sl.take t2 from rfl, show (WSt.ok (sl.take t2)).err = 0 from rfl, ee]
            rintro z w4 ⟨rfl, q4⟩
            have D4 := hid (D3.out.below q4)
            clear q4
            go_wp2_with (go_at_call 15; fail)
            go_at_call 15
            refine (left_any RB _ w4 D4.out.rd).mono ?_
            rw [show (RS.mk (sl.drop t2) t2 0).rest.length = lf from hdl]
            rintro z w' ⟨rfl, hw'⟩; rw [hw']; clear hw' w'
            go_wp2
            exact ⟨⟨k + 1, t2, v2, by omega, by go_num, by omega, H3b.out, D4⟩, by simp [intOf]; omega⟩
      · cases hx : rdRising (sl.drop t) (m : Int) with
        | bad e =>
          have he1 := nz_rising (sl.drop t) (m : Int) e hx
          have he2 := nw_rising (sl.drop t) (m : Int) e hx
          have he3 : ((e : Int) == 0) = false := by simp; omega
          have he4 : ((e : Int) == 24) = false := by simp; omega
          have he5 : ((e : Int) != 0) = true := by simp; omega
          have he6 : ((e : Int) != 24) = true := by simp; omega
          go_wp2_with (first
            | (go_at_call 15; refine (left_any RB _ wr D.out.rd).mono ?_; rw [hleft]; rintro z w' ⟨rfl, hw'⟩; rw [hw']; clear hw' w')
            | (go_at_call 10; fail))
          go_at_call 10
          refine (pick_at hm h40a h40b (by omega) (by omega) _).mono ?_
          rintro z w' ⟨rfl, hw'⟩; rw [hw']; clear hw' w'
          go_wp2_with (go_at_call 10; fail)
          go_at_call 10
          refine (pick_at hkd hc1 hc2 (by omega) (by omega) _).mono ?_
          rintro z w' ⟨rfl, hw'⟩; rw [hw']; clear hw' w'
          go_wp2_with (go_at_call 21; fail)
          go_at_call 21
          refine (rRising_any RB _ (m : Int) wr (.inr (by omega)) D.out.rd).mono ?_
          rw [hx]
          rw [step_badx rfl, val_badx rfl]
          rintro z w1 ⟨u, rfl, ou, r1, r2⟩
          have OU := hid ou
          have D1 := hid (D.out.read r1 r2)
          obtain ⟨ua, un, uc, rfl⟩ := Own.sl ou
          clear ou r1 r2
          go_wp2_with (go_at_call 20; fail)
          go_at_call 20
          refine (wRising_any B WB _ _ _ (ints []) (fun c hc => by cases hc) (by simp [ints]) _ OU.out.slcI (OU.out.apart (fun k hk => (D.out.wri.in k hk).2)) D1.out.wri D1.out.base (fun bs hbs => by cases hbs; rw [List.length_take, ints_toNat, show wrRising [] = digs 0 from by simp [wrRising, wrRise]]; have := digs_len9 (n := 0) (by omega); omega)).mono ?_
          rintro z w2 ⟨rfl, v2, g1, g2, g3⟩
          have D2 := hid (D1.out.write g1 g2 g3)
          clear g1 g2 g3
          go_wp2_with (go_at_call 30; fail)
          go_at_call 30
          refine (rDone_any RB _ w2 (HT.out.below D2.out.bl hT) D2.out.rd).mono ?_
          rw [show (RS.mk (sl.drop t) t (e : Int)).done = (e : Int) from by rw [RS.done, if_neg (by show ¬ (e : Int) = 0; omega)]]
          rintro z w3 ⟨rfl, q3⟩
          have D3 := hid (D2.out.below q3)
          clear q3
          go_wp2_with (go_at_call 15; fail)
          go_at_call 15
          refine (left_any RB _ w3 D3.out.rd).mono ?_
          rw [show (RS.mk (sl.drop t) t (e : Int)).rest.length = was from hleft]
          rintro z w' ⟨rfl, hw'⟩; rw [hw']; clear hw' w'
          go_wp2
          go_ret
          exact ⟨rfl, by first | exact D3.out.bl | (rw [hB]; exact D3.out.bl)⟩
        | good x r =>
          obtain ⟨a1, a2, a3, a4, a5⟩ := rising_again hx
          obtain ⟨ht2, ht3, ht4⟩ := again_step ht a2
          obtain ⟨t2, htt⟩ : ∃ t2, Hid (t + (wrRising ((ints x).map Int.toNat)).length = t2) := ⟨_, rfl⟩
          have hbl : (wrRising ((ints x).map Int.toNat)).length ≤ 1300 := by have := a4 (by omega); omega
          have hrl : (sl.drop t).length - r.length = (wrRising ((ints x).map Int.toNat)).length := by rw [a2, List.length_append]; omega
          have hst : RS.mk r (t + ((sl.drop t).length - r.length)) 0 = ⟨sl.drop t2, t2, 0⟩ := by rw [hrl, htt.out, ← htt.out, ht4]
          rw [htt.out] at ht2
          have htk : sl.take t ++ wrRising ((ints x).map Int.toNat) = sl.take t2 := by rw [← htt.out]; exact ht3
          have hput : (WSt.ok (sl.take t)).put (risingErr (ints x)) (wrRising ((ints x).map Int.toNat)) = .ok (sl.take t ++ wrRising ((ints x).map Int.toNat)) := by rw [WSt.put, if_pos a1]
          rw [htk] at hput
          have hdl : (sl.drop t2).length = N - t2 := by rw [List.length_drop, hN]
          go_wp2_with (first
            | (go_at_call 15; refine (left_any RB _ wr D.out.rd).mono ?_; rw [hleft]; rintro z w' ⟨rfl, hw'⟩; rw [hw']; clear hw' w')
            | (go_at_call 10; fail))
          go_at_call 10
          refine (pick_at hm h40a h40b (by omega) (by omega) _).mono ?_
          rintro z w' ⟨rfl, hw'⟩; rw [hw']; clear hw' w'
          go_wp2_with (go_at_call 10; fail)
          go_at_call 10
          refine (pick_at hkd hc1 hc2 (by omega) (by omega) _).mono ?_
          rintro z w' ⟨rfl, hw'⟩; rw [hw']; clear hw' w'
          go_wp2_with (go_at_call 21; fail)
          go_at_call 21
          refine (rRising_any RB _ (m : Int) wr (.inr (by omega)) D.out.rd).mono ?_
          rw [hx]
          rw [step_good rfl, val_good rfl]
          rintro z w1 ⟨u, rfl, ou, r1, r2⟩
          have OU := hid ou
          have D1 := hid (D.out.read r1 r2)
          obtain ⟨ua, un, uc, rfl⟩ := Own.sl ou
          clear ou r1 r2
          rw [hst] at D1
          go_wp2_with (go_at_call 20; fail)
          go_at_call 20
          refine (wRising_any B WB _ _ _ (ints x) (fun c hc => by obtain ⟨n, hn, rfl⟩ := List.mem_map.1 hc; have := a5 n hn; constructor <;> simp <;> omega) (by rw [ints, List.length_map]; unfold maxLen; omega) _ OU.out.slcI (OU.out.apart (fun k hk => (D.out.wri.in k hk).2)) D1.out.wri D1.out.base (fun bs hbs => by cases hbs; have := a4 (by omega); rw [List.length_take]; omega)).mono ?_
          rw [hput]
          rintro z w2 ⟨rfl, v2, g1, g2, g3⟩
          have D2 := hid (D1.out.write g1 g2 g3)
          have HTK := hid hst
          clear g1 g2 g3 hst hput htk hrl a2 ht3 ht4 hx
          go_wp2_with (go_at_call 30; fail)
          go_at_call 30
          refine (rDone_any RB _ w2 (HT.out.below D2.out.bl hT) D2.out.rd).mono ?_
          have hdn : (RS.mk (sl.drop t2) t2 0).done = if N - t2 = 0 then 0 else 24 := by rw [RS.done, if_pos rfl]; show (if (sl.drop t2).length = 0 then _ else _) = _; rw [hdl]
          rw [hdn]
          rintro z w3 ⟨rfl, q3⟩
          have D3 := hid (D2.out.below q3)
          clear q3 hdn
          have ee : sv (sl.take t2) = .string (sb.extract 0 t2) := by rw [← hsl.out]; exact sv_take sb t2
          have yy : ((sb.extract 0 t2).toList == (sb.extract 0 t2).toList) = true := by simp
          have t2s : (t2 : Int) ≤ (sb.size : Int) := by omega
          obtain ⟨lf, hlf0⟩ : ∃ lf, N - t2 = lf := ⟨_, rfl⟩
          have hlf : (t2 : Int) + (lf : Int) = (N : Int) := by omega
          have hlf2 : (lf : Int) ≤ (N : Int) := by omega
          have yN : ((N : Int) == (N : Int)) = true := by simp
          have yN2 : ((N : Int) != (N : Int)) = false := by simp
          have yy2 : ((sb.extract 0 t2).toList != (sb.extract 0 t2).toList) = false := by simp
          rw [hlf0] at hdl
          have h3b : t2 ≤ (k + 1) * 1400 := by rw [← htt.out]; omega
          have H3b := hid h3b
          clear h3b
          rw [hlf0]
          clear hlf0
          by_cases h0 : lf = 0
          · rw [if_pos h0]
            clear h0
            go_wp2_with (go_at_call 31; fail)
            go_at_call 31
            refine (wDone_any B WB _ _ w3 (HT.out.below D3.out.bl hT) D3.out.wri).mono ?_
            rw [show (WSt.ok (sl.take t2)).text = sl.take t2 from rfl, show (WSt.ok (sl.take t2)).err = 0 from rfl, ee]
            rintro z w4 ⟨rfl, q4⟩
            have D4 := hid (D3.out.below q4)
            clear q4
            go_wp2_with (go_at_call 15; fail)
            go_at_call 15
            refine (left_any RB _ w4 D4.out.rd).mono ?_
            rw [show (RS.mk (sl.drop t2) t2 0).rest.length = lf from hdl]
            rintro z w' ⟨rfl, hw'⟩; rw [hw']; clear hw' w'
            go_wp2
            exact ⟨⟨k + 1, t2, v2, by omega, by go_num, by omega, H3b.out, D4⟩, by simp [intOf]; omega⟩
          · rw [if_neg h0]
            go_wp2_with (go_at_call 31; fail)
            go_at_call 31
            refine (wDone_any B WB _ _ w3 (HT.out.below D3.out.bl hT) D3.out.wri).mono ?_
            rw [show (WSt.ok (sl.take t2)).text = sl.take t2 from rfl, show (WSt.ok (sl.take t2)).err = 0 from rfl, ee]
            rintro z w4 ⟨rfl, q4⟩
            have D4 := hid (D3.out.below q4)
            clear q4
            go_wp2_with (go_at_call 15; fail)
            go_at_call 15
            refine (left_any RB _ w4 D4.out.rd).mono ?_
            rw [show (RS.mk (sl.drop t2) t2 0).rest.length = lf from hdl]
            rintro z w' ⟨rfl, hw'⟩; rw [hw']; clear hw' w'
            go_wp2
            exact ⟨⟨k + 1, t2, v2, by omega, by go_num, by omega, H3b.out, D4⟩, by simp [intOf]; omega⟩
      · cases hx : rdText (sl.drop t) (m : Int) with
        | bad e =>
          have he1 := nz_text (sl.drop t) (m : Int) e hx
          have he2 := nw_text (sl.drop t) (m : Int) e hx
          have he3 : ((e : Int) == 0) = false := by simp; omega
          have he4 : ((e : Int) == 24) = false := by simp; omega
          have he5 : ((e : Int) != 0) = true := by simp; omega
          have he6 : ((e : Int) != 24) = true := by simp; omega
          go_wp2_with (first
            | (go_at_call 15; refine (left_any RB _ wr D.out.rd).mono ?_; rw [hleft]; rintro z w' ⟨rfl, hw'⟩; rw [hw']; clear hw' w')
            | (go_at_call 10; fail))
          go_at_call 10
          refine (pick_at hm h40a h40b (by omega) (by omega) _).mono ?_
          rintro z w' ⟨rfl, hw'⟩; rw [hw']; clear hw' w'
          go_wp2_with (go_at_call 10; fail)
          go_at_call 10
          refine (pick_at hkd hc1 hc2 (by omega) (by omega) _).mono ?_
          rintro z w' ⟨rfl, hw'⟩; rw [hw']; clear hw' w'
          go_wp2_with (go_at_call 23; fail)
          go_at_call 23
          refine (rText_any RB _ (m : Int) wr D.out.rd).mono ?_
          rw [hx]
          rw [step_badx rfl, val_badx rfl]
          rintro z w1 ⟨rfl, r1, r2⟩
          have D1 := hid (D.out.read r1 r2)
          clear r1 r2
          rw [show sv [] = .string ⟨#[]⟩ from rfl]
          go_wp2_with (go_at_call 22; fail)
          go_at_call 22
          refine (wText_any B WB _ _ ⟨#[]⟩ (m : Int) _ (by decide) D1.out.wri D1.out.base (fun bs hbs => by cases hbs; rw [List.length_take, show (wrText (ByteArray.mk #[]).data.toList).length = 1 from by rw [show (ByteArray.mk #[]).data.toList = [] from rfl, wrText, show ([] : List UInt8).length = 0 from rfl, digs_small (by omega)]; rfl]; omega)).mono ?_
          rintro z w2 ⟨rfl, v2, g1, g2, g3⟩
          have D2 := hid (D1.out.write g1 g2 g3)
          clear g1 g2 g3
          go_wp2_with (go_at_call 30; fail)
          go_at_call 30
          refine (rDone_any RB _ w2 (HT.out.below D2.out.bl hT) D2.out.rd).mono ?_
          rw [show (RS.mk (sl.drop t) t (e : Int)).done = (e : Int) from by rw [RS.done, if_neg (by show ¬ (e : Int) = 0; omega)]]
          rintro z w3 ⟨rfl, q3⟩
          have D3 := hid (D2.out.below q3)
          clear q3
          go_wp2_with (go_at_call 15; fail)
          go_at_call 15
          refine (left_any RB _ w3 D3.out.rd).mono ?_
          rw [show (RS.mk (sl.drop t) t (e : Int)).rest.length = was from hleft]
          rintro z w' ⟨rfl, hw'⟩; rw [hw']; clear hw' w'
          go_wp2
          go_ret
          exact ⟨rfl, by first | exact D3.out.bl | (rw [hB]; exact D3.out.bl)⟩
        | good x r =>
          obtain ⟨a1, a2, a3, a4⟩ := text_again hx
          obtain ⟨ht2, ht3, ht4⟩ := again_step ht a2
          obtain ⟨t2, htt⟩ : ∃ t2, Hid (t + (wrText x).length = t2) := ⟨_, rfl⟩
          have hbl : (wrText x).length ≤ 1300 := by have := a4 (by omega); omega
          have hrl : (sl.drop t).length - r.length = (wrText x).length := by rw [a2, List.length_append]; omega
          have hst : RS.mk r (t + ((sl.drop t).length - r.length)) 0 = ⟨sl.drop t2, t2, 0⟩ := by rw [hrl, htt.out, ← htt.out, ht4]
          rw [htt.out] at ht2
          have htk : sl.take t ++ wrText x = sl.take t2 := by rw [← htt.out]; exact ht3
          have hput : (WSt.ok (sl.take t)).put (textErr x.length (m : Int)) (wrText x) = .ok (sl.take t ++ wrText x) := by rw [WSt.put, if_pos a1]
          rw [htk] at hput
          have hdl : (sl.drop t2).length = N - t2 := by rw [List.length_drop, hN]
          obtain ⟨xb, hxb⟩ : ∃ xb, Hid (sv x = .string xb) := ⟨_, rfl⟩
          obtain ⟨hxd, hxz⟩ := str_eta hxb.out
          go_wp2_with (first
            | (go_at_call 15; refine (left_any RB _ wr D.out.rd).mono ?_; rw [hleft]; rintro z w' ⟨rfl, hw'⟩; rw [hw']; clear hw' w')
            | (go_at_call 10; fail))
          go_at_call 10
          refine (pick_at hm h40a h40b (by omega) (by omega) _).mono ?_
          rintro z w' ⟨rfl, hw'⟩; rw [hw']; clear hw' w'
          go_wp2_with (go_at_call 10; fail)
          go_at_call 10
          refine (pick_at hkd hc1 hc2 (by omega) (by omega) _).mono ?_
          rintro z w' ⟨rfl, hw'⟩; rw [hw']; clear hw' w'
          go_wp2_with (go_at_call 23; fail)
          go_at_call 23
          refine (rText_any RB _ (m : Int) wr D.out.rd).mono ?_
          rw [hx]
          rw [step_good rfl, val_good rfl]
          rintro z w1 ⟨rfl, r1, r2⟩
          have D1 := hid (D.out.read r1 r2)
          clear r1 r2
          rw [hxb.out]
          rw [hst] at D1
          go_wp2_with (go_at_call 22; fail)
          go_at_call 22
          refine (wText_any B WB _ _ xb (m : Int) _ (by rw [hxz]; omega) D1.out.wri D1.out.base (fun bs hbs => by cases hbs; have := a4 (by omega); rw [List.length_take, hxd]; omega)).mono ?_
          rw [hxz, hxd]
          rw [hput]
          rintro z w2 ⟨rfl, v2, g1, g2, g3⟩
          have D2 := hid (D1.out.write g1 g2 g3)
          have HTK := hid hst
          clear g1 g2 g3 hst hput htk hrl a2 ht3 ht4 hx
          go_wp2_with (go_at_call 30; fail)
          go_at_call 30
          refine (rDone_any RB _ w2 (HT.out.below D2.out.bl hT) D2.out.rd).mono ?_
          have hdn : (RS.mk (sl.drop t2) t2 0).done = if N - t2 = 0 then 0 else 24 := by rw [RS.done, if_pos rfl]; show (if (sl.drop t2).length = 0 then _ else _) = _; rw [hdl]
          rw [hdn]
          rintro z w3 ⟨rfl, q3⟩
          have D3 := hid (D2.out.below q3)
          clear q3 hdn
          have ee : sv (sl.take t2) = .string (sb.extract 0 t2) := by rw [← hsl.out]; exact sv_take sb t2
          have yy : ((sb.extract 0 t2).toList == (sb.extract 0 t2).toList) = true := by simp
          have t2s : (t2 : Int) ≤ (sb.size : Int) := by omega
          obtain ⟨lf, hlf0⟩ : ∃ lf, N - t2 = lf := ⟨_, rfl⟩
          have hlf : (t2 : Int) + (lf : Int) = (N : Int) := by omega
          have hlf2 : (lf : Int) ≤ (N : Int) := by omega
          have yN : ((N : Int) == (N : Int)) = true := by simp
          have yN2 : ((N : Int) != (N : Int)) = false := by simp
          have yy2 : ((sb.extract 0 t2).toList != (sb.extract 0 t2).toList) = false := by simp
          rw [hlf0] at hdl
          have h3b : t2 ≤ (k + 1) * 1400 := by rw [← htt.out]; omega
          have H3b := hid h3b
          clear h3b
          rw [hlf0]
          clear hlf0
          by_cases h0 : lf = 0
          · rw [if_pos h0]
            clear h0
            go_wp2_with (go_at_call 31; fail)
            go_at_call 31
            refine (wDone_any B WB _ _ w3 (HT.out.below D3.out.bl hT) D3.out.wri).mono ?_
            rw [show (WSt.ok (sl.take t2)).text = sl.take t2 from rfl, show (WSt.ok (sl.take t2)).err = 0 from rfl, ee]
            rintro z w4 ⟨rfl, q4⟩
            have D4 := hid (D3.out.below q4)
            clear q4
            go_wp2_with (go_at_call 15; fail)
            go_at_call 15
            refine (left_any RB _ w4 D4.out.rd).mono ?_
            rw [show (RS.mk (sl.drop t2) t2 0).rest.length = lf from hdl]
            rintro z w' ⟨rfl, hw'⟩; rw [hw']; clear hw' w'
            go_wp2
            exact ⟨⟨k + 1, t2, v2, by omega, by go_num, by omega, H3b.out, D4⟩, by simp [intOf]; omega⟩
          · rw [if_neg h0]
            go_wp2_with (go_at_call 31; fail)
            go_at_call 31
            refine (wDone_any B WB _ _ w3 (HT.out.below D3.out.bl hT) D3.out.wri).mono ?_
            rw [show (WSt.ok (sl.take t2)).text = sl.take t2 from rfl, show (WSt.ok (sl.take t2)).err = 0 from rfl, ee]
            rintro z w4 ⟨rfl, q4⟩
            have D4 := hid (D3.out.below q4)
            clear q4
            go_wp2_with (go_at_call 15; fail)
            go_at_call 15
            refine (left_any RB _ w4 D4.out.rd).mono ?_
            rw [show (RS.mk (sl.drop t2) t2 0).rest.length = lf from hdl]
            rintro z w' ⟨rfl, hw'⟩; rw [hw']; clear hw' w'
            go_wp2
            exact ⟨⟨k + 1, t2, v2, by omega, by go_num, by omega, H3b.out, D4⟩, by simp [intOf]; omega⟩
      · cases hx : rdTexts (sl.drop t) (m : Int) 9 with
        | bad e =>
          have he1 := nz_texts (sl.drop t) (m : Int) 9 e hx
          have he2 := nw_texts (sl.drop t) (m : Int) 9 e hx
          have he3 : ((e : Int) == 0) = false := by simp; omega
          have he4 : ((e : Int) == 24) = false := by simp; omega
          have he5 : ((e : Int) != 0) = true := by simp; omega
          have he6 : ((e : Int) != 24) = true := by simp; omega
          go_wp2_with (first
            | (go_at_call 15; refine (left_any RB _ wr D.out.rd).mono ?_; rw [hleft]; rintro z w' ⟨rfl, hw'⟩; rw [hw']; clear hw' w')
            | (go_at_call 10; fail))
          go_at_call 10
          refine (pick_at hm h40a h40b (by omega) (by omega) _).mono ?_
          rintro z w' ⟨rfl, hw'⟩; rw [hw']; clear hw' w'
          go_wp2_with (go_at_call 10; fail)
          go_at_call 10
          refine (pick_at hkd hc1 hc2 (by omega) (by omega) _).mono ?_
          rintro z w' ⟨rfl, hw'⟩; rw [hw']; clear hw' w'
          go_wp2_with (go_at_call 25; fail)
          go_at_call 25
          refine (rTexts_any RB _ (m : Int) 9 wr (.inr (by omega)) D.out.rd).mono ?_
          rw [hx]
          rw [step_badx rfl, val_badx rfl]
          rintro z w1 ⟨u, rfl, ou, r1, r2⟩
          have OU := hid ou
          have D1 := hid (D.out.read r1 r2)
          obtain ⟨ua, un, uc, rfl⟩ := Own.sl ou
          clear ou r1 r2
          go_wp2_with (go_at_call 24; fail)
          go_at_call 24
          refine (wTexts_any B WB _ _ _ [] (m : Int) 9 (by simp) _ OU.out.slcT (OU.out.apart (fun k hk => (D.out.wri.in k hk).2)) D1.out.wri D1.out.base (fun bs hbs => by cases hbs; rw [List.length_take, show wrTexts [] = digs 0 from by simp [wrTexts]]; have := digs_len9 (n := 0) (by omega); omega)).mono ?_
          rintro z w2 ⟨rfl, v2, g1, g2, g3⟩
          have D2 := hid (D1.out.write g1 g2 g3)
          clear g1 g2 g3
          go_wp2_with (go_at_call 30; fail)
          go_at_call 30
          refine (rDone_any RB _ w2 (HT.out.below D2.out.bl hT) D2.out.rd).mono ?_
          rw [show (RS.mk (sl.drop t) t (e : Int)).done = (e : Int) from by rw [RS.done, if_neg (by show ¬ (e : Int) = 0; omega)]]
          rintro z w3 ⟨rfl, q3⟩
          have D3 := hid (D2.out.below q3)
          clear q3
          go_wp2_with (go_at_call 15; fail)
          go_at_call 15
          refine (left_any RB _ w3 D3.out.rd).mono ?_
          rw [show (RS.mk (sl.drop t) t (e : Int)).rest.length = was from hleft]
          rintro z w' ⟨rfl, hw'⟩; rw [hw']; clear hw' w'
          go_wp2
          go_ret
          exact ⟨rfl, by first | exact D3.out.bl | (rw [hB]; exact D3.out.bl)⟩
        | good x r =>
          obtain ⟨a1, a2, a3, a4⟩ := texts_again hx
          obtain ⟨ht2, ht3, ht4⟩ := again_step ht a2
          obtain ⟨t2, htt⟩ : ∃ t2, Hid (t + (wrTexts x).length = t2) := ⟨_, rfl⟩
          have hbl : (wrTexts x).length ≤ 1300 := by have := a4 (by omega); omega
          have hrl : (sl.drop t).length - r.length = (wrTexts x).length := by rw [a2, List.length_append]; omega
          have hst : RS.mk r (t + ((sl.drop t).length - r.length)) 0 = ⟨sl.drop t2, t2, 0⟩ := by rw [hrl, htt.out, ← htt.out, ht4]
          rw [htt.out] at ht2
          have htk : sl.take t ++ wrTexts x = sl.take t2 := by rw [← htt.out]; exact ht3
          have hput : (WSt.ok (sl.take t)).put (textsErr x (m : Int) 9) (wrTexts x) = .ok (sl.take t ++ wrTexts x) := by rw [WSt.put, if_pos a1]
          rw [htk] at hput
          have hdl : (sl.drop t2).length = N - t2 := by rw [List.length_drop, hN]
          go_wp2_with (first
            | (go_at_call 15; refine (left_any RB _ wr D.out.rd).mono ?_; rw [hleft]; rintro z w' ⟨rfl, hw'⟩; rw [hw']; clear hw' w')
            | (go_at_call 10; fail))
          go_at_call 10
          refine (pick_at hm h40a h40b (by omega) (by omega) _).mono ?_
          rintro z w' ⟨rfl, hw'⟩; rw [hw']; clear hw' w'
          go_wp2_with (go_at_call 10; fail)
          go_at_call 10
          refine (pick_at hkd hc1 hc2 (by omega) (by omega) _).mono ?_
          rintro z w' ⟨rfl, hw'⟩; rw [hw']; clear hw' w'
          go_wp2_with (go_at_call 25; fail)
          go_at_call 25
          refine (rTexts_any RB _ (m : Int) 9 wr (.inr (by omega)) D.out.rd).mono ?_
          rw [hx]
          rw [step_good rfl, val_good rfl]
          rintro z w1 ⟨u, rfl, ou, r1, r2⟩
          have OU := hid ou
          have D1 := hid (D.out.read r1 r2)
          obtain ⟨ua, un, uc, rfl⟩ := Own.sl ou
          clear ou r1 r2
          rw [hst] at D1
          go_wp2_with (go_at_call 24; fail)
          go_at_call 24
          refine (wTexts_any B WB _ _ _ x (m : Int) 9 (by unfold maxLen; omega) _ OU.out.slcT (OU.out.apart (fun k hk => (D.out.wri.in k hk).2)) D1.out.wri D1.out.base (fun bs hbs => by cases hbs; have := a4 (by omega); rw [List.length_take]; omega)).mono ?_
          rw [hput]
          rintro z w2 ⟨rfl, v2, g1, g2, g3⟩
          have D2 := hid (D1.out.write g1 g2 g3)
          have HTK := hid hst
          clear g1 g2 g3 hst hput htk hrl a2 ht3 ht4 hx
          go_wp2_with (go_at_call 30; fail)
          go_at_call 30
          refine (rDone_any RB _ w2 (HT.out.below D2.out.bl hT) D2.out.rd).mono ?_
          have hdn : (RS.mk (sl.drop t2) t2 0).done = if N - t2 = 0 then 0 else 24 := by rw [RS.done, if_pos rfl]; show (if (sl.drop t2).length = 0 then _ else _) = _; rw [hdl]
          rw [hdn]
          rintro z w3 ⟨rfl, q3⟩
          have D3 := hid (D2.out.below q3)
          clear q3 hdn
          have ee : sv (sl.take t2) = .string (sb.extract 0 t2) := by rw [← hsl.out]; exact sv_take sb t2
          have yy : ((sb.extract 0 t2).toList == (sb.extract 0 t2).toList) = true := by simp
          have t2s : (t2 : Int) ≤ (sb.size : Int) := by omega
          obtain ⟨lf, hlf0⟩ : ∃ lf, N - t2 = lf := ⟨_, rfl⟩
          have hlf : (t2 : Int) + (lf : Int) = (N : Int) := by omega
          have hlf2 : (lf : Int) ≤ (N : Int) := by omega
          have yN : ((N : Int) == (N : Int)) = true := by simp
          have yN2 : ((N : Int) != (N : Int)) = false := by simp
          have yy2 : ((sb.extract 0 t2).toList != (sb.extract 0 t2).toList) = false := by simp
          rw [hlf0] at hdl
          have h3b : t2 ≤ (k + 1) * 1400 := by rw [← htt.out]; omega
          have H3b := hid h3b
          clear h3b
          rw [hlf0]
          clear hlf0
          by_cases h0 : lf = 0
          · rw [if_pos h0]
            clear h0
            go_wp2_with (go_at_call 31; fail)
            go_at_call 31
            refine (wDone_any B WB _ _ w3 (HT.out.below D3.out.bl hT) D3.out.wri).mono ?_
            rw [show (WSt.ok (sl.take t2)).text = sl.take t2 from rfl, show (WSt.ok (sl.take t2)).err = 0 from rfl, ee]
            rintro z w4 ⟨rfl, q4⟩
            have D4 := hid (D3.out.below q4)
            clear q4
            go_wp2_with (go_at_call 15; fail)
            go_at_call 15
            refine (left_any RB _ w4 D4.out.rd).mono ?_
            rw [show (RS.mk (sl.drop t2) t2 0).rest.length = lf from hdl]
            rintro z w' ⟨rfl, hw'⟩; rw [hw']; clear hw' w'
            go_wp2
            exact ⟨⟨k + 1, t2, v2, by omega, by go_num, by omega, H3b.out, D4⟩, by simp [intOf]; omega⟩
          · rw [if_neg h0]
            go_wp2_with (go_at_call 31; fail)
            go_at_call 31
            refine (wDone_any B WB _ _ w3 (HT.out.below D3.out.bl hT) D3.out.wri).mono ?_
            rw [show (WSt.ok (sl.take t2)).text = sl.take t2 from rfl, show (WSt.ok (sl.take t2)).err = 0 from rfl, ee]
            rintro z w4 ⟨rfl, q4⟩
            have D4 := hid (D3.out.below q4)
            clear q4
            go_wp2_with (go_at_call 15; fail)
            go_at_call 15
            refine (left_any RB _ w4 D4.out.rd).mono ?_
            rw [show (RS.mk (sl.drop t2) t2 0).rest.length = lf from hdl]
            rintro z w' ⟨rfl, hw'⟩; rw [hw']; clear hw' w'
            go_wp2
            exact ⟨⟨k + 1, t2, v2, by omega, by go_num, by omega, H3b.out, D4⟩, by simp [intOf]; omega⟩
      · cases hx : rdHashes (sl.drop t) (m : Int) with
        | bad e =>
          have he1 := nz_hashes (sl.drop t) (m : Int) e hx
          have he2 := nw_hashes (sl.drop t) (m : Int) e hx
          have he3 : ((e : Int) == 0) = false := by simp; omega
          have he4 : ((e : Int) == 24) = false := by simp; omega
          have he5 : ((e : Int) != 0) = true := by simp; omega
          have he6 : ((e : Int) != 24) = true := by simp; omega
          go_wp2_with (first
            | (go_at_call 15; refine (left_any RB _ wr D.out.rd).mono ?_; rw [hleft]; rintro z w' ⟨rfl, hw'⟩; rw [hw']; clear hw' w')
            | (go_at_call 10; fail))
          go_at_call 10
          refine (pick_at hm h40a h40b (by omega) (by omega) _).mono ?_
          rintro z w' ⟨rfl, hw'⟩; rw [hw']; clear hw' w'
          go_wp2_with (go_at_call 10; fail)
          go_at_call 10
          refine (pick_at hkd hc1 hc2 (by omega) (by omega) _).mono ?_
          rintro z w' ⟨rfl, hw'⟩; rw [hw']; clear hw' w'
          go_wp2_with (go_at_call 27; fail)
          go_at_call 27
          refine (rHashes_any RB _ (m : Int) wr (.inr (by omega)) D.out.rd).mono ?_
          rw [hx]
          rw [step_badx rfl, val_badx rfl]
          rintro z w1 ⟨u, rfl, ou, r1, r2⟩
          have OU := hid ou
          have D1 := hid (D.out.read r1 r2)
          obtain ⟨ua, un, uc, rfl⟩ := Own.sl ou
          clear ou r1 r2
          go_wp2_with (go_at_call 26; fail)
          go_at_call 26
          refine (wHashes_any B WB _ _ _ [] (m : Int) (by simp) _ OU.out.slcT (OU.out.apart (fun k hk => (D.out.wri.in k hk).2)) D1.out.wri D1.out.base (fun bs hbs => by cases hbs; rw [List.length_take, show wrHashes [] = digs 0 from by simp [wrHashes]]; have := digs_len9 (n := 0) (by omega); omega)).mono ?_
          rintro z w2 ⟨rfl, v2, g1, g2, g3⟩
          have D2 := hid (D1.out.write g1 g2 g3)
          clear g1 g2 g3
          go_wp2_with (go_at_call 30; fail)
          go_at_call 30
          refine (rDone_any RB _ w2 (HT.out.below D2.out.bl hT) D2.out.rd).mono ?_
          rw [show (RS.mk (sl.drop t) t (e : Int)).done = (e : Int) from by rw [RS.done, if_neg (by show ¬ (e : Int) = 0; omega)]]
          rintro z w3 ⟨rfl, q3⟩
          have D3 := hid (D2.out.below q3)
          clear q3
          go_wp2_with (go_at_call 15; fail)
          go_at_call 15
          refine (left_any RB _ w3 D3.out.rd).mono ?_
          rw [show (RS.mk (sl.drop t) t (e : Int)).rest.length = was from hleft]
          rintro z w' ⟨rfl, hw'⟩; rw [hw']; clear hw' w'
          go_wp2
          go_ret
          exact ⟨rfl, by first | exact D3.out.bl | (rw [hB]; exact D3.out.bl)⟩
        | good x r =>
          obtain ⟨a1, a2, a3, a4⟩ := hashes_again hx
          obtain ⟨ht2, ht3, ht4⟩ := again_step ht a2
          obtain ⟨t2, htt⟩ : ∃ t2, Hid (t + (wrHashes x).length = t2) := ⟨_, rfl⟩
          have hbl : (wrHashes x).length ≤ 1300 := by have := a4 (by omega); omega
          have hrl : (sl.drop t).length - r.length = (wrHashes x).length := by rw [a2, List.length_append]; omega
          have hst : RS.mk r (t + ((sl.drop t).length - r.length)) 0 = ⟨sl.drop t2, t2, 0⟩ := by rw [hrl, htt.out, ← htt.out, ht4]
          rw [htt.out] at ht2
          have htk : sl.take t ++ wrHashes x = sl.take t2 := by rw [← htt.out]; exact ht3
          have hput : (WSt.ok (sl.take t)).put (hashesErr x (m : Int)) (wrHashes x) = .ok (sl.take t ++ wrHashes x) := by rw [WSt.put, if_pos a1]
          rw [htk] at hput
          have hdl : (sl.drop t2).length = N - t2 := by rw [List.length_drop, hN]
          go_wp2_with (first
            | (go_at_call 15; refine (left_any RB _ wr D.out.rd).mono ?_; rw [hleft]; rintro z w' ⟨rfl, hw'⟩; rw [hw']; clear hw' w')
            | (go_at_call 10; fail))
          go_at_call 10
          refine (pick_at hm h40a h40b (by omega) (by omega) _).mono ?_
          rintro z w' ⟨rfl, hw'⟩; rw [hw']; clear hw' w'
          go_wp2_with (go_at_call 10; fail)
          go_at_call 10
          refine (pick_at hkd hc1 hc2 (by omega) (by omega) _).mono ?_
          rintro z w' ⟨rfl, hw'⟩; rw [hw']; clear hw' w'
          go_wp2_with (go_at_call 27; fail)
          go_at_call 27
          refine (rHashes_any RB _ (m : Int) wr (.inr (by omega)) D.out.rd).mono ?_
          rw [hx]
          rw [step_good rfl, val_good rfl]
          rintro z w1 ⟨u, rfl, ou, r1, r2⟩
          have OU := hid ou
          have D1 := hid (D.out.read r1 r2)
          obtain ⟨ua, un, uc, rfl⟩ := Own.sl ou
          clear ou r1 r2
          rw [hst] at D1
          go_wp2_with (go_at_call 26; fail)
          go_at_call 26
          refine (wHashes_any B WB _ _ _ x (m : Int) (by unfold maxLen; omega) _ OU.out.slcT (OU.out.apart (fun k hk => (D.out.wri.in k hk).2)) D1.out.wri D1.out.base (fun bs hbs => by cases hbs; have := a4 (by omega); rw [List.length_take]; omega)).mono ?_
          rw [hput]
          rintro z w2 ⟨rfl, v2, g1, g2, g3⟩
          have D2 := hid (D1.out.write g1 g2 g3)
          have HTK := hid hst
          clear g1 g2 g3 hst hput htk hrl a2 ht3 ht4 hx
          go_wp2_with (go_at_call 30; fail)
          go_at_call 30
          refine (rDone_any RB _ w2 (HT.out.below D2.out.bl hT) D2.out.rd).mono ?_
          have hdn : (RS.mk (sl.drop t2) t2 0).done = if N - t2 = 0 then 0 else 24 := by rw [RS.done, if_pos rfl]; show (if (sl.drop t2).length = 0 then _ else _) = _; rw [hdl]
          rw [hdn]
          rintro z w3 ⟨rfl, q3⟩
          have D3 := hid (D2.out.below q3)
          clear q3 hdn
          have ee : sv (sl.take t2) = .string (sb.extract 0 t2) := by rw [← hsl.out]; exact sv_take sb t2
          have yy : ((sb.extract 0 t2).toList == (sb.extract 0 t2).toList) = true := by simp
          have t2s : (t2 : Int) ≤ (sb.size : Int) := by omega
          obtain ⟨lf, hlf0⟩ : ∃ lf, N - t2 = lf := ⟨_, rfl⟩
          have hlf : (t2 : Int) + (lf : Int) = (N : Int) := by omega
          have hlf2 : (lf : Int) ≤ (N : Int) := by omega
          have yN : ((N : Int) == (N : Int)) = true := by simp
          have yN2 : ((N : Int) != (N : Int)) = false := by simp
          have yy2 : ((sb.extract 0 t2).toList != (sb.extract 0 t2).toList) = false := by simp
          rw [hlf0] at hdl
          have h3b : t2 ≤ (k + 1) * 1400 := by rw [← htt.out]; omega
          have H3b := hid h3b
          clear h3b
          rw [hlf0]
          clear hlf0
          by_cases h0 : lf = 0
          · rw [if_pos h0]
            clear h0
            go_wp2_with (go_at_call 31; fail)
            go_at_call 31
            refine (wDone_any B WB _ _ w3 (HT.out.below D3.out.bl hT) D3.out.wri).mono ?_
            rw [show (WSt.ok (sl.take t2)).text = sl.take t2 from rfl, show (WSt.ok (sl.take t2)).err = 0 from rfl, ee]
            rintro z w4 ⟨rfl, q4⟩
            have D4 := hid (D3.out.below q4)
            clear q4
            go_wp2_with (go_at_call 15; fail)
            go_at_call 15
            refine (left_any RB _ w4 D4.out.rd).mono ?_
            rw [show (RS.mk (sl.drop t2) t2 0).rest.length = lf from hdl]
            rintro z w' ⟨rfl, hw'⟩; rw [hw']; clear hw' w'
            go_wp2
            exact ⟨⟨k + 1, t2, v2, by omega, by go_num, by omega, H3b.out, D4⟩, by simp [intOf]; omega⟩
          · rw [if_neg h0]
            go_wp2_with (go_at_call 31; fail)
            go_at_call 31
            refine (wDone_any B WB _ _ w3 (HT.out.below D3.out.bl hT) D3.out.wri).mono ?_
            rw [show (WSt.ok (sl.take t2)).text = sl.take t2 from rfl, show (WSt.ok (sl.take t2)).err = 0 from rfl, ee]
            rintro z w4 ⟨rfl, q4⟩
            have D4 := hid (D3.out.below q4)
            clear q4
            go_wp2_with (go_at_call 15; fail)
            go_at_call 15
            refine (left_any RB _ w4 D4.out.rd).mono ?_
            rw [show (RS.mk (sl.drop t2) t2 0).rest.length = lf from hdl]
            rintro z w' ⟨rfl, hw'⟩; rw [hw']; clear hw' w'
            go_wp2
            exact ⟨⟨k + 1, t2, v2, by omega, by go_num, by omega, H3b.out, D4⟩, by simp [intOf]; omega⟩
      · cases hx : rdRaw (sl.drop t) (m : Int) with
        | bad e =>
          have he1 := nz_raw (sl.drop t) (m : Int) e hx
          have he2 := nw_raw (sl.drop t) (m : Int) e hx
          have he3 : ((e : Int) == 0) = false := by simp; omega
          have he4 : ((e : Int) == 24) = false := by simp; omega
          have he5 : ((e : Int) != 0) = true := by simp; omega
          have he6 : ((e : Int) != 24) = true := by simp; omega
          go_wp2_with (first
            | (go_at_call 15; refine (left_any RB _ wr D.out.rd).mono ?_; rw [hleft]; rintro z w' ⟨rfl, hw'⟩; rw [hw']; clear hw' w')
            | (go_at_call 10; fail))
          go_at_call 10
          refine (pick_at hm h40a h40b (by omega) (by omega) _).mono ?_
          rintro z w' ⟨rfl, hw'⟩; rw [hw']; clear hw' w'
          go_wp2_with (go_at_call 10; fail)
          go_at_call 10
          refine (pick_at hkd hc1 hc2 (by omega) (by omega) _).mono ?_
          rintro z w' ⟨rfl, hw'⟩; rw [hw']; clear hw' w'
          go_wp2_with (go_at_call 29; fail)
          go_at_call 29
          refine (rRaw_any RB _ (m : Int) wr D.out.rd).mono ?_
          rw [hx]
          rw [step_badx rfl, val_badx rfl]
          rintro z w1 ⟨rfl, r1, r2⟩
          have D1 := hid (D.out.read r1 r2)
          clear r1 r2
          rw [show sv [] = .string ⟨#[]⟩ from rfl]
          go_wp2_with (go_at_call 28; fail)
          go_at_call 28
          refine (wRaw_any B WB _ _ ⟨#[]⟩ _ D1.out.wri D1.out.base (fun bs hbs => by cases hbs; rw [List.length_take, show (ByteArray.mk #[]).size = 0 from rfl]; omega)).mono ?_
          rintro z w2 ⟨rfl, v2, g1, g2, g3⟩
          have D2 := hid (D1.out.write g1 g2 g3)
          clear g1 g2 g3
          go_wp2_with (go_at_call 30; fail)
          go_at_call 30
          refine (rDone_any RB _ w2 (HT.out.below D2.out.bl hT) D2.out.rd).mono ?_
          rw [show (RS.mk (sl.drop t) t (e : Int)).done = (e : Int) from by rw [RS.done, if_neg (by show ¬ (e : Int) = 0; omega)]]
          rintro z w3 ⟨rfl, q3⟩
          have D3 := hid (D2.out.below q3)
          clear q3
          go_wp2_with (go_at_call 15; fail)
          go_at_call 15
          refine (left_any RB _ w3 D3.out.rd).mono ?_
          rw [show (RS.mk (sl.drop t) t (e : Int)).rest.length = was from hleft]
          rintro z w' ⟨rfl, hw'⟩; rw [hw']; clear hw' w'
          go_wp2
          go_ret
          exact ⟨rfl, by first | exact D3.out.bl | (rw [hB]; exact D3.out.bl)⟩
        | good x r =>
          obtain ⟨a2, a3⟩ := raw_again hx
          obtain ⟨ht2, ht3, ht4⟩ := again_step ht a2
          obtain ⟨t2, htt⟩ : ∃ t2, Hid (t + (x).length = t2) := ⟨_, rfl⟩
          have hbl : (x).length ≤ 1300 := by omega
          have hrl : (sl.drop t).length - r.length = (x).length := by rw [a2, List.length_append]; omega
          have hst : RS.mk r (t + ((sl.drop t).length - r.length)) 0 = ⟨sl.drop t2, t2, 0⟩ := by rw [hrl, htt.out, ← htt.out, ht4]
          rw [htt.out] at ht2
          have htk : sl.take t ++ x = sl.take t2 := by rw [← htt.out]; exact ht3
          have hput : (WSt.ok (sl.take t)).put (0) (x) = .ok (sl.take t ++ x) := by rw [WSt.put, if_pos rfl]
          rw [htk] at hput
          have hdl : (sl.drop t2).length = N - t2 := by rw [List.length_drop, hN]
          obtain ⟨xb, hxb⟩ : ∃ xb, Hid (sv x = .string xb) := ⟨_, rfl⟩
          obtain ⟨hxd, hxz⟩ := str_eta hxb.out
          go_wp2_with (first
            | (go_at_call 15; refine (left_any RB _ wr D.out.rd).mono ?_; rw [hleft]; rintro z w' ⟨rfl, hw'⟩; rw [hw']; clear hw' w')
            | (go_at_call 10; fail))
          go_at_call 10
          refine (pick_at hm h40a h40b (by omega) (by omega) _).mono ?_
          rintro z w' ⟨rfl, hw'⟩; rw [hw']; clear hw' w'
          go_wp2_with (go_at_call 10; fail)
          go_at_call 10
          refine (pick_at hkd hc1 hc2 (by omega) (by omega) _).mono ?_
          rintro z w' ⟨rfl, hw'⟩; rw [hw']; clear hw' w'
          go_wp2_with (go_at_call 29; fail)
          go_at_call 29
          refine (rRaw_any RB _ (m : Int) wr D.out.rd).mono ?_
          rw [hx]
          rw [step_good rfl, val_good rfl]
          rintro z w1 ⟨rfl, r1, r2⟩
          have D1 := hid (D.out.read r1 r2)
          clear r1 r2
          rw [hxb.out]
          rw [hst] at D1
          go_wp2_with (go_at_call 28; fail)
          go_at_call 28
          refine (wRaw_any B WB _ _ xb _ D1.out.wri D1.out.base (fun bs hbs => by cases hbs; rw [List.length_take, hxz]; omega)).mono ?_
          rw [hxd]
          rw [hput]
          rintro z w2 ⟨rfl, v2, g1, g2, g3⟩
          have D2 := hid (D1.out.write g1 g2 g3)
          have HTK := hid hst
          clear g1 g2 g3 hst hput htk hrl a2 ht3 ht4 hx
          go_wp2_with (go_at_call 30; fail)
          go_at_call 30
          refine (rDone_any RB _ w2 (HT.out.below D2.out.bl hT) D2.out.rd).mono ?_
          have hdn : (RS.mk (sl.drop t2) t2 0).done = if N - t2 = 0 then 0 else 24 := by rw [RS.done, if_pos rfl]; show (if (sl.drop t2).length = 0 then _ else _) = _; rw [hdl]
          rw [hdn]
          rintro z w3 ⟨rfl, q3⟩
          have D3 := hid (D2.out.below q3)
          clear q3 hdn
          have ee : sv (sl.take t2) = .string (sb.extract 0 t2) := by rw [← hsl.out]; exact sv_take sb t2
          have yy : ((sb.extract 0 t2).toList == (sb.extract 0 t2).toList) = true := by simp
          have t2s : (t2 : Int) ≤ (sb.size : Int) := by omega
          obtain ⟨lf, hlf0⟩ : ∃ lf, N - t2 = lf := ⟨_, rfl⟩
          have hlf : (t2 : Int) + (lf : Int) = (N : Int) := by omega
          have hlf2 : (lf : Int) ≤ (N : Int) := by omega
          have yN : ((N : Int) == (N : Int)) = true := by simp
          have yN2 : ((N : Int) != (N : Int)) = false := by simp
          have yy2 : ((sb.extract 0 t2).toList != (sb.extract 0 t2).toList) = false := by simp
          rw [hlf0] at hdl
          have h3b : t2 ≤ (k + 1) * 1400 := by rw [← htt.out]; omega
          have H3b := hid h3b
          clear h3b
          rw [hlf0]
          clear hlf0
          by_cases h0 : lf = 0
          · rw [if_pos h0]
            clear h0
            go_wp2_with (go_at_call 31; fail)
            go_at_call 31
            refine (wDone_any B WB _ _ w3 (HT.out.below D3.out.bl hT) D3.out.wri).mono ?_
            rw [show (WSt.ok (sl.take t2)).text = sl.take t2 from rfl, show (WSt.ok (sl.take t2)).err = 0 from rfl, ee]
            rintro z w4 ⟨rfl, q4⟩
            have D4 := hid (D3.out.below q4)
            clear q4
            go_wp2_with (go_at_call 15; fail)
            go_at_call 15
            refine (left_any RB _ w4 D4.out.rd).mono ?_
            rw [show (RS.mk (sl.drop t2) t2 0).rest.length = lf from hdl]
            rintro z w' ⟨rfl, hw'⟩; rw [hw']; clear hw' w'
            go_wp2
            exact ⟨⟨k + 1, t2, v2, by omega, by go_num, by omega, H3b.out, D4⟩, by simp [intOf]; omega⟩
          · rw [if_neg h0]
            go_wp2_with (go_at_call 31; fail)
            go_at_call 31
            refine (wDone_any B WB _ _ w3 (HT.out.below D3.out.bl hT) D3.out.wri).mono ?_
            rw [show (WSt.ok (sl.take t2)).text = sl.take t2 from rfl, show (WSt.ok (sl.take t2)).err = 0 from rfl, ee]
            rintro z w4 ⟨rfl, q4⟩
            have D4 := hid (D3.out.below q4)
            clear q4
            go_wp2_with (go_at_call 15; fail)
            go_at_call 15
            refine (left_any RB _ w4 D4.out.rd).mono ?_
            rw [show (RS.mk (sl.drop t2) t2 0).rest.length = lf from hdl]
            rintro z w' ⟨rfl, hw'⟩; rw [hw']; clear hw' w'
            go_wp2
            exact ⟨⟨k + 1, t2, v2, by omega, by go_num, by omega, H3b.out, D4⟩, by simp [intOf]; omega⟩
    · obtain rfl : k = M := by omega
      by_cases he2 : ¬ (k : Int) < (cs.length : Int)
      · go_wp2
        go_ret
        exact ⟨rfl, by first | exact D.out.bl | (rw [hB]; exact D.out.bl)⟩
      · have he3 : (k : Int) < (cs.length : Int) := by omega
        have he' : ¬ (k : Int) < 100 := by omega
        go_wp2
        go_ret
        exact ⟨rfl, by first | exact D.out.bl | (rw [hB]; exact D.out.bl)⟩
end Go.Proofs.YtalkkekkojigjaaDoor
