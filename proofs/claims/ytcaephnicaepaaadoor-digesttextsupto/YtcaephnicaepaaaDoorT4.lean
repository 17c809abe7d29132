import Derived.Test.YtcaephnicaepaaaDoorT3
namespace Go.Proofs.YtcaephnicaepaaaDoor
open Go.RowKit

theorem and63i (n : Nat) (h : n < 9223372036854775808) : bits .and .i64 (n : Int) 63 = ((n % 64 : Nat) : Int) := by
  rw [show (63 : Int) = ((63 : Nat) : Int) from rfl, Sha.i64_and_nat _ _ h (by omega), nat_mask6]
namespace Tx
theorem grp_at (g : List UInt8) (h : g.length ≤ 3) (j : Nat) (hj : j < 4) : (grp g)[j]? = some (if g.length < j then 61 else sgn (word3 g / 2 ^ (18 - 6 * j) % 64)) := by
  have hs := signs_at (word3 g) j hj
  unfold grp
  have hl : ((signs (word3 g)).take (g.length + 1)).length = g.length + 1 := by simp [signs]; omega
  by_cases e : g.length < j
  · rw [List.getElem?_append_right (by omega), if_pos e, List.getElem?_replicate, if_pos (by omega)]
  · rw [List.getElem?_append_left (by omega), if_neg e, List.getElem?_take, if_pos (by omega), ← hs, List.getD_eq_getElem?_getD]
    rw [List.getElem?_eq_getElem (by simpa [signs] using hj)]; rfl
theorem grp_take (g : List UInt8) (h : g.length ≤ 3) (j : Nat) (hj : j < 4) : (grp g).take (j + 1) = (grp g).take j ++ [if g.length < j then 61 else sgn (word3 g / 2 ^ (18 - 6 * j) % 64)] := by
  rw [List.take_add_one, grp_at g h j hj]; rfl
theorem b64_next (l : List UInt8) (h : 1 ≤ l.length) : b64 l = grp (l.take 3) ++ b64 (l.drop 3) := by
  by_cases h3 : 3 ≤ l.length
  · exact b64_three l h3
  · rw [b64_last l h (by omega), List.take_of_length_le (by omega), List.drop_of_length_le (by omega)]; simp [b64]
end Tx
theorem mid_getD (l : List UInt8) (a j : Nat) (hj : j < 3) : ((l.drop a).take 3).getD j 0 = l.getD (a + j) 0 := by
  simp only [List.getD_eq_getElem?_getD, List.getElem?_take, List.getElem?_drop, if_pos hj]

set_option maxRecDepth 100000 in
set_option maxHeartbeats 2000000 in
theorem rbase64_any (s : ByteArray) (hs : s.size ≤ 70368744177664) (w : World) :
    Calls Tryd.prog 25 #[.string s] w fun e w' => e = .returned (sv (Tx.b64 s.data.toList)) ∧ Below w.heap.size w w' := by
  have hs' : (s.size : Int) ≤ 70368744177664 := by omega
  obtain ⟨R, hR⟩ : ∃ R, Hid (Tx.b64 s.data.toList = R) := ⟨_, rfl⟩
  have hRl : Hid (R.length = (s.size + 2) / 3 * 4) := by rw [← hR.out, Tx.b64_length, data_length]; rfl
  rw [hR.out]
  go_enter Tryd.func25, Tryd.ntmps25
  go_wp2
  go_loopw [3, 4, 5, 6, 7, 8, 9] (fun v i _ _ _ _ _ w' => ∃ (k : Nat) (r : List UInt8), 3 * k < s.size + 3 ∧ i = .int .i64 ((3 * k : Nat) : Int) ∧ Hid (R = r ++ Tx.b64 (s.data.toList.drop (3 * k))) ∧ Hid (OwnB w' w.heap.size v r) ∧ Hid (Below w.heap.size w w')) (fun _ i _ _ _ _ _ _ => s.size + 3 - (intOf i).toNat)
  case atStart => exact ⟨0, [], by omega, rfl, by rw [List.nil_append]; exact hR.out.symm, Own.nil _ _, Below.refl _ _⟩
  case round =>
    obtain ⟨k, r, hk, rfl, hr, hown, hb⟩ := hrel
    by_cases hlt : 3 * k < s.size
    · have hlt' : ((3 * k : Nat) : Int) < (s.size : Int) := by omega
      obtain ⟨g, hg⟩ : ∃ g, Hid (g = (s.data.toList.drop (3 * k)).take 3) := ⟨_, rfl⟩
      have hgl : g.length = min 3 (s.size - 3 * k) := by rw [hg.out, List.length_take, List.length_drop, data_length]
      have hgd : Hid (∀ j, j < 3 → g.getD j 0 = s.data.toList.getD (3 * k + j) 0) := fun j hj => by rw [hg.out, mid_getD _ _ _ hj]
      have hr2 : Hid (R = (r ++ Tx.grp g) ++ Tx.b64 (s.data.toList.drop (3 * (k + 1)))) := by
        unfold Hid
        rw [hr.out, Tx.b64_next _ (by rw [List.length_drop, data_length]; omega), ← hg.out, List.drop_drop, List.append_assoc, show 3 * k + 3 = 3 * (k + 1) by omega]
      have hrl : r.length ≤ 140737488355000 := by
        have := congrArg List.length hr.out
        rw [hRl.out, List.length_append] at this
        omega
      clear hg hr
      go_wp2
      go_loop [5, 6, 7] (fun n m i => ∃ j : Nat, j ≤ 3 ∧ i = .int .i64 j ∧ n = .int .i64 (Tx.wk g j : Nat) ∧ m = .int .i64 ((min j g.length : Nat) : Int)) (fun _ _ i => 3 - (intOf i).toNat)
      case atStart => exact ⟨0, by omega, rfl, rfl, by simp⟩
      case round =>
        obtain ⟨j, hj, rfl, rfl, rfl⟩ := hrel
        by_cases hj3 : j < 3
        · have b0 : (j : Int) < 3 := by omega
          have lw : Tx.wk g j < 65536 := by
            have := Tx.wk_lt g j
            have h2 : 256 ^ j ≤ 256 ^ 2 := Nat.pow_le_pow_right (by decide) (by omega)
            omega
          have hwk := hid (show Tx.wk g (j + 1) = Tx.wk g j * 256 + (g.getD j 0).toNat from rfl)
          have c1 : IntKind.i64.wrap (256 * (Tx.wk g j : Int)) = 256 * (Tx.wk g j : Int) := wrap_small _ (by omega) (by omega)
          by_cases hin : j < g.length
          · have hin' : 3 * (k : Int) + (j : Int) < (s.size : Int) := by omega
            obtain ⟨x, ex, lx, _, jx⟩ := index_any s (3 * (k : Int) + (j : Int)) (3 * k + j) (by omega) (by omega)
            rw [hgd.out j hj3, ← ex.out] at hwk
            have t1 : (3 * (k : Int) + (j : Int)).toNat = 3 * k + j := by omega
            have hm1 : min j g.length = j := by omega
            have c2 : IntKind.i64.wrap (256 * (Tx.wk g j : Int) + x) = 256 * (Tx.wk g j : Int) + x := wrap_small _ (by omega) (by omega)
            rw [hm1]
            clear hm1
            generalize Tx.wk g j = a at *
            go_wp2
            exact ⟨⟨j + 1, by omega, by go_num, val_int (by rw [hwk.out]; omega), val_int (by omega)⟩, by simp [intOf]; omega⟩
          · have hin' : ¬ 3 * (k : Int) + (j : Int) < (s.size : Int) := by omega
            have hz : (g.getD j 0).toNat = 0 := by rw [List.getD_eq_getElem?_getD, List.getElem?_eq_none (by omega)]; rfl
            rw [hz] at hwk
            have hm1 : min j g.length = g.length := by omega
            rw [hm1]
            clear hm1
            generalize Tx.wk g j = a at *
            go_wp2
            exact ⟨⟨j + 1, by omega, by go_num, val_int (by rw [hwk.out]; omega), val_int (by omega)⟩, by simp [intOf]; omega⟩
        · obtain rfl : j = 3 := by omega
          have ln : Tx.wk g 3 < 16777216 := Tx.wk_lt g 3
          have Hn := hid (Tx.wk_three g)
          have hm3 : min 3 g.length = g.length := by omega
          rw [hm3]
          clear hm3
          generalize Tx.wk g 3 = n at *
          go_wp2
          go_loopw [3, 8, 9] (fun v i _ w' => ∃ j : Nat, j ≤ 4 ∧ i = .int .i64 j ∧ Hid (OwnB w' w.heap.size v (r ++ (Tx.grp g).take j)) ∧ Hid (Below w.heap.size w w')) (fun _ i _ _ => 4 - (intOf i).toNat)
          case atStart => exact ⟨0, by omega, rfl, hid (by simpa using hown.out), hb⟩
          case round =>
            clear hown hb
            obtain ⟨j, hj, rfl, hown, hb⟩ := hrel
            by_cases hj4 : j < 4
            · have b0 : (j : Int) < 4 := by omega
              have b1 : (j : Int) ≤ 3 := by omega
              have ediv : (n : Int) / 2 ^ (18 - 6 * j) = ((n / 2 ^ (18 - 6 * j) : Nat) : Int) := by rw [Int.natCast_ediv, Int.natCast_pow]; rfl
              have ldiv : n / 2 ^ (18 - 6 * j) < 9223372036854775808 := Nat.lt_of_le_of_lt (Nat.div_le_self _ _) (by omega)
              have hand : bits .and .i64 ((n : Int) / 2 ^ (18 - 6 * j)) 63 = (n : Int) / 2 ^ (18 - 6 * j) % 64 := by rw [ediv, and63i _ ldiv]; omega
              have htab := tab_at ((n : Int) / 2 ^ (18 - 6 * j) % 64) (n / 2 ^ (18 - 6 * j) % 64) (by rw [ediv]; omega) (by omega)
              have c0 : (0 : Int) ≤ (n : Int) / 2 ^ (18 - 6 * j) % 64 := by omega
              have c1 : (n : Int) / 2 ^ (18 - 6 * j) % 64 < 64 := by omega
              simp only [Tx.tab] at htab
              have hgt := Tx.grp_take g (by omega) j hj4
              rw [← Hn.out] at hgt
              have hlen : (r ++ (Tx.grp g).take j).length ≤ 140737488355100 := by rw [List.length_append, List.length_take]; omega
              by_cases hjm : g.length < j
              · have hjm' : (g.length : Int) < (j : Int) := by omega
                rw [if_pos hjm] at hgt
                obtain ⟨v2, w2, hc, hown2, hg2, _⟩ := append_new wr w.heap.size u3 _ [61] 1 #[.int .u8 61] rfl rfl hown.out (by omega) hb.out.size (by omega)
                rw [List.append_assoc, ← hgt] at hown2
                have Hown2 := hid hown2
                have Hb2 := hid (hb.out.trans (Below.ofGrown hg2 hown.out.ge hb.out.size))
                clear hown2 hg2 ediv ldiv hgt
                go_wp2_with (at_builtin; go_must (refine Lib.wpList_append_run _ rfl _ _ 48 48 rfl _ _ rfl rfl _ _ hc ?_))
                exact ⟨⟨j + 1, by omega, by go_num, Hown2, Hb2⟩, by simp [intOf]; omega⟩
              · have hjm' : ¬ (g.length : Int) < (j : Int) := by omega
                rw [if_neg hjm] at hgt
                obtain ⟨v2, w2, hc, hown2, hg2, _⟩ := append_new wr w.heap.size u3 _ [Tx.sgn (n / 2 ^ (18 - 6 * j) % 64)] 1 #[.int .u8 (Tx.sgn (n / 2 ^ (18 - 6 * j) % 64)).toNat] rfl rfl hown.out (by omega) hb.out.size (by omega)
                rw [List.append_assoc, ← hgt] at hown2
                have Hown2 := hid hown2
                have Hb2 := hid (hb.out.trans (Below.ofGrown hg2 hown.out.ge hb.out.size))
                clear hown2 hg2 ediv ldiv hgt
                generalize (Tx.sgn (n / 2 ^ (18 - 6 * j) % 64)).toNat = q at *
                go_wp2_with (at_builtin; go_must (refine Lib.wpList_append_run _ rfl _ _ 48 48 rfl _ _ rfl rfl _ _ hc ?_))
                exact ⟨⟨j + 1, by omega, by go_num, Hown2, Hb2⟩, by simp [intOf]; omega⟩
            · obtain rfl : j = 4 := by omega
              have hall := hown.out
              rw [List.take_of_length_le (by rw [Tx.grp_length _ (by omega) (by omega)]; omega)] at hall
              have Hall := hid hall
              clear hall
              go_wp2
              exact ⟨⟨k + 1, _, by omega, by go_num, hr2, Hall, hb⟩, by simp [intOf]; omega⟩
    · have hlt' : ¬ ((3 * k : Nat) : Int) < (s.size : Int) := by omega
      have hcv := conv_all hown.out
      have hf : Hid (R = r) := by
        have := hr.out
        rw [List.drop_of_length_le (by rw [data_length]; omega), Tx.b64, List.append_nil] at this
        exact this
      go_wp2
      go_ret
      exact ⟨by rw [hf.out]; rfl, hb.out⟩
end Go.Proofs.YtcaephnicaepaaaDoor
