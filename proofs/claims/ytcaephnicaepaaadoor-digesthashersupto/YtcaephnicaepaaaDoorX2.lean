import Derived.Test.YtcaephnicaepaaaDoorX1
namespace Go.Proofs.YtcaephnicaepaaaDoor
open Go.RowKit

set_option maxHeartbeats 400000 in
theorem hexValue_dig (n : Nat) (h1 : 48 ≤ n) (h2 : n ≤ 57) (w : World) :
    Calls Tryd.prog 36 #[.int .u8 (n : Int)] w fun e w' => e = .returned (.tuple #[.int .u8 ((n - 48 : Nat) : Int), .bool true]) ∧ w' = w := by
  have g1 : (48 : Int) ≤ (n : Int) := by omega
  have g2 : (n : Int) ≤ 57 := by omega
  have e1 : ((n - 48 : Nat) : Int) = (n : Int) - 48 := by omega
  go_enter Tryd.func36, Tryd.ntmps36
  go_wp2
  go_ret2
  exact ⟨by rw [e1]; rfl, rfl⟩
set_option maxHeartbeats 400000 in
theorem hexValue_let (n : Nat) (h1 : 97 ≤ n) (h2 : n ≤ 102) (w : World) :
    Calls Tryd.prog 36 #[.int .u8 (n : Int)] w fun e w' => e = .returned (.tuple #[.int .u8 ((n - 87 : Nat) : Int), .bool true]) ∧ w' = w := by
  have g1 : (97 : Int) ≤ (n : Int) := by omega
  have g2 : (n : Int) ≤ 102 := by omega
  have g3 : ¬ (n : Int) ≤ 57 := by omega
  have g4 : (48 : Int) ≤ (n : Int) := by omega
  have e1 : ((n - 87 : Nat) : Int) = (n : Int) - 97 + 10 := by omega
  go_enter Tryd.func36, Tryd.ntmps36
  go_wp2
  go_ret2
  exact ⟨rfl, rfl⟩
set_option maxHeartbeats 400000 in
theorem hexValue_no (n : Nat) (h1 : ¬ (48 ≤ n ∧ n ≤ 57)) (h2 : ¬ (97 ≤ n ∧ n ≤ 102)) (w : World) :
    Calls Tryd.prog 36 #[.int .u8 (n : Int)] w fun e w' => e = .returned (.tuple #[.int .u8 0, .bool false]) ∧ w' = w := by
  by_cases g1 : (48 : Int) ≤ (n : Int)
  · have g2 : ¬ (n : Int) ≤ 57 := by omega
    by_cases g3 : (97 : Int) ≤ (n : Int)
    · have g4 : ¬ (n : Int) ≤ 102 := by omega
      go_enter Tryd.func36, Tryd.ntmps36
      go_wp2
      go_ret2
      exact ⟨rfl, rfl⟩
    · go_enter Tryd.func36, Tryd.ntmps36
      go_wp2
      go_ret2
      exact ⟨rfl, rfl⟩
  · have g3 : ¬ (97 : Int) ≤ (n : Int) := by omega
    go_enter Tryd.func36, Tryd.ntmps36
    go_wp2
    go_ret2
    exact ⟨rfl, rfl⟩
theorem hexValue_any (n : Nat) (w : World) :
    Calls Tryd.prog 36 #[.int .u8 (n : Int)] w fun e w' => ∃ (x : Nat) (b : Bool), e = .returned (.tuple #[.int .u8 (x : Int), .bool b]) ∧ w' = w ∧ x < 16 ∧ Hid ((b = true → Tx.hexVal n = some x) ∧ (b = false → Tx.hexVal n = none)) := by
  by_cases h1 : 48 ≤ n ∧ n ≤ 57
  · refine (hexValue_dig n h1.1 h1.2 w).mono ?_
    rintro e w' ⟨rfl, rfl⟩
    exact ⟨_, true, rfl, rfl, by omega, hid ⟨fun _ => by rw [Tx.hexVal, if_pos h1], fun h => by cases h⟩⟩
  · by_cases h2 : 97 ≤ n ∧ n ≤ 102
    · refine (hexValue_let n h2.1 h2.2 w).mono ?_
      rintro e w' ⟨rfl, rfl⟩
      exact ⟨_, true, rfl, rfl, by omega, hid ⟨fun _ => by rw [Tx.hexVal, if_neg h1, if_pos h2], fun h => by cases h⟩⟩
    · refine (hexValue_no n h1 h2 w).mono ?_
      rintro e w' ⟨rfl, rfl⟩
      exact ⟨0, false, rfl, rfl, by omega, hid ⟨(fun h => by cases h), (fun _ => by rw [Tx.hexVal, if_neg h1, if_neg h2])⟩⟩

set_option maxRecDepth 100000 in
set_option maxHeartbeats 1000000 in
theorem fromHex_any (s : ByteArray) (hs : s.size ≤ 140737488355328) (w : World) :
    Calls Tryd.prog 12 #[.string s] w fun e w' => e = .returned (.tuple #[sv (Tx.fromHex s.data.toList).1, .int .i64 (Tx.fromHex s.data.toList).2]) ∧ Below w.heap.size w w' := by
  have hs' : (s.size : Int) ≤ 140737488355328 := by omega
  by_cases hodd : s.size % 2 = 1
  · have g : ((s.size : Int) % 2 != 0) = true := by simp; omega
    have hf : Hid (Tx.fromHex s.data.toList = ([], 10)) := by show _ = _; rw [Tx.fromHex, Tx.unhex_odd _ (by rw [data_length]; exact hodd)]
    go_enter Tryd.func12, Tryd.ntmps12
    go_wp2
    go_ret2
    exact ⟨by rw [hf.out]; rfl, Below.refl _ _⟩
  · have g : ((s.size : Int) % 2 != 0) = false := by simp; omega
    obtain ⟨w0, hmk, hown0, hb0⟩ := make_B w (s.size / 2) (by omega)
    have e2 : ((s.size / 2 : Nat) : Int) = (s.size : Int) / 2 := by omega
    rw [e2] at hmk
    have Hown0 := hid hown0
    have Hb0 := hid hb0
    clear hown0 hb0 e2
    go_enter Tryd.func12, Tryd.ntmps12
    go_wp2
    go_loopw [4, 5] (fun v i w' => ∃ (k : Nat) (a : Addr) (cap : Nat) (r : List UInt8), 2 * k ≤ s.size ∧ i = .int .i64 ((2 * k : Nat) : Int) ∧ v = .slice (some a) k cap ∧ Hid (Tx.unhex (s.data.toList.take (2 * k)) = some r) ∧ OwnB w' w.heap.size (.slice (some a) k cap) r ∧ Below w.heap.size w w') (fun _ i _ => s.size - (intOf i).toNat)
    case atStart => exact ⟨0, _, _, [], by omega, rfl, rfl, rfl, Hown0.out, Hb0.out⟩
    case round =>
      obtain ⟨k, a, cap, r, hk, rfl, rfl, hr, hown, hb⟩ := hrel
      obtain ⟨k2, hk2⟩ : ∃ k2, k2 = 2 * k := ⟨_, rfl⟩
      by_cases hlt : 2 * k < s.size
      · have hlt' : ((2 * k : Nat) : Int) < (s.size : Int) := by omega
        obtain ⟨x, ex, lx, _, jx⟩ := index_any s ((2 * k : Nat) : Int) (2 * k) rfl hlt
        obtain ⟨y, ey, ly, _, jy⟩ := index_any s (((2 * k : Nat) : Int) + 1) (2 * k + 1) (by omega) (by omega)
        go_wp2_with (go_at_call 36; fail)
        refine (hexValue_any x _).mono ?_
        rintro e w1 ⟨p, bp, rfl, rfl, lp, hp⟩
        go_wp2_with (go_at_call 36; fail)
        refine (hexValue_any y _).mono ?_
        rintro e w2 ⟨q, bq, rfl, rfl, lq, hq⟩
        have hd : 2 * k + 1 < s.data.toList.length := by rw [data_length]; omega
        have Hown := hid hown
        have Hb := hid hb
        cases bp
        · clear hown hb
          have hf : Hid (Tx.fromHex s.data.toList = ([], 10)) := by
            show _ = _
            rw [Tx.fromHex, Tx.unhex_bad _ r k hd hr.out (.inl (by rw [← ex.out]; exact hp.out.2 rfl))]
          go_wp2
          go_ret2
          exact ⟨by rw [hf.out]; rfl, Hb.out⟩
        · cases bq
          · clear hown hb
            have hf : Hid (Tx.fromHex s.data.toList = ([], 10)) := by
              show _ = _
              rw [Tx.fromHex, Tx.unhex_bad _ r k hd hr.out (.inr (by rw [← ey.out]; exact hq.out.2 rfl))]
            go_wp2
            go_ret2
            exact ⟨by rw [hf.out]; rfl, Hb.out⟩
          · have hst := Tx.unhex_step s.data.toList r k p q hd hr.out (by rw [← ex.out]; exact hp.out.1 rfl) (by rw [← ey.out]; exact hq.out.1 rfl)
            have hrl := Tx.unhex_length _ _ hr.out
            rw [List.length_take, data_length] at hrl
            have hor := Tx.orByte p q lp lq
            obtain ⟨v2, w3, hc, hown2, hg2, _⟩ := append_new w2 w.heap.size _ _ [UInt8.ofNat (16 * p + q)] 1 #[.int .u8 (UInt8.ofNat (16 * p + q)).toNat] rfl rfl hown (by omega) hb.size (by omega)
            have hl2 : (bv (r ++ [UInt8.ofNat (16 * p + q)])).length = k + 1 := by rw [bv_length, List.length_append]; simp; omega
            obtain ⟨a2, cap2, rfl⟩ := hown2.shapeS (by omega) _ hl2
            have Hown2 := hid hown2
            have Hb2 := hid (hb.trans (Below.ofGrown hg2 hown.ge hb.size))
            have Hst := hid hst
            clear hown2 hl2 hg2 hown hb hrl hst
            go_wp2_with (at_builtin; go_must (refine Lib.wpList_append_run _ rfl _ _ 48 48 rfl _ _ rfl rfl _ _ hc ?_))
            exact ⟨⟨k + 1, a2, cap2, _, by omega, by go_num, rfl, Hst, Hown2.out, Hb2.out⟩, by simp [intOf]; omega⟩
      · have hlt' : ¬ ((2 * k : Nat) : Int) < (s.size : Int) := by omega
        have hcv := conv_own hown (by intro h; injection h with h; cases h)
        have Hb := hid hb
        have hf : Hid (Tx.fromHex s.data.toList = (r, 0)) := by
          have := hr.out
          rw [List.take_of_length_le (by rw [data_length]; omega)] at this
          show _ = _
          rw [Tx.fromHex, this]
        clear hown hb
        go_wp2
        go_ret2
        exact ⟨by rw [hf.out]; rfl, Hb.out⟩
end Go.Proofs.YtcaephnicaepaaaDoor
