import Derived.Test.YtcaephnicaepaaaDoorX5
import Derived.Test.YtcaephnicaepaaaDoorM6
namespace Go.Proofs.YtcaephnicaepaaaDoor
open Go.RowKit

/-- what wordOf says of k signs -/
def WordSays (l : List UInt8) (k : Nat) (w : World) (e : Ending) (w' : World) : Prop :=
  ∃ (n : Nat) (b : Bool), e = .returned (.tuple #[.int .u32 (n : Int), .bool b]) ∧ w' = w ∧ n < 16777216 ∧ Hid ((b = true → Tx.wOf l k = some n) ∧ (b = false → Tx.wOf l k = none))
set_option maxRecDepth 100000 in
set_option maxHeartbeats 1000000 in
theorem wordOf_any (s : ByteArray) (hs : s.size ≤ 4) (w : World) :
    Calls Tryd.prog 38 #[.string s] w fun e w' => WordSays s.data.toList s.size w e w' := by
  have hs' : (s.size : Int) ≤ 4 := by omega
  go_enter Tryd.func38, Tryd.ntmps38
  go_wp2
  go_loop [4, 10] (fun n i => ∃ k a : Nat, k ≤ s.size ∧ i = .int .i64 k ∧ n = .int .u32 (a : Int) ∧ Hid (Tx.wOf s.data.toList k = some a)) (fun _ i => s.size - (intOf i).toNat)
  case atStart => exact ⟨0, 0, by omega, rfl, rfl, rfl⟩
  case round =>
    obtain ⟨k, a, hk, rfl, rfl, ha⟩ := hrel
    have hinv := Tx.wOf_inv _ k a (by omega) ha.out
    have la := hinv.2
    have Hinv := hid hinv.1
    clear hinv
    by_cases hlt : k < s.size
    · have hlt' : (k : Int) < (s.size : Int) := by omega
      obtain ⟨x, ex, lx, _, jx⟩ := index_any s (k : Int) k rfl hlt
      have b1 : (k : Int) ≤ 3 := by omega
      go_wp2_with (go_at_call 50; fail)
      refine (baseValue_any x _).mono ?_
      rintro e w1 ⟨y, b, rfl, rfl, ly, hy⟩
      cases b
      · have hn := hid (Tx.wOf_bad s.data.toList k (by rw [← ex.out]; exact hy.out.2 rfl))
        go_wp2
        go_ret2
        refine ⟨0, false, rfl, rfl, by omega, hid ⟨(fun h => by cases h), (fun _ => ?_)⟩⟩
        have := Tx.wOf_none s.data.toList (s.size - (k + 1)) (k + 1) hn.out
        rwa [show k + 1 + (s.size - (k + 1)) = s.size from by omega] at this
      · have hn := hid (Tx.wOf_some s.data.toList k a y ha.out (by rw [← ex.out]; exact hy.out.1 rfl))
        have hor := Tx.or_word a y k (by omega) Hinv.out la ly
        have hw : (y : Int) * 2 ^ (18 - 6 * k) % 4294967296 = (y : Int) * 2 ^ (18 - 6 * k) := by
          have h2 : y * 2 ^ (18 - 6 * k) < 4294967296 := by
            have : 2 ^ (18 - 6 * k) ≤ 2 ^ 18 := Nat.pow_le_pow_right (by decide) (by omega)
            calc y * 2 ^ (18 - 6 * k) ≤ y * 2 ^ 18 := Nat.mul_le_mul_left _ this
              _ < 4294967296 := by omega
          have e2 : (y : Int) * 2 ^ (18 - 6 * k) = ((y * 2 ^ (18 - 6 * k) : Nat) : Int) := by rw [Int.natCast_mul, Int.natCast_pow]; rfl
          rw [e2]; omega
        generalize a + y * 2 ^ (18 - 6 * k) = a2 at *
        go_wp2
        exact ⟨⟨k + 1, a2, by omega, by go_num, rfl, hn⟩, by simp [intOf]; omega⟩
    · obtain rfl : k = s.size := by omega
      go_wp2
      go_ret2
      exact ⟨a, true, rfl, rfl, la, hid ⟨(fun _ => ha.out), (fun h => by cases h)⟩⟩

set_option maxRecDepth 100000 in
set_option maxHeartbeats 1000000 in
theorem hasSuffix_any (s t : ByteArray) (hs : s.size ≤ 1000) (h : t.size ≤ s.size) (w : World) :
    Calls Tryd.prog 55 #[.string s, .string t] w fun e w' => e = .returned (.bool (s.data.toList.drop (s.size - t.size) == t.data.toList)) ∧ w' = w := by
  have hs' : (s.size : Int) ≤ 1000 := by omega
  have h' : (t.size : Int) ≤ (s.size : Int) := by omega
  have t1 : ((s.size : Int) - (t.size : Int)).toNat = s.size - t.size := by omega
  have b1 : (0 : Int) ≤ (s.size : Int) - (t.size : Int) := by omega
  have e0 := hid (drop_rest s (s.size - t.size))
  go_enter Tryd.func55, Tryd.ntmps55
  go_wp2
  go_ret
  refine ⟨?_, rfl⟩
  show Ending.returned (.bool ((s.extract (s.size - t.size) s.size).toList == t.toList)) = _
  rw [ByteArray.toList_eq, ByteArray.toList_eq, e0.out]
theorem hasSuffix_top (s t : ByteArray) (hs : s.size ≤ 1000) (h : t.size ≤ s.size) (w : World) :
    Calls Tryd.prog 49 #[.string s, .string t] w fun e w' => e = .returned (.bool (s.data.toList.drop (s.size - t.size) == t.data.toList)) ∧ w' = w := by
  go_enter Tryd.func49, Tryd.ntmps49
  go_wp2_with (go_at_call 55; refine (hasSuffix_any s t hs h _).mono ?_; rintro e w1 ⟨rfl, rfl⟩)
  go_ret
  exact ⟨rfl, rfl⟩

theorem suffix_two (l : List UInt8) (h : l.length = 4) : (l.drop 2 == [61, 61]) = decide (l.getD 2 0 = 61 ∧ l.getD 3 0 = 61) := by
  match l, h with
  | [a, b, c, d], _ => simp [List.getD]; rfl
theorem suffix_one (l : List UInt8) (h : l.length = 4) : (l.drop 3 == [61]) = decide (l.getD 3 0 = 61) := by
  match l, h with
  | [a, b, c, d], _ => simp [List.getD]; rfl
set_option maxRecDepth 100000 in
set_option maxHeartbeats 1000000 in
theorem fillOf_any (g : ByteArray) (hg : g.size = 4) (w : World) :
    Calls Tryd.prog 37 #[.string g] w fun e w' => e = .returned (.int .i64 (Tx.fillOf g.data.toList : Nat)) ∧ w' = w := by
  have hl : g.data.toList.length = 4 := by rw [data_length]; exact hg
  have c2 := fun w => hasSuffix_top g (ByteArray.extract ⟨#[61, 61]⟩ 0 2) (by omega) (by rw [hg]; decide) w
  have c1 := fun w => hasSuffix_top g (ByteArray.extract ⟨#[61, 61]⟩ 0 1) (by omega) (by rw [hg]; decide) w
  have c0 := fun w => hasSuffix_top g (ByteArray.extract ⟨#[61, 61]⟩ 0 0) (by omega) (by rw [hg]; decide) w
  rw [hg, show 4 - (ByteArray.extract ⟨#[61, 61]⟩ 0 2).size = 2 from rfl, show (ByteArray.extract ⟨#[61, 61]⟩ 0 2).data.toList = [61, 61] from by decide +kernel, suffix_two _ hl] at c2
  rw [hg, show 4 - (ByteArray.extract ⟨#[61, 61]⟩ 0 1).size = 3 from rfl, show (ByteArray.extract ⟨#[61, 61]⟩ 0 1).data.toList = [61] from by decide +kernel, suffix_one _ hl] at c1
  rw [hg, show 4 - (ByteArray.extract ⟨#[61, 61]⟩ 0 0).size = 4 from rfl, show (ByteArray.extract ⟨#[61, 61]⟩ 0 0).data.toList = [] from by decide +kernel, List.drop_eq_nil_of_le (by omega)] at c0
  by_cases h2 : g.data.toList.getD 2 0 = 61 ∧ g.data.toList.getD 3 0 = 61
  · rw [Tx.fillOf, if_pos h2]
    rw [decide_eq_true h2] at c2
    have C2 := hid c2
    clear c0 c1 c2
    go_enter Tryd.func37, Tryd.ntmps37
    go_wp2
    refine wp_loop_rounds 1 ?_
    rw [rounds_succ]
    go_wp2_with (go_at_call 49; go_must (refine (C2.out _).mono ?_); rintro e w1 ⟨rfl, rfl⟩)
    go_ret
    exact ⟨rfl, rfl⟩
  · rw [decide_eq_false h2] at c2
    by_cases h1 : g.data.toList.getD 3 0 = 61
    · rw [Tx.fillOf, if_neg h2, if_pos h1]
      rw [decide_eq_true h1] at c1
      have C2 := hid c2
      have C1 := hid c1
      clear c0 c1 c2
      go_enter Tryd.func37, Tryd.ntmps37
      go_wp2
      refine wp_loop_rounds 2 ?_
      rw [rounds_succ]
      go_wp2_with (go_at_call 49; fail)
      refine (C2.out _).mono ?_
      rintro e w1 ⟨rfl, rfl⟩
      go_wp2_with (go_at_call 49; fail)
      rw [rounds_succ]
      go_wp2_with (go_at_call 49; fail)
      refine (C1.out _).mono ?_
      rintro e w1 ⟨rfl, rfl⟩
      go_wp2
      go_ret
      exact ⟨rfl, rfl⟩
    · rw [Tx.fillOf, if_neg h2, if_neg h1]
      rw [decide_eq_false h1] at c1
      have C2 := hid c2
      have C1 := hid c1
      have C0 := hid c0
      clear c0 c1 c2
      go_enter Tryd.func37, Tryd.ntmps37
      go_wp2
      refine wp_loop_rounds 3 ?_
      rw [rounds_succ]
      go_wp2_with (go_at_call 49; fail)
      refine (C2.out _).mono ?_
      rintro e w1 ⟨rfl, rfl⟩
      go_wp2_with (go_at_call 49; fail)
      rw [rounds_succ]
      go_wp2_with (go_at_call 49; fail)
      refine (C1.out _).mono ?_
      rintro e w1 ⟨rfl, rfl⟩
      go_wp2_with (go_at_call 49; fail)
      rw [rounds_succ]
      go_wp2_with (go_at_call 49; fail)
      refine (C0.out _).mono ?_
      rintro e w1 ⟨rfl, rfl⟩
      go_wp2
      go_ret
      exact ⟨rfl, rfl⟩
end Go.Proofs.YtcaephnicaepaaaDoor
