import Derived.Test.YtcaephnicaepaaaDoorX4
namespace Go.Proofs.YtcaephnicaepaaaDoor
open Go.RowKit

set_option maxHeartbeats 400000 in
theorem baseValue_up (n : Nat) (h1 : 65 ≤ n) (h2 : n ≤ 90) (w : World) :
    Calls Tryd.prog 50 #[.int .u8 (n : Int)] w fun e w' => e = .returned (.tuple #[.int .u32 ((n : Int) - 65), .bool true]) ∧ w' = w := by
  have g1 : (65 : Int) ≤ (n : Int) := by omega
  have g2 : (n : Int) ≤ 90 := by omega
  go_enter Tryd.func50, Tryd.ntmps50
  go_wp2
  go_ret2
  exact ⟨rfl, rfl⟩
set_option maxHeartbeats 400000 in
theorem baseValue_low (n : Nat) (h1 : 97 ≤ n) (h2 : n ≤ 122) (w : World) :
    Calls Tryd.prog 50 #[.int .u8 (n : Int)] w fun e w' => e = .returned (.tuple #[.int .u32 ((n : Int) - 97 + 26), .bool true]) ∧ w' = w := by
  have g1 : (97 : Int) ≤ (n : Int) := by omega
  have g2 : (n : Int) ≤ 122 := by omega
  have g3 : ¬ (n : Int) ≤ 90 := by omega
  have g4 : (65 : Int) ≤ (n : Int) := by omega
  go_enter Tryd.func50, Tryd.ntmps50
  go_wp2
  go_ret2
  exact ⟨rfl, rfl⟩
set_option maxHeartbeats 400000 in
theorem baseValue_dig (n : Nat) (h1 : 48 ≤ n) (h2 : n ≤ 57) (w : World) :
    Calls Tryd.prog 50 #[.int .u8 (n : Int)] w fun e w' => e = .returned (.tuple #[.int .u32 ((n : Int) - 48 + 52), .bool true]) ∧ w' = w := by
  have g1 : (48 : Int) ≤ (n : Int) := by omega
  have g2 : (n : Int) ≤ 57 := by omega
  have g3 : ¬ (65 : Int) ≤ (n : Int) := by omega
  have g4 : ¬ (97 : Int) ≤ (n : Int) := by omega
  go_enter Tryd.func50, Tryd.ntmps50
  go_wp2
  go_ret2
  exact ⟨rfl, rfl⟩
set_option maxHeartbeats 400000 in
theorem baseValue_plus (w : World) :
    Calls Tryd.prog 50 #[.int .u8 43] w fun e w' => e = .returned (.tuple #[.int .u32 62, .bool true]) ∧ w' = w := by
  go_enter Tryd.func50, Tryd.ntmps50
  go_wp2
  go_ret2
  exact ⟨rfl, rfl⟩
set_option maxHeartbeats 400000 in
theorem baseValue_slash (w : World) :
    Calls Tryd.prog 50 #[.int .u8 47] w fun e w' => e = .returned (.tuple #[.int .u32 63, .bool true]) ∧ w' = w := by
  go_enter Tryd.func50, Tryd.ntmps50
  go_wp2
  go_ret2
  exact ⟨rfl, rfl⟩
set_option maxHeartbeats 1000000 in
theorem baseValue_no (n : Nat) (h1 : ¬ (65 ≤ n ∧ n ≤ 90)) (h2 : ¬ (97 ≤ n ∧ n ≤ 122)) (h3 : ¬ (48 ≤ n ∧ n ≤ 57)) (h4 : n ≠ 43) (h5 : n ≠ 47) (w : World) :
    Calls Tryd.prog 50 #[.int .u8 (n : Int)] w fun e w' => e = .returned (.tuple #[.int .u32 0, .bool false]) ∧ w' = w := by
  have e1 : ((n : Int) == 43) = false := by simp; omega
  have e2 : ((n : Int) == 47) = false := by simp; omega
  have c1 : ¬ (65 : Int) ≤ (n : Int) ∨ ¬ (n : Int) ≤ 90 := by omega
  have c2 : ¬ (97 : Int) ≤ (n : Int) ∨ ¬ (n : Int) ≤ 122 := by omega
  have c3 : ¬ (48 : Int) ≤ (n : Int) ∨ ¬ (n : Int) ≤ 57 := by omega
  clear h1 h2 h3 h4 h5
  go_enter Tryd.func50, Tryd.ntmps50
  rcases c1 with g1 | g1 <;> rcases c2 with g2 | g2 <;> rcases c3 with g3 | g3
  all_goals try omega
  all_goals go_wp2
  all_goals try omega
  all_goals go_ret2
  all_goals exact ⟨rfl, rfl⟩
theorem baseValue_any (n : Nat) (w : World) :
    Calls Tryd.prog 50 #[.int .u8 (n : Int)] w fun e w' => ∃ (x : Nat) (b : Bool), e = .returned (.tuple #[.int .u32 (x : Int), .bool b]) ∧ w' = w ∧ x < 64 ∧ Hid ((b = true → Tx.val n = some x) ∧ (b = false → Tx.val n = none)) := by
  by_cases h1 : 65 ≤ n ∧ n ≤ 90
  · refine (baseValue_up n h1.1 h1.2 w).mono ?_
    rintro e w' ⟨rfl, rfl⟩
    exact ⟨n - 65, true, by rw [show ((n - 65 : Nat) : Int) = (n : Int) - 65 from by omega], rfl, by omega, hid ⟨(fun _ => by rw [Tx.val, if_pos h1]), (fun h => by cases h)⟩⟩
  by_cases h2 : 97 ≤ n ∧ n ≤ 122
  · refine (baseValue_low n h2.1 h2.2 w).mono ?_
    rintro e w' ⟨rfl, rfl⟩
    exact ⟨n - 71, true, by rw [show ((n - 71 : Nat) : Int) = (n : Int) - 97 + 26 from by omega], rfl, by omega, hid ⟨(fun _ => by rw [Tx.val, if_neg h1, if_pos h2]), (fun h => by cases h)⟩⟩
  by_cases h3 : 48 ≤ n ∧ n ≤ 57
  · refine (baseValue_dig n h3.1 h3.2 w).mono ?_
    rintro e w' ⟨rfl, rfl⟩
    exact ⟨n + 4, true, by rw [show ((n + 4 : Nat) : Int) = (n : Int) - 48 + 52 from by omega], rfl, by omega, hid ⟨(fun _ => by rw [Tx.val, if_neg h1, if_neg h2, if_pos h3]), (fun h => by cases h)⟩⟩
  by_cases h4 : n = 43
  · subst h4
    refine (baseValue_plus w).mono ?_
    rintro e w' ⟨rfl, rfl⟩
    exact ⟨62, true, rfl, rfl, by omega, hid ⟨(fun _ => rfl), (fun h => by cases h)⟩⟩
  by_cases h5 : n = 47
  · subst h5
    refine (baseValue_slash w).mono ?_
    rintro e w' ⟨rfl, rfl⟩
    exact ⟨63, true, rfl, rfl, by omega, hid ⟨(fun _ => rfl), (fun h => by cases h)⟩⟩
  · refine (baseValue_no n h1 h2 h3 h4 h5 w).mono ?_
    rintro e w' ⟨rfl, rfl⟩
    exact ⟨0, false, rfl, rfl, by omega, hid ⟨(fun h => by cases h), (fun _ => by rw [Tx.val, if_neg h1, if_neg h2, if_neg h3, if_neg h4, if_neg h5])⟩⟩
end Go.Proofs.YtcaephnicaepaaaDoor
