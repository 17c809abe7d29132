import Derived.Test.YtmhgdcfmfcjagaaGreatDoorPkME1
namespace Go.Proofs.YtmhgdcfmfcjagaaGreatDoor
open Go.RowKit Cod
namespace Msg

set_option maxRecDepth 100000 in
set_option maxHeartbeats 4000000 in
theorem spare17_E (x : Ask) (p1 p2 p3 : Option Addr) (q1 q2 q3 : Nat) (w : World) :
    Calls Tryz.prog 64 #[.agg #[.int .i64 x.kind, .int .i64 x.a, .int .i64 x.b, .int .i64 x.size, .slice p1 x.list.length q1, .slice p2 x.ent.length q2, .slice p3 x.n q3], .string ⟨#[]⟩] w fun e w' => e = .returned (.bool (spB x [])) ∧ Below w.heap.size w w' := by
  have i97 : ∀ w, Calls Tryz.prog 68 #[.string ⟨#[]⟩, .int .u8 97] w fun e w' => e = .returned (.bool false) ∧ w' = w := fun w => has17_any ⟨#[]⟩ 97 (by decide) w
  have i98 : ∀ w, Calls Tryz.prog 68 #[.string ⟨#[]⟩, .int .u8 98] w fun e w' => e = .returned (.bool false) ∧ w' = w := fun w => has17_any ⟨#[]⟩ 98 (by decide) w
  have i115 : ∀ w, Calls Tryz.prog 68 #[.string ⟨#[]⟩, .int .u8 115] w fun e w' => e = .returned (.bool false) ∧ w' = w := fun w => has17_any ⟨#[]⟩ 115 (by decide) w
  have i101 : ∀ w, Calls Tryz.prog 68 #[.string ⟨#[]⟩, .int .u8 101] w fun e w' => e = .returned (.bool false) ∧ w' = w := fun w => has17_any ⟨#[]⟩ 101 (by decide) w
  have i105 : ∀ w, Calls Tryz.prog 68 #[.string ⟨#[]⟩, .int .u8 105] w fun e w' => e = .returned (.bool false) ∧ w' = w := fun w => has17_any ⟨#[]⟩ 105 (by decide) w
  have i104 : ∀ w, Calls Tryz.prog 68 #[.string ⟨#[]⟩, .int .u8 104] w fun e w' => e = .returned (.bool false) ∧ w' = w := fun w => has17_any ⟨#[]⟩ 104 (by decide) w
  have i103 : ∀ w, Calls Tryz.prog 68 #[.string ⟨#[]⟩, .int .u8 103] w fun e w' => e = .returned (.bool false) ∧ w' = w := fun w => has17_any ⟨#[]⟩ 103 (by decide) w
  by_cases h0 : x.a = 0
  · have t0 : (x.a == 0) = true := by simp [h0]
    by_cases h1 : x.b = 0
    · have t1 : (x.b == 0) = true := by simp [h1]
      by_cases h2 : x.size = 0
      · have t2 : (x.size == 0) = true := by simp [h2]
        by_cases h3 : ¬ 0 < x.ent.length
        · have t3 : ¬ (0 : Int) < ((x.ent.length : Nat) : Int) := by omega
          by_cases h4 : ¬ 0 < x.list.length
          · have t4 : ¬ (0 : Int) < ((x.list.length : Nat) : Int) := by omega
            by_cases h5 : ¬ 0 < x.n
            · have t5 : ¬ (0 : Int) < ((x.n : Nat) : Int) := by omega
              rw [show spB x [] = false from by simp [spB, hasB, h0, h1, h2, h3, h4, h5]]
              go_enter Tryz.func64, Tryz.ntmps64
              go_wp2_with (go_at_call 68; (first | (with_reducible refine (i97 _).mono ?_) | (with_reducible refine (i98 _).mono ?_) | (with_reducible refine (i115 _).mono ?_) | (with_reducible refine (i101 _).mono ?_) | (with_reducible refine (i105 _).mono ?_) | (with_reducible refine (i104 _).mono ?_) | (with_reducible refine (i103 _).mono ?_)); rintro e w' ⟨rfl, hw'⟩; rw [hw']; clear hw' w')
              go_ret
              exact ⟨rfl, (Below.refl _ _).alloc (Nat.le_refl _) _⟩
            · have hn : 0 < x.n := by omega
              have t5 : (0 : Int) < ((x.n : Nat) : Int) := by omega
              rw [show spB x [] = true from by simp [spB, hasB, hn, h0, h1, h2, h3, h4]]
              go_enter Tryz.func64, Tryz.ntmps64
              go_wp2_with (go_at_call 68; (first | (with_reducible refine (i97 _).mono ?_) | (with_reducible refine (i98 _).mono ?_) | (with_reducible refine (i115 _).mono ?_) | (with_reducible refine (i101 _).mono ?_) | (with_reducible refine (i105 _).mono ?_) | (with_reducible refine (i104 _).mono ?_) | (with_reducible refine (i103 _).mono ?_)); rintro e w' ⟨rfl, hw'⟩; rw [hw']; clear hw' w')
              go_ret
              exact ⟨rfl, (Below.refl _ _).alloc (Nat.le_refl _) _⟩
          · have hn : 0 < x.list.length := by omega
            have t4 : (0 : Int) < ((x.list.length : Nat) : Int) := by omega
            rw [show spB x [] = true from by simp [spB, hasB, hn, h0, h1, h2, h3]]
            go_enter Tryz.func64, Tryz.ntmps64
            go_wp2_with (go_at_call 68; (first | (with_reducible refine (i97 _).mono ?_) | (with_reducible refine (i98 _).mono ?_) | (with_reducible refine (i115 _).mono ?_) | (with_reducible refine (i101 _).mono ?_) | (with_reducible refine (i105 _).mono ?_) | (with_reducible refine (i104 _).mono ?_) | (with_reducible refine (i103 _).mono ?_)); rintro e w' ⟨rfl, hw'⟩; rw [hw']; clear hw' w')
            go_ret
            exact ⟨rfl, (Below.refl _ _).alloc (Nat.le_refl _) _⟩
        · have hn : 0 < x.ent.length := by omega
          have t3 : (0 : Int) < ((x.ent.length : Nat) : Int) := by omega
          rw [show spB x [] = true from by simp [spB, hasB, hn, h0, h1, h2]]
          go_enter Tryz.func64, Tryz.ntmps64
          go_wp2_with (go_at_call 68; (first | (with_reducible refine (i97 _).mono ?_) | (with_reducible refine (i98 _).mono ?_) | (with_reducible refine (i115 _).mono ?_) | (with_reducible refine (i101 _).mono ?_) | (with_reducible refine (i105 _).mono ?_) | (with_reducible refine (i104 _).mono ?_) | (with_reducible refine (i103 _).mono ?_)); rintro e w' ⟨rfl, hw'⟩; rw [hw']; clear hw' w')
          go_ret
          exact ⟨rfl, (Below.refl _ _).alloc (Nat.le_refl _) _⟩
      · have hn : ¬ x.size = 0 := h2
        have t2 : (x.size == 0) = false := by simp [hn]
        rw [show spB x [] = true from by simp [spB, hasB, hn, h0, h1]]
        go_enter Tryz.func64, Tryz.ntmps64
        go_wp2_with (go_at_call 68; (first | (with_reducible refine (i97 _).mono ?_) | (with_reducible refine (i98 _).mono ?_) | (with_reducible refine (i115 _).mono ?_) | (with_reducible refine (i101 _).mono ?_) | (with_reducible refine (i105 _).mono ?_) | (with_reducible refine (i104 _).mono ?_) | (with_reducible refine (i103 _).mono ?_)); rintro e w' ⟨rfl, hw'⟩; rw [hw']; clear hw' w')
        go_ret
        exact ⟨rfl, (Below.refl _ _).alloc (Nat.le_refl _) _⟩
    · have hn : ¬ x.b = 0 := h1
      have t1 : (x.b == 0) = false := by simp [hn]
      rw [show spB x [] = true from by simp [spB, hasB, hn, h0]]
      go_enter Tryz.func64, Tryz.ntmps64
      go_wp2_with (go_at_call 68; (first | (with_reducible refine (i97 _).mono ?_) | (with_reducible refine (i98 _).mono ?_) | (with_reducible refine (i115 _).mono ?_) | (with_reducible refine (i101 _).mono ?_) | (with_reducible refine (i105 _).mono ?_) | (with_reducible refine (i104 _).mono ?_) | (with_reducible refine (i103 _).mono ?_)); rintro e w' ⟨rfl, hw'⟩; rw [hw']; clear hw' w')
      go_ret
      exact ⟨rfl, (Below.refl _ _).alloc (Nat.le_refl _) _⟩
  · have hn : ¬ x.a = 0 := h0
    have t0 : (x.a == 0) = false := by simp [hn]
    rw [show spB x [] = true from by simp [spB, hasB, hn]]
    go_enter Tryz.func64, Tryz.ntmps64
    go_wp2_with (go_at_call 68; (first | (with_reducible refine (i97 _).mono ?_) | (with_reducible refine (i98 _).mono ?_) | (with_reducible refine (i115 _).mono ?_) | (with_reducible refine (i101 _).mono ?_) | (with_reducible refine (i105 _).mono ?_) | (with_reducible refine (i104 _).mono ?_) | (with_reducible refine (i103 _).mono ?_)); rintro e w' ⟨rfl, hw'⟩; rw [hw']; clear hw' w')
    go_ret
    exact ⟨rfl, (Below.refl _ _).alloc (Nat.le_refl _) _⟩
set_option maxRecDepth 100000 in
set_option maxHeartbeats 4000000 in
theorem spare17_e (x : Ask) (p1 p2 p3 : Option Addr) (q1 q2 q3 : Nat) (w : World) :
    Calls Tryz.prog 64 #[.agg #[.int .i64 x.kind, .int .i64 x.a, .int .i64 x.b, .int .i64 x.size, .slice p1 x.list.length q1, .slice p2 x.ent.length q2, .slice p3 x.n q3], .string ⟨#[101]⟩] w fun e w' => e = .returned (.bool (spB x [101])) ∧ Below w.heap.size w w' := by
  have i97 : ∀ w, Calls Tryz.prog 68 #[.string ⟨#[101]⟩, .int .u8 97] w fun e w' => e = .returned (.bool false) ∧ w' = w := fun w => has17_any ⟨#[101]⟩ 97 (by decide) w
  have i98 : ∀ w, Calls Tryz.prog 68 #[.string ⟨#[101]⟩, .int .u8 98] w fun e w' => e = .returned (.bool false) ∧ w' = w := fun w => has17_any ⟨#[101]⟩ 98 (by decide) w
  have i115 : ∀ w, Calls Tryz.prog 68 #[.string ⟨#[101]⟩, .int .u8 115] w fun e w' => e = .returned (.bool false) ∧ w' = w := fun w => has17_any ⟨#[101]⟩ 115 (by decide) w
  have i101 : ∀ w, Calls Tryz.prog 68 #[.string ⟨#[101]⟩, .int .u8 101] w fun e w' => e = .returned (.bool true) ∧ w' = w := fun w => has17_any ⟨#[101]⟩ 101 (by decide) w
  have i105 : ∀ w, Calls Tryz.prog 68 #[.string ⟨#[101]⟩, .int .u8 105] w fun e w' => e = .returned (.bool false) ∧ w' = w := fun w => has17_any ⟨#[101]⟩ 105 (by decide) w
  have i104 : ∀ w, Calls Tryz.prog 68 #[.string ⟨#[101]⟩, .int .u8 104] w fun e w' => e = .returned (.bool false) ∧ w' = w := fun w => has17_any ⟨#[101]⟩ 104 (by decide) w
  have i103 : ∀ w, Calls Tryz.prog 68 #[.string ⟨#[101]⟩, .int .u8 103] w fun e w' => e = .returned (.bool false) ∧ w' = w := fun w => has17_any ⟨#[101]⟩ 103 (by decide) w
  by_cases h0 : x.a = 0
  · have t0 : (x.a == 0) = true := by simp [h0]
    by_cases h1 : x.b = 0
    · have t1 : (x.b == 0) = true := by simp [h1]
      by_cases h2 : x.size = 0
      · have t2 : (x.size == 0) = true := by simp [h2]
        by_cases h3 : ¬ 0 < x.list.length
        · have t3 : ¬ (0 : Int) < ((x.list.length : Nat) : Int) := by omega
          by_cases h4 : ¬ 0 < x.n
          · have t4 : ¬ (0 : Int) < ((x.n : Nat) : Int) := by omega
            rw [show spB x [101] = false from by simp [spB, hasB, h0, h1, h2, h3, h4]]
            go_enter Tryz.func64, Tryz.ntmps64
            go_wp2_with (go_at_call 68; (first | (with_reducible refine (i97 _).mono ?_) | (with_reducible refine (i98 _).mono ?_) | (with_reducible refine (i115 _).mono ?_) | (with_reducible refine (i101 _).mono ?_) | (with_reducible refine (i105 _).mono ?_) | (with_reducible refine (i104 _).mono ?_) | (with_reducible refine (i103 _).mono ?_)); rintro e w' ⟨rfl, hw'⟩; rw [hw']; clear hw' w')
            go_ret
            exact ⟨rfl, (Below.refl _ _).alloc (Nat.le_refl _) _⟩
          · have hn : 0 < x.n := by omega
            have t4 : (0 : Int) < ((x.n : Nat) : Int) := by omega
            rw [show spB x [101] = true from by simp [spB, hasB, hn, h0, h1, h2, h3]]
            go_enter Tryz.func64, Tryz.ntmps64
            go_wp2_with (go_at_call 68; (first | (with_reducible refine (i97 _).mono ?_) | (with_reducible refine (i98 _).mono ?_) | (with_reducible refine (i115 _).mono ?_) | (with_reducible refine (i101 _).mono ?_) | (with_reducible refine (i105 _).mono ?_) | (with_reducible refine (i104 _).mono ?_) | (with_reducible refine (i103 _).mono ?_)); rintro e w' ⟨rfl, hw'⟩; rw [hw']; clear hw' w')
            go_ret
            exact ⟨rfl, (Below.refl _ _).alloc (Nat.le_refl _) _⟩
        · have hn : 0 < x.list.length := by omega
          have t3 : (0 : Int) < ((x.list.length : Nat) : Int) := by omega
          rw [show spB x [101] = true from by simp [spB, hasB, hn, h0, h1, h2]]
          go_enter Tryz.func64, Tryz.ntmps64
          go_wp2_with (go_at_call 68; (first | (with_reducible refine (i97 _).mono ?_) | (with_reducible refine (i98 _).mono ?_) | (with_reducible refine (i115 _).mono ?_) | (with_reducible refine (i101 _).mono ?_) | (with_reducible refine (i105 _).mono ?_) | (with_reducible refine (i104 _).mono ?_) | (with_reducible refine (i103 _).mono ?_)); rintro e w' ⟨rfl, hw'⟩; rw [hw']; clear hw' w')
          go_ret
          exact ⟨rfl, (Below.refl _ _).alloc (Nat.le_refl _) _⟩
      · have hn : ¬ x.size = 0 := h2
        have t2 : (x.size == 0) = false := by simp [hn]
        rw [show spB x [101] = true from by simp [spB, hasB, hn, h0, h1]]
        go_enter Tryz.func64, Tryz.ntmps64
        go_wp2_with (go_at_call 68; (first | (with_reducible refine (i97 _).mono ?_) | (with_reducible refine (i98 _).mono ?_) | (with_reducible refine (i115 _).mono ?_) | (with_reducible refine (i101 _).mono ?_) | (with_reducible refine (i105 _).mono ?_) | (with_reducible refine (i104 _).mono ?_) | (with_reducible refine (i103 _).mono ?_)); rintro e w' ⟨rfl, hw'⟩; rw [hw']; clear hw' w')
        go_ret
        exact ⟨rfl, (Below.refl _ _).alloc (Nat.le_refl _) _⟩
    · have hn : ¬ x.b = 0 := h1
      have t1 : (x.b == 0) = false := by simp [hn]
      rw [show spB x [101] = true from by simp [spB, hasB, hn, h0]]
      go_enter Tryz.func64, Tryz.ntmps64
      go_wp2_with (go_at_call 68; (first | (with_reducible refine (i97 _).mono ?_) | (with_reducible refine (i98 _).mono ?_) | (with_reducible refine (i115 _).mono ?_) | (with_reducible refine (i101 _).mono ?_) | (with_reducible refine (i105 _).mono ?_) | (with_reducible refine (i104 _).mono ?_) | (with_reducible refine (i103 _).mono ?_)); rintro e w' ⟨rfl, hw'⟩; rw [hw']; clear hw' w')
      go_ret
      exact ⟨rfl, (Below.refl _ _).alloc (Nat.le_refl _) _⟩
  · have hn : ¬ x.a = 0 := h0
    have t0 : (x.a == 0) = false := by simp [hn]
    rw [show spB x [101] = true from by simp [spB, hasB, hn]]
    go_enter Tryz.func64, Tryz.ntmps64
    go_wp2_with (go_at_call 68; (first | (with_reducible refine (i97 _).mono ?_) | (with_reducible refine (i98 _).mono ?_) | (with_reducible refine (i115 _).mono ?_) | (with_reducible refine (i101 _).mono ?_) | (with_reducible refine (i105 _).mono ?_) | (with_reducible refine (i104 _).mono ?_) | (with_reducible refine (i103 _).mono ?_)); rintro e w' ⟨rfl, hw'⟩; rw [hw']; clear hw' w')
    go_ret
    exact ⟨rfl, (Below.refl _ _).alloc (Nat.le_refl _) _⟩
set_option maxRecDepth 100000 in
set_option maxHeartbeats 4000000 in
theorem spare17_m (x : Ask) (p1 p2 p3 : Option Addr) (q1 q2 q3 : Nat) (w : World) :
    Calls Tryz.prog 64 #[.agg #[.int .i64 x.kind, .int .i64 x.a, .int .i64 x.b, .int .i64 x.size, .slice p1 x.list.length q1, .slice p2 x.ent.length q2, .slice p3 x.n q3], .string ⟨#[45]⟩] w fun e w' => e = .returned (.bool (spB x [45])) ∧ Below w.heap.size w w' := by
  have i97 : ∀ w, Calls Tryz.prog 68 #[.string ⟨#[45]⟩, .int .u8 97] w fun e w' => e = .returned (.bool false) ∧ w' = w := fun w => has17_any ⟨#[45]⟩ 97 (by decide) w
  have i98 : ∀ w, Calls Tryz.prog 68 #[.string ⟨#[45]⟩, .int .u8 98] w fun e w' => e = .returned (.bool false) ∧ w' = w := fun w => has17_any ⟨#[45]⟩ 98 (by decide) w
  have i115 : ∀ w, Calls Tryz.prog 68 #[.string ⟨#[45]⟩, .int .u8 115] w fun e w' => e = .returned (.bool false) ∧ w' = w := fun w => has17_any ⟨#[45]⟩ 115 (by decide) w
  have i101 : ∀ w, Calls Tryz.prog 68 #[.string ⟨#[45]⟩, .int .u8 101] w fun e w' => e = .returned (.bool false) ∧ w' = w := fun w => has17_any ⟨#[45]⟩ 101 (by decide) w
  have i105 : ∀ w, Calls Tryz.prog 68 #[.string ⟨#[45]⟩, .int .u8 105] w fun e w' => e = .returned (.bool false) ∧ w' = w := fun w => has17_any ⟨#[45]⟩ 105 (by decide) w
  have i104 : ∀ w, Calls Tryz.prog 68 #[.string ⟨#[45]⟩, .int .u8 104] w fun e w' => e = .returned (.bool false) ∧ w' = w := fun w => has17_any ⟨#[45]⟩ 104 (by decide) w
  have i103 : ∀ w, Calls Tryz.prog 68 #[.string ⟨#[45]⟩, .int .u8 103] w fun e w' => e = .returned (.bool false) ∧ w' = w := fun w => has17_any ⟨#[45]⟩ 103 (by decide) w
  by_cases h0 : x.a = 0
  · have t0 : (x.a == 0) = true := by simp [h0]
    by_cases h1 : x.b = 0
    · have t1 : (x.b == 0) = true := by simp [h1]
      by_cases h2 : x.size = 0
      · have t2 : (x.size == 0) = true := by simp [h2]
        by_cases h3 : ¬ 0 < x.ent.length
        · have t3 : ¬ (0 : Int) < ((x.ent.length : Nat) : Int) := by omega
          by_cases h4 : ¬ 0 < x.list.length
          · have t4 : ¬ (0 : Int) < ((x.list.length : Nat) : Int) := by omega
            by_cases h5 : ¬ 0 < x.n
            · have t5 : ¬ (0 : Int) < ((x.n : Nat) : Int) := by omega
              rw [show spB x [45] = false from by simp [spB, hasB, h0, h1, h2, h3, h4, h5]]
              go_enter Tryz.func64, Tryz.ntmps64
              go_wp2_with (go_at_call 68; (first | (with_reducible refine (i97 _).mono ?_) | (with_reducible refine (i98 _).mono ?_) | (with_reducible refine (i115 _).mono ?_) | (with_reducible refine (i101 _).mono ?_) | (with_reducible refine (i105 _).mono ?_) | (with_reducible refine (i104 _).mono ?_) | (with_reducible refine (i103 _).mono ?_)); rintro e w' ⟨rfl, hw'⟩; rw [hw']; clear hw' w')
              go_ret
              exact ⟨rfl, (Below.refl _ _).alloc (Nat.le_refl _) _⟩
            · have hn : 0 < x.n := by omega
              have t5 : (0 : Int) < ((x.n : Nat) : Int) := by omega
              rw [show spB x [45] = true from by simp [spB, hasB, hn, h0, h1, h2, h3, h4]]
              go_enter Tryz.func64, Tryz.ntmps64
              go_wp2_with (go_at_call 68; (first | (with_reducible refine (i97 _).mono ?_) | (with_reducible refine (i98 _).mono ?_) | (with_reducible refine (i115 _).mono ?_) | (with_reducible refine (i101 _).mono ?_) | (with_reducible refine (i105 _).mono ?_) | (with_reducible refine (i104 _).mono ?_) | (with_reducible refine (i103 _).mono ?_)); rintro e w' ⟨rfl, hw'⟩; rw [hw']; clear hw' w')
              go_ret
              exact ⟨rfl, (Below.refl _ _).alloc (Nat.le_refl _) _⟩
          · have hn : 0 < x.list.length := by omega
            have t4 : (0 : Int) < ((x.list.length : Nat) : Int) := by omega
            rw [show spB x [45] = true from by simp [spB, hasB, hn, h0, h1, h2, h3]]
            go_enter Tryz.func64, Tryz.ntmps64
            go_wp2_with (go_at_call 68; (first | (with_reducible refine (i97 _).mono ?_) | (with_reducible refine (i98 _).mono ?_) | (with_reducible refine (i115 _).mono ?_) | (with_reducible refine (i101 _).mono ?_) | (with_reducible refine (i105 _).mono ?_) | (with_reducible refine (i104 _).mono ?_) | (with_reducible refine (i103 _).mono ?_)); rintro e w' ⟨rfl, hw'⟩; rw [hw']; clear hw' w')
            go_ret
            exact ⟨rfl, (Below.refl _ _).alloc (Nat.le_refl _) _⟩
        · have hn : 0 < x.ent.length := by omega
          have t3 : (0 : Int) < ((x.ent.length : Nat) : Int) := by omega
          rw [show spB x [45] = true from by simp [spB, hasB, hn, h0, h1, h2]]
          go_enter Tryz.func64, Tryz.ntmps64
          go_wp2_with (go_at_call 68; (first | (with_reducible refine (i97 _).mono ?_) | (with_reducible refine (i98 _).mono ?_) | (with_reducible refine (i115 _).mono ?_) | (with_reducible refine (i101 _).mono ?_) | (with_reducible refine (i105 _).mono ?_) | (with_reducible refine (i104 _).mono ?_) | (with_reducible refine (i103 _).mono ?_)); rintro e w' ⟨rfl, hw'⟩; rw [hw']; clear hw' w')
          go_ret
          exact ⟨rfl, (Below.refl _ _).alloc (Nat.le_refl _) _⟩
      · have hn : ¬ x.size = 0 := h2
        have t2 : (x.size == 0) = false := by simp [hn]
        rw [show spB x [45] = true from by simp [spB, hasB, hn, h0, h1]]
        go_enter Tryz.func64, Tryz.ntmps64
        go_wp2_with (go_at_call 68; (first | (with_reducible refine (i97 _).mono ?_) | (with_reducible refine (i98 _).mono ?_) | (with_reducible refine (i115 _).mono ?_) | (with_reducible refine (i101 _).mono ?_) | (with_reducible refine (i105 _).mono ?_) | (with_reducible refine (i104 _).mono ?_) | (with_reducible refine (i103 _).mono ?_)); rintro e w' ⟨rfl, hw'⟩; rw [hw']; clear hw' w')
        go_ret
        exact ⟨rfl, (Below.refl _ _).alloc (Nat.le_refl _) _⟩
    · have hn : ¬ x.b = 0 := h1
      have t1 : (x.b == 0) = false := by simp [hn]
      rw [show spB x [45] = true from by simp [spB, hasB, hn, h0]]
      go_enter Tryz.func64, Tryz.ntmps64
      go_wp2_with (go_at_call 68; (first | (with_reducible refine (i97 _).mono ?_) | (with_reducible refine (i98 _).mono ?_) | (with_reducible refine (i115 _).mono ?_) | (with_reducible refine (i101 _).mono ?_) | (with_reducible refine (i105 _).mono ?_) | (with_reducible refine (i104 _).mono ?_) | (with_reducible refine (i103 _).mono ?_)); rintro e w' ⟨rfl, hw'⟩; rw [hw']; clear hw' w')
      go_ret
      exact ⟨rfl, (Below.refl _ _).alloc (Nat.le_refl _) _⟩
  · have hn : ¬ x.a = 0 := h0
    have t0 : (x.a == 0) = false := by simp [hn]
    rw [show spB x [45] = true from by simp [spB, hasB, hn]]
    go_enter Tryz.func64, Tryz.ntmps64
    go_wp2_with (go_at_call 68; (first | (with_reducible refine (i97 _).mono ?_) | (with_reducible refine (i98 _).mono ?_) | (with_reducible refine (i115 _).mono ?_) | (with_reducible refine (i101 _).mono ?_) | (with_reducible refine (i105 _).mono ?_) | (with_reducible refine (i104 _).mono ?_) | (with_reducible refine (i103 _).mono ?_)); rintro e w' ⟨rfl, hw'⟩; rw [hw']; clear hw' w')
    go_ret
    exact ⟨rfl, (Below.refl _ _).alloc (Nat.le_refl _) _⟩
set_option maxRecDepth 100000 in
set_option maxHeartbeats 4000000 in
theorem spare17_s (x : Ask) (p1 p2 p3 : Option Addr) (q1 q2 q3 : Nat) (w : World) :
    Calls Tryz.prog 64 #[.agg #[.int .i64 x.kind, .int .i64 x.a, .int .i64 x.b, .int .i64 x.size, .slice p1 x.list.length q1, .slice p2 x.ent.length q2, .slice p3 x.n q3], .string ⟨#[115]⟩] w fun e w' => e = .returned (.bool (spB x [115])) ∧ Below w.heap.size w w' := by
  have i97 : ∀ w, Calls Tryz.prog 68 #[.string ⟨#[115]⟩, .int .u8 97] w fun e w' => e = .returned (.bool false) ∧ w' = w := fun w => has17_any ⟨#[115]⟩ 97 (by decide) w
  have i98 : ∀ w, Calls Tryz.prog 68 #[.string ⟨#[115]⟩, .int .u8 98] w fun e w' => e = .returned (.bool false) ∧ w' = w := fun w => has17_any ⟨#[115]⟩ 98 (by decide) w
  have i115 : ∀ w, Calls Tryz.prog 68 #[.string ⟨#[115]⟩, .int .u8 115] w fun e w' => e = .returned (.bool true) ∧ w' = w := fun w => has17_any ⟨#[115]⟩ 115 (by decide) w
  have i101 : ∀ w, Calls Tryz.prog 68 #[.string ⟨#[115]⟩, .int .u8 101] w fun e w' => e = .returned (.bool false) ∧ w' = w := fun w => has17_any ⟨#[115]⟩ 101 (by decide) w
  have i105 : ∀ w, Calls Tryz.prog 68 #[.string ⟨#[115]⟩, .int .u8 105] w fun e w' => e = .returned (.bool false) ∧ w' = w := fun w => has17_any ⟨#[115]⟩ 105 (by decide) w
  have i104 : ∀ w, Calls Tryz.prog 68 #[.string ⟨#[115]⟩, .int .u8 104] w fun e w' => e = .returned (.bool false) ∧ w' = w := fun w => has17_any ⟨#[115]⟩ 104 (by decide) w
  have i103 : ∀ w, Calls Tryz.prog 68 #[.string ⟨#[115]⟩, .int .u8 103] w fun e w' => e = .returned (.bool false) ∧ w' = w := fun w => has17_any ⟨#[115]⟩ 103 (by decide) w
  by_cases h0 : x.a = 0
  · have t0 : (x.a == 0) = true := by simp [h0]
    by_cases h1 : x.b = 0
    · have t1 : (x.b == 0) = true := by simp [h1]
      by_cases h2 : ¬ 0 < x.ent.length
      · have t2 : ¬ (0 : Int) < ((x.ent.length : Nat) : Int) := by omega
        by_cases h3 : ¬ 0 < x.list.length
        · have t3 : ¬ (0 : Int) < ((x.list.length : Nat) : Int) := by omega
          by_cases h4 : ¬ 0 < x.n
          · have t4 : ¬ (0 : Int) < ((x.n : Nat) : Int) := by omega
            rw [show spB x [115] = false from by simp [spB, hasB, h0, h1, h2, h3, h4]]
            go_enter Tryz.func64, Tryz.ntmps64
            go_wp2_with (go_at_call 68; (first | (with_reducible refine (i97 _).mono ?_) | (with_reducible refine (i98 _).mono ?_) | (with_reducible refine (i115 _).mono ?_) | (with_reducible refine (i101 _).mono ?_) | (with_reducible refine (i105 _).mono ?_) | (with_reducible refine (i104 _).mono ?_) | (with_reducible refine (i103 _).mono ?_)); rintro e w' ⟨rfl, hw'⟩; rw [hw']; clear hw' w')
            go_ret
            exact ⟨rfl, (Below.refl _ _).alloc (Nat.le_refl _) _⟩
          · have hn : 0 < x.n := by omega
            have t4 : (0 : Int) < ((x.n : Nat) : Int) := by omega
            rw [show spB x [115] = true from by simp [spB, hasB, hn, h0, h1, h2, h3]]
            go_enter Tryz.func64, Tryz.ntmps64
            go_wp2_with (go_at_call 68; (first | (with_reducible refine (i97 _).mono ?_) | (with_reducible refine (i98 _).mono ?_) | (with_reducible refine (i115 _).mono ?_) | (with_reducible refine (i101 _).mono ?_) | (with_reducible refine (i105 _).mono ?_) | (with_reducible refine (i104 _).mono ?_) | (with_reducible refine (i103 _).mono ?_)); rintro e w' ⟨rfl, hw'⟩; rw [hw']; clear hw' w')
            go_ret
            exact ⟨rfl, (Below.refl _ _).alloc (Nat.le_refl _) _⟩
        · have hn : 0 < x.list.length := by omega
          have t3 : (0 : Int) < ((x.list.length : Nat) : Int) := by omega
          rw [show spB x [115] = true from by simp [spB, hasB, hn, h0, h1, h2]]
          go_enter Tryz.func64, Tryz.ntmps64
          go_wp2_with (go_at_call 68; (first | (with_reducible refine (i97 _).mono ?_) | (with_reducible refine (i98 _).mono ?_) | (with_reducible refine (i115 _).mono ?_) | (with_reducible refine (i101 _).mono ?_) | (with_reducible refine (i105 _).mono ?_) | (with_reducible refine (i104 _).mono ?_) | (with_reducible refine (i103 _).mono ?_)); rintro e w' ⟨rfl, hw'⟩; rw [hw']; clear hw' w')
          go_ret
          exact ⟨rfl, (Below.refl _ _).alloc (Nat.le_refl _) _⟩
      · have hn : 0 < x.ent.length := by omega
        have t2 : (0 : Int) < ((x.ent.length : Nat) : Int) := by omega
        rw [show spB x [115] = true from by simp [spB, hasB, hn, h0, h1]]
        go_enter Tryz.func64, Tryz.ntmps64
        go_wp2_with (go_at_call 68; (first | (with_reducible refine (i97 _).mono ?_) | (with_reducible refine (i98 _).mono ?_) | (with_reducible refine (i115 _).mono ?_) | (with_reducible refine (i101 _).mono ?_) | (with_reducible refine (i105 _).mono ?_) | (with_reducible refine (i104 _).mono ?_) | (with_reducible refine (i103 _).mono ?_)); rintro e w' ⟨rfl, hw'⟩; rw [hw']; clear hw' w')
        go_ret
        exact ⟨rfl, (Below.refl _ _).alloc (Nat.le_refl _) _⟩
    · have hn : ¬ x.b = 0 := h1
      have t1 : (x.b == 0) = false := by simp [hn]
      rw [show spB x [115] = true from by simp [spB, hasB, hn, h0]]
      go_enter Tryz.func64, Tryz.ntmps64
      go_wp2_with (go_at_call 68; (first | (with_reducible refine (i97 _).mono ?_) | (with_reducible refine (i98 _).mono ?_) | (with_reducible refine (i115 _).mono ?_) | (with_reducible refine (i101 _).mono ?_) | (with_reducible refine (i105 _).mono ?_) | (with_reducible refine (i104 _).mono ?_) | (with_reducible refine (i103 _).mono ?_)); rintro e w' ⟨rfl, hw'⟩; rw [hw']; clear hw' w')
      go_ret
      exact ⟨rfl, (Below.refl _ _).alloc (Nat.le_refl _) _⟩
  · have hn : ¬ x.a = 0 := h0
    have t0 : (x.a == 0) = false := by simp [hn]
    rw [show spB x [115] = true from by simp [spB, hasB, hn]]
    go_enter Tryz.func64, Tryz.ntmps64
    go_wp2_with (go_at_call 68; (first | (with_reducible refine (i97 _).mono ?_) | (with_reducible refine (i98 _).mono ?_) | (with_reducible refine (i115 _).mono ?_) | (with_reducible refine (i101 _).mono ?_) | (with_reducible refine (i105 _).mono ?_) | (with_reducible refine (i104 _).mono ?_) | (with_reducible refine (i103 _).mono ?_)); rintro e w' ⟨rfl, hw'⟩; rw [hw']; clear hw' w')
    go_ret
    exact ⟨rfl, (Below.refl _ _).alloc (Nat.le_refl _) _⟩
set_option maxRecDepth 100000 in
set_option maxHeartbeats 4000000 in
theorem spare17_as (x : Ask) (p1 p2 p3 : Option Addr) (q1 q2 q3 : Nat) (w : World) :
    Calls Tryz.prog 64 #[.agg #[.int .i64 x.kind, .int .i64 x.a, .int .i64 x.b, .int .i64 x.size, .slice p1 x.list.length q1, .slice p2 x.ent.length q2, .slice p3 x.n q3], .string ⟨#[97, 115]⟩] w fun e w' => e = .returned (.bool (spB x [97, 115])) ∧ Below w.heap.size w w' := by
  have i97 : ∀ w, Calls Tryz.prog 68 #[.string ⟨#[97, 115]⟩, .int .u8 97] w fun e w' => e = .returned (.bool true) ∧ w' = w := fun w => has17_any ⟨#[97, 115]⟩ 97 (by decide) w
  have i98 : ∀ w, Calls Tryz.prog 68 #[.string ⟨#[97, 115]⟩, .int .u8 98] w fun e w' => e = .returned (.bool false) ∧ w' = w := fun w => has17_any ⟨#[97, 115]⟩ 98 (by decide) w
  have i115 : ∀ w, Calls Tryz.prog 68 #[.string ⟨#[97, 115]⟩, .int .u8 115] w fun e w' => e = .returned (.bool true) ∧ w' = w := fun w => has17_any ⟨#[97, 115]⟩ 115 (by decide) w
  have i101 : ∀ w, Calls Tryz.prog 68 #[.string ⟨#[97, 115]⟩, .int .u8 101] w fun e w' => e = .returned (.bool false) ∧ w' = w := fun w => has17_any ⟨#[97, 115]⟩ 101 (by decide) w
  have i105 : ∀ w, Calls Tryz.prog 68 #[.string ⟨#[97, 115]⟩, .int .u8 105] w fun e w' => e = .returned (.bool false) ∧ w' = w := fun w => has17_any ⟨#[97, 115]⟩ 105 (by decide) w
  have i104 : ∀ w, Calls Tryz.prog 68 #[.string ⟨#[97, 115]⟩, .int .u8 104] w fun e w' => e = .returned (.bool false) ∧ w' = w := fun w => has17_any ⟨#[97, 115]⟩ 104 (by decide) w
  have i103 : ∀ w, Calls Tryz.prog 68 #[.string ⟨#[97, 115]⟩, .int .u8 103] w fun e w' => e = .returned (.bool false) ∧ w' = w := fun w => has17_any ⟨#[97, 115]⟩ 103 (by decide) w
  by_cases h0 : x.b = 0
  · have t0 : (x.b == 0) = true := by simp [h0]
    by_cases h1 : ¬ 0 < x.ent.length
    · have t1 : ¬ (0 : Int) < ((x.ent.length : Nat) : Int) := by omega
      by_cases h2 : ¬ 0 < x.list.length
      · have t2 : ¬ (0 : Int) < ((x.list.length : Nat) : Int) := by omega
        by_cases h3 : ¬ 0 < x.n
        · have t3 : ¬ (0 : Int) < ((x.n : Nat) : Int) := by omega
          rw [show spB x [97, 115] = false from by simp [spB, hasB, h0, h1, h2, h3]]
          go_enter Tryz.func64, Tryz.ntmps64
          go_wp2_with (go_at_call 68; (first | (with_reducible refine (i97 _).mono ?_) | (with_reducible refine (i98 _).mono ?_) | (with_reducible refine (i115 _).mono ?_) | (with_reducible refine (i101 _).mono ?_) | (with_reducible refine (i105 _).mono ?_) | (with_reducible refine (i104 _).mono ?_) | (with_reducible refine (i103 _).mono ?_)); rintro e w' ⟨rfl, hw'⟩; rw [hw']; clear hw' w')
          go_ret
          exact ⟨rfl, (Below.refl _ _).alloc (Nat.le_refl _) _⟩
        · have hn : 0 < x.n := by omega
          have t3 : (0 : Int) < ((x.n : Nat) : Int) := by omega
          rw [show spB x [97, 115] = true from by simp [spB, hasB, hn, h0, h1, h2]]
          go_enter Tryz.func64, Tryz.ntmps64
          go_wp2_with (go_at_call 68; (first | (with_reducible refine (i97 _).mono ?_) | (with_reducible refine (i98 _).mono ?_) | (with_reducible refine (i115 _).mono ?_) | (with_reducible refine (i101 _).mono ?_) | (with_reducible refine (i105 _).mono ?_) | (with_reducible refine (i104 _).mono ?_) | (with_reducible refine (i103 _).mono ?_)); rintro e w' ⟨rfl, hw'⟩; rw [hw']; clear hw' w')
          go_ret
          exact ⟨rfl, (Below.refl _ _).alloc (Nat.le_refl _) _⟩
      · have hn : 0 < x.list.length := by omega
        have t2 : (0 : Int) < ((x.list.length : Nat) : Int) := by omega
        rw [show spB x [97, 115] = true from by simp [spB, hasB, hn, h0, h1]]
        go_enter Tryz.func64, Tryz.ntmps64
        go_wp2_with (go_at_call 68; (first | (with_reducible refine (i97 _).mono ?_) | (with_reducible refine (i98 _).mono ?_) | (with_reducible refine (i115 _).mono ?_) | (with_reducible refine (i101 _).mono ?_) | (with_reducible refine (i105 _).mono ?_) | (with_reducible refine (i104 _).mono ?_) | (with_reducible refine (i103 _).mono ?_)); rintro e w' ⟨rfl, hw'⟩; rw [hw']; clear hw' w')
        go_ret
        exact ⟨rfl, (Below.refl _ _).alloc (Nat.le_refl _) _⟩
    · have hn : 0 < x.ent.length := by omega
      have t1 : (0 : Int) < ((x.ent.length : Nat) : Int) := by omega
      rw [show spB x [97, 115] = true from by simp [spB, hasB, hn, h0]]
      go_enter Tryz.func64, Tryz.ntmps64
      go_wp2_with (go_at_call 68; (first | (with_reducible refine (i97 _).mono ?_) | (with_reducible refine (i98 _).mono ?_) | (with_reducible refine (i115 _).mono ?_) | (with_reducible refine (i101 _).mono ?_) | (with_reducible refine (i105 _).mono ?_) | (with_reducible refine (i104 _).mono ?_) | (with_reducible refine (i103 _).mono ?_)); rintro e w' ⟨rfl, hw'⟩; rw [hw']; clear hw' w')
      go_ret
      exact ⟨rfl, (Below.refl _ _).alloc (Nat.le_refl _) _⟩
  · have hn : ¬ x.b = 0 := h0
    have t0 : (x.b == 0) = false := by simp [hn]
    rw [show spB x [97, 115] = true from by simp [spB, hasB, hn]]
    go_enter Tryz.func64, Tryz.ntmps64
    go_wp2_with (go_at_call 68; (first | (with_reducible refine (i97 _).mono ?_) | (with_reducible refine (i98 _).mono ?_) | (with_reducible refine (i115 _).mono ?_) | (with_reducible refine (i101 _).mono ?_) | (with_reducible refine (i105 _).mono ?_) | (with_reducible refine (i104 _).mono ?_) | (with_reducible refine (i103 _).mono ?_)); rintro e w' ⟨rfl, hw'⟩; rw [hw']; clear hw' w')
    go_ret
    exact ⟨rfl, (Below.refl _ _).alloc (Nat.le_refl _) _⟩
set_option maxRecDepth 100000 in
set_option maxHeartbeats 4000000 in
theorem spare17_si (x : Ask) (p1 p2 p3 : Option Addr) (q1 q2 q3 : Nat) (w : World) :
    Calls Tryz.prog 64 #[.agg #[.int .i64 x.kind, .int .i64 x.a, .int .i64 x.b, .int .i64 x.size, .slice p1 x.list.length q1, .slice p2 x.ent.length q2, .slice p3 x.n q3], .string ⟨#[115, 105]⟩] w fun e w' => e = .returned (.bool (spB x [115, 105])) ∧ Below w.heap.size w w' := by
  have i97 : ∀ w, Calls Tryz.prog 68 #[.string ⟨#[115, 105]⟩, .int .u8 97] w fun e w' => e = .returned (.bool false) ∧ w' = w := fun w => has17_any ⟨#[115, 105]⟩ 97 (by decide) w
  have i98 : ∀ w, Calls Tryz.prog 68 #[.string ⟨#[115, 105]⟩, .int .u8 98] w fun e w' => e = .returned (.bool false) ∧ w' = w := fun w => has17_any ⟨#[115, 105]⟩ 98 (by decide) w
  have i115 : ∀ w, Calls Tryz.prog 68 #[.string ⟨#[115, 105]⟩, .int .u8 115] w fun e w' => e = .returned (.bool true) ∧ w' = w := fun w => has17_any ⟨#[115, 105]⟩ 115 (by decide) w
  have i101 : ∀ w, Calls Tryz.prog 68 #[.string ⟨#[115, 105]⟩, .int .u8 101] w fun e w' => e = .returned (.bool false) ∧ w' = w := fun w => has17_any ⟨#[115, 105]⟩ 101 (by decide) w
  have i105 : ∀ w, Calls Tryz.prog 68 #[.string ⟨#[115, 105]⟩, .int .u8 105] w fun e w' => e = .returned (.bool true) ∧ w' = w := fun w => has17_any ⟨#[115, 105]⟩ 105 (by decide) w
  have i104 : ∀ w, Calls Tryz.prog 68 #[.string ⟨#[115, 105]⟩, .int .u8 104] w fun e w' => e = .returned (.bool false) ∧ w' = w := fun w => has17_any ⟨#[115, 105]⟩ 104 (by decide) w
  have i103 : ∀ w, Calls Tryz.prog 68 #[.string ⟨#[115, 105]⟩, .int .u8 103] w fun e w' => e = .returned (.bool false) ∧ w' = w := fun w => has17_any ⟨#[115, 105]⟩ 103 (by decide) w
  by_cases h0 : x.a = 0
  · have t0 : (x.a == 0) = true := by simp [h0]
    by_cases h1 : x.b = 0
    · have t1 : (x.b == 0) = true := by simp [h1]
      by_cases h2 : ¬ 0 < x.ent.length
      · have t2 : ¬ (0 : Int) < ((x.ent.length : Nat) : Int) := by omega
        by_cases h3 : ¬ 0 < x.n
        · have t3 : ¬ (0 : Int) < ((x.n : Nat) : Int) := by omega
          rw [show spB x [115, 105] = false from by simp [spB, hasB, h0, h1, h2, h3]]
          go_enter Tryz.func64, Tryz.ntmps64
          go_wp2_with (go_at_call 68; (first | (with_reducible refine (i97 _).mono ?_) | (with_reducible refine (i98 _).mono ?_) | (with_reducible refine (i115 _).mono ?_) | (with_reducible refine (i101 _).mono ?_) | (with_reducible refine (i105 _).mono ?_) | (with_reducible refine (i104 _).mono ?_) | (with_reducible refine (i103 _).mono ?_)); rintro e w' ⟨rfl, hw'⟩; rw [hw']; clear hw' w')
          go_ret
          exact ⟨rfl, (Below.refl _ _).alloc (Nat.le_refl _) _⟩
        · have hn : 0 < x.n := by omega
          have t3 : (0 : Int) < ((x.n : Nat) : Int) := by omega
          rw [show spB x [115, 105] = true from by simp [spB, hasB, hn, h0, h1, h2]]
          go_enter Tryz.func64, Tryz.ntmps64
          go_wp2_with (go_at_call 68; (first | (with_reducible refine (i97 _).mono ?_) | (with_reducible refine (i98 _).mono ?_) | (with_reducible refine (i115 _).mono ?_) | (with_reducible refine (i101 _).mono ?_) | (with_reducible refine (i105 _).mono ?_) | (with_reducible refine (i104 _).mono ?_) | (with_reducible refine (i103 _).mono ?_)); rintro e w' ⟨rfl, hw'⟩; rw [hw']; clear hw' w')
          go_ret
          exact ⟨rfl, (Below.refl _ _).alloc (Nat.le_refl _) _⟩
      · have hn : 0 < x.ent.length := by omega
        have t2 : (0 : Int) < ((x.ent.length : Nat) : Int) := by omega
        rw [show spB x [115, 105] = true from by simp [spB, hasB, hn, h0, h1]]
        go_enter Tryz.func64, Tryz.ntmps64
        go_wp2_with (go_at_call 68; (first | (with_reducible refine (i97 _).mono ?_) | (with_reducible refine (i98 _).mono ?_) | (with_reducible refine (i115 _).mono ?_) | (with_reducible refine (i101 _).mono ?_) | (with_reducible refine (i105 _).mono ?_) | (with_reducible refine (i104 _).mono ?_) | (with_reducible refine (i103 _).mono ?_)); rintro e w' ⟨rfl, hw'⟩; rw [hw']; clear hw' w')
        go_ret
        exact ⟨rfl, (Below.refl _ _).alloc (Nat.le_refl _) _⟩
    · have hn : ¬ x.b = 0 := h1
      have t1 : (x.b == 0) = false := by simp [hn]
      rw [show spB x [115, 105] = true from by simp [spB, hasB, hn, h0]]
      go_enter Tryz.func64, Tryz.ntmps64
      go_wp2_with (go_at_call 68; (first | (with_reducible refine (i97 _).mono ?_) | (with_reducible refine (i98 _).mono ?_) | (with_reducible refine (i115 _).mono ?_) | (with_reducible refine (i101 _).mono ?_) | (with_reducible refine (i105 _).mono ?_) | (with_reducible refine (i104 _).mono ?_) | (with_reducible refine (i103 _).mono ?_)); rintro e w' ⟨rfl, hw'⟩; rw [hw']; clear hw' w')
      go_ret
      exact ⟨rfl, (Below.refl _ _).alloc (Nat.le_refl _) _⟩
  · have hn : ¬ x.a = 0 := h0
    have t0 : (x.a == 0) = false := by simp [hn]
    rw [show spB x [115, 105] = true from by simp [spB, hasB, hn]]
    go_enter Tryz.func64, Tryz.ntmps64
    go_wp2_with (go_at_call 68; (first | (with_reducible refine (i97 _).mono ?_) | (with_reducible refine (i98 _).mono ?_) | (with_reducible refine (i115 _).mono ?_) | (with_reducible refine (i101 _).mono ?_) | (with_reducible refine (i105 _).mono ?_) | (with_reducible refine (i104 _).mono ?_) | (with_reducible refine (i103 _).mono ?_)); rintro e w' ⟨rfl, hw'⟩; rw [hw']; clear hw' w')
    go_ret
    exact ⟨rfl, (Below.refl _ _).alloc (Nat.le_refl _) _⟩
set_option maxRecDepth 100000 in
set_option maxHeartbeats 4000000 in
theorem spare17_h (x : Ask) (p1 p2 p3 : Option Addr) (q1 q2 q3 : Nat) (w : World) :
    Calls Tryz.prog 64 #[.agg #[.int .i64 x.kind, .int .i64 x.a, .int .i64 x.b, .int .i64 x.size, .slice p1 x.list.length q1, .slice p2 x.ent.length q2, .slice p3 x.n q3], .string ⟨#[104]⟩] w fun e w' => e = .returned (.bool (spB x [104])) ∧ Below w.heap.size w w' := by
  have i97 : ∀ w, Calls Tryz.prog 68 #[.string ⟨#[104]⟩, .int .u8 97] w fun e w' => e = .returned (.bool false) ∧ w' = w := fun w => has17_any ⟨#[104]⟩ 97 (by decide) w
  have i98 : ∀ w, Calls Tryz.prog 68 #[.string ⟨#[104]⟩, .int .u8 98] w fun e w' => e = .returned (.bool false) ∧ w' = w := fun w => has17_any ⟨#[104]⟩ 98 (by decide) w
  have i115 : ∀ w, Calls Tryz.prog 68 #[.string ⟨#[104]⟩, .int .u8 115] w fun e w' => e = .returned (.bool false) ∧ w' = w := fun w => has17_any ⟨#[104]⟩ 115 (by decide) w
  have i101 : ∀ w, Calls Tryz.prog 68 #[.string ⟨#[104]⟩, .int .u8 101] w fun e w' => e = .returned (.bool false) ∧ w' = w := fun w => has17_any ⟨#[104]⟩ 101 (by decide) w
  have i105 : ∀ w, Calls Tryz.prog 68 #[.string ⟨#[104]⟩, .int .u8 105] w fun e w' => e = .returned (.bool false) ∧ w' = w := fun w => has17_any ⟨#[104]⟩ 105 (by decide) w
  have i104 : ∀ w, Calls Tryz.prog 68 #[.string ⟨#[104]⟩, .int .u8 104] w fun e w' => e = .returned (.bool true) ∧ w' = w := fun w => has17_any ⟨#[104]⟩ 104 (by decide) w
  have i103 : ∀ w, Calls Tryz.prog 68 #[.string ⟨#[104]⟩, .int .u8 103] w fun e w' => e = .returned (.bool false) ∧ w' = w := fun w => has17_any ⟨#[104]⟩ 103 (by decide) w
  by_cases h0 : x.a = 0
  · have t0 : (x.a == 0) = true := by simp [h0]
    by_cases h1 : x.b = 0
    · have t1 : (x.b == 0) = true := by simp [h1]
      by_cases h2 : x.size = 0
      · have t2 : (x.size == 0) = true := by simp [h2]
        by_cases h3 : ¬ 0 < x.ent.length
        · have t3 : ¬ (0 : Int) < ((x.ent.length : Nat) : Int) := by omega
          by_cases h4 : ¬ 0 < x.n
          · have t4 : ¬ (0 : Int) < ((x.n : Nat) : Int) := by omega
            rw [show spB x [104] = false from by simp [spB, hasB, h0, h1, h2, h3, h4]]
            go_enter Tryz.func64, Tryz.ntmps64
            go_wp2_with (go_at_call 68; (first | (with_reducible refine (i97 _).mono ?_) | (with_reducible refine (i98 _).mono ?_) | (with_reducible refine (i115 _).mono ?_) | (with_reducible refine (i101 _).mono ?_) | (with_reducible refine (i105 _).mono ?_) | (with_reducible refine (i104 _).mono ?_) | (with_reducible refine (i103 _).mono ?_)); rintro e w' ⟨rfl, hw'⟩; rw [hw']; clear hw' w')
            go_ret
            exact ⟨rfl, (Below.refl _ _).alloc (Nat.le_refl _) _⟩
          · have hn : 0 < x.n := by omega
            have t4 : (0 : Int) < ((x.n : Nat) : Int) := by omega
            rw [show spB x [104] = true from by simp [spB, hasB, hn, h0, h1, h2, h3]]
            go_enter Tryz.func64, Tryz.ntmps64
            go_wp2_with (go_at_call 68; (first | (with_reducible refine (i97 _).mono ?_) | (with_reducible refine (i98 _).mono ?_) | (with_reducible refine (i115 _).mono ?_) | (with_reducible refine (i101 _).mono ?_) | (with_reducible refine (i105 _).mono ?_) | (with_reducible refine (i104 _).mono ?_) | (with_reducible refine (i103 _).mono ?_)); rintro e w' ⟨rfl, hw'⟩; rw [hw']; clear hw' w')
            go_ret
            exact ⟨rfl, (Below.refl _ _).alloc (Nat.le_refl _) _⟩
        · have hn : 0 < x.ent.length := by omega
          have t3 : (0 : Int) < ((x.ent.length : Nat) : Int) := by omega
          rw [show spB x [104] = true from by simp [spB, hasB, hn, h0, h1, h2]]
          go_enter Tryz.func64, Tryz.ntmps64
          go_wp2_with (go_at_call 68; (first | (with_reducible refine (i97 _).mono ?_) | (with_reducible refine (i98 _).mono ?_) | (with_reducible refine (i115 _).mono ?_) | (with_reducible refine (i101 _).mono ?_) | (with_reducible refine (i105 _).mono ?_) | (with_reducible refine (i104 _).mono ?_) | (with_reducible refine (i103 _).mono ?_)); rintro e w' ⟨rfl, hw'⟩; rw [hw']; clear hw' w')
          go_ret
          exact ⟨rfl, (Below.refl _ _).alloc (Nat.le_refl _) _⟩
      · have hn : ¬ x.size = 0 := h2
        have t2 : (x.size == 0) = false := by simp [hn]
        rw [show spB x [104] = true from by simp [spB, hasB, hn, h0, h1]]
        go_enter Tryz.func64, Tryz.ntmps64
        go_wp2_with (go_at_call 68; (first | (with_reducible refine (i97 _).mono ?_) | (with_reducible refine (i98 _).mono ?_) | (with_reducible refine (i115 _).mono ?_) | (with_reducible refine (i101 _).mono ?_) | (with_reducible refine (i105 _).mono ?_) | (with_reducible refine (i104 _).mono ?_) | (with_reducible refine (i103 _).mono ?_)); rintro e w' ⟨rfl, hw'⟩; rw [hw']; clear hw' w')
        go_ret
        exact ⟨rfl, (Below.refl _ _).alloc (Nat.le_refl _) _⟩
    · have hn : ¬ x.b = 0 := h1
      have t1 : (x.b == 0) = false := by simp [hn]
      rw [show spB x [104] = true from by simp [spB, hasB, hn, h0]]
      go_enter Tryz.func64, Tryz.ntmps64
      go_wp2_with (go_at_call 68; (first | (with_reducible refine (i97 _).mono ?_) | (with_reducible refine (i98 _).mono ?_) | (with_reducible refine (i115 _).mono ?_) | (with_reducible refine (i101 _).mono ?_) | (with_reducible refine (i105 _).mono ?_) | (with_reducible refine (i104 _).mono ?_) | (with_reducible refine (i103 _).mono ?_)); rintro e w' ⟨rfl, hw'⟩; rw [hw']; clear hw' w')
      go_ret
      exact ⟨rfl, (Below.refl _ _).alloc (Nat.le_refl _) _⟩
  · have hn : ¬ x.a = 0 := h0
    have t0 : (x.a == 0) = false := by simp [hn]
    rw [show spB x [104] = true from by simp [spB, hasB, hn]]
    go_enter Tryz.func64, Tryz.ntmps64
    go_wp2_with (go_at_call 68; (first | (with_reducible refine (i97 _).mono ?_) | (with_reducible refine (i98 _).mono ?_) | (with_reducible refine (i115 _).mono ?_) | (with_reducible refine (i101 _).mono ?_) | (with_reducible refine (i105 _).mono ?_) | (with_reducible refine (i104 _).mono ?_) | (with_reducible refine (i103 _).mono ?_)); rintro e w' ⟨rfl, hw'⟩; rw [hw']; clear hw' w')
    go_ret
    exact ⟨rfl, (Below.refl _ _).alloc (Nat.le_refl _) _⟩
set_option maxRecDepth 100000 in
set_option maxHeartbeats 4000000 in
theorem spare17_abs (x : Ask) (p1 p2 p3 : Option Addr) (q1 q2 q3 : Nat) (w : World) :
    Calls Tryz.prog 64 #[.agg #[.int .i64 x.kind, .int .i64 x.a, .int .i64 x.b, .int .i64 x.size, .slice p1 x.list.length q1, .slice p2 x.ent.length q2, .slice p3 x.n q3], .string ⟨#[97, 98, 115]⟩] w fun e w' => e = .returned (.bool (spB x [97, 98, 115])) ∧ Below w.heap.size w w' := by
  have i97 : ∀ w, Calls Tryz.prog 68 #[.string ⟨#[97, 98, 115]⟩, .int .u8 97] w fun e w' => e = .returned (.bool true) ∧ w' = w := fun w => has17_any ⟨#[97, 98, 115]⟩ 97 (by decide) w
  have i98 : ∀ w, Calls Tryz.prog 68 #[.string ⟨#[97, 98, 115]⟩, .int .u8 98] w fun e w' => e = .returned (.bool true) ∧ w' = w := fun w => has17_any ⟨#[97, 98, 115]⟩ 98 (by decide) w
  have i115 : ∀ w, Calls Tryz.prog 68 #[.string ⟨#[97, 98, 115]⟩, .int .u8 115] w fun e w' => e = .returned (.bool true) ∧ w' = w := fun w => has17_any ⟨#[97, 98, 115]⟩ 115 (by decide) w
  have i101 : ∀ w, Calls Tryz.prog 68 #[.string ⟨#[97, 98, 115]⟩, .int .u8 101] w fun e w' => e = .returned (.bool false) ∧ w' = w := fun w => has17_any ⟨#[97, 98, 115]⟩ 101 (by decide) w
  have i105 : ∀ w, Calls Tryz.prog 68 #[.string ⟨#[97, 98, 115]⟩, .int .u8 105] w fun e w' => e = .returned (.bool false) ∧ w' = w := fun w => has17_any ⟨#[97, 98, 115]⟩ 105 (by decide) w
  have i104 : ∀ w, Calls Tryz.prog 68 #[.string ⟨#[97, 98, 115]⟩, .int .u8 104] w fun e w' => e = .returned (.bool false) ∧ w' = w := fun w => has17_any ⟨#[97, 98, 115]⟩ 104 (by decide) w
  have i103 : ∀ w, Calls Tryz.prog 68 #[.string ⟨#[97, 98, 115]⟩, .int .u8 103] w fun e w' => e = .returned (.bool false) ∧ w' = w := fun w => has17_any ⟨#[97, 98, 115]⟩ 103 (by decide) w
  by_cases h0 : ¬ 0 < x.ent.length
  · have t0 : ¬ (0 : Int) < ((x.ent.length : Nat) : Int) := by omega
    by_cases h1 : ¬ 0 < x.list.length
    · have t1 : ¬ (0 : Int) < ((x.list.length : Nat) : Int) := by omega
      by_cases h2 : ¬ 0 < x.n
      · have t2 : ¬ (0 : Int) < ((x.n : Nat) : Int) := by omega
        rw [show spB x [97, 98, 115] = false from by simp [spB, hasB, h0, h1, h2]]
        go_enter Tryz.func64, Tryz.ntmps64
        go_wp2_with (go_at_call 68; (first | (with_reducible refine (i97 _).mono ?_) | (with_reducible refine (i98 _).mono ?_) | (with_reducible refine (i115 _).mono ?_) | (with_reducible refine (i101 _).mono ?_) | (with_reducible refine (i105 _).mono ?_) | (with_reducible refine (i104 _).mono ?_) | (with_reducible refine (i103 _).mono ?_)); rintro e w' ⟨rfl, hw'⟩; rw [hw']; clear hw' w')
        go_ret
        exact ⟨rfl, (Below.refl _ _).alloc (Nat.le_refl _) _⟩
      · have hn : 0 < x.n := by omega
        have t2 : (0 : Int) < ((x.n : Nat) : Int) := by omega
        rw [show spB x [97, 98, 115] = true from by simp [spB, hasB, hn, h0, h1]]
        go_enter Tryz.func64, Tryz.ntmps64
        go_wp2_with (go_at_call 68; (first | (with_reducible refine (i97 _).mono ?_) | (with_reducible refine (i98 _).mono ?_) | (with_reducible refine (i115 _).mono ?_) | (with_reducible refine (i101 _).mono ?_) | (with_reducible refine (i105 _).mono ?_) | (with_reducible refine (i104 _).mono ?_) | (with_reducible refine (i103 _).mono ?_)); rintro e w' ⟨rfl, hw'⟩; rw [hw']; clear hw' w')
        go_ret
        exact ⟨rfl, (Below.refl _ _).alloc (Nat.le_refl _) _⟩
    · have hn : 0 < x.list.length := by omega
      have t1 : (0 : Int) < ((x.list.length : Nat) : Int) := by omega
      rw [show spB x [97, 98, 115] = true from by simp [spB, hasB, hn, h0]]
      go_enter Tryz.func64, Tryz.ntmps64
      go_wp2_with (go_at_call 68; (first | (with_reducible refine (i97 _).mono ?_) | (with_reducible refine (i98 _).mono ?_) | (with_reducible refine (i115 _).mono ?_) | (with_reducible refine (i101 _).mono ?_) | (with_reducible refine (i105 _).mono ?_) | (with_reducible refine (i104 _).mono ?_) | (with_reducible refine (i103 _).mono ?_)); rintro e w' ⟨rfl, hw'⟩; rw [hw']; clear hw' w')
      go_ret
      exact ⟨rfl, (Below.refl _ _).alloc (Nat.le_refl _) _⟩
  · have hn : 0 < x.ent.length := by omega
    have t0 : (0 : Int) < ((x.ent.length : Nat) : Int) := by omega
    rw [show spB x [97, 98, 115] = true from by simp [spB, hasB, hn]]
    go_enter Tryz.func64, Tryz.ntmps64
    go_wp2_with (go_at_call 68; (first | (with_reducible refine (i97 _).mono ?_) | (with_reducible refine (i98 _).mono ?_) | (with_reducible refine (i115 _).mono ?_) | (with_reducible refine (i101 _).mono ?_) | (with_reducible refine (i105 _).mono ?_) | (with_reducible refine (i104 _).mono ?_) | (with_reducible refine (i103 _).mono ?_)); rintro e w' ⟨rfl, hw'⟩; rw [hw']; clear hw' w')
    go_ret
    exact ⟨rfl, (Below.refl _ _).alloc (Nat.le_refl _) _⟩
set_option maxRecDepth 100000 in
set_option maxHeartbeats 4000000 in
theorem spare17_a (x : Ask) (p1 p2 p3 : Option Addr) (q1 q2 q3 : Nat) (w : World) :
    Calls Tryz.prog 64 #[.agg #[.int .i64 x.kind, .int .i64 x.a, .int .i64 x.b, .int .i64 x.size, .slice p1 x.list.length q1, .slice p2 x.ent.length q2, .slice p3 x.n q3], .string ⟨#[97]⟩] w fun e w' => e = .returned (.bool (spB x [97])) ∧ Below w.heap.size w w' := by
  have i97 : ∀ w, Calls Tryz.prog 68 #[.string ⟨#[97]⟩, .int .u8 97] w fun e w' => e = .returned (.bool true) ∧ w' = w := fun w => has17_any ⟨#[97]⟩ 97 (by decide) w
  have i98 : ∀ w, Calls Tryz.prog 68 #[.string ⟨#[97]⟩, .int .u8 98] w fun e w' => e = .returned (.bool false) ∧ w' = w := fun w => has17_any ⟨#[97]⟩ 98 (by decide) w
  have i115 : ∀ w, Calls Tryz.prog 68 #[.string ⟨#[97]⟩, .int .u8 115] w fun e w' => e = .returned (.bool false) ∧ w' = w := fun w => has17_any ⟨#[97]⟩ 115 (by decide) w
  have i101 : ∀ w, Calls Tryz.prog 68 #[.string ⟨#[97]⟩, .int .u8 101] w fun e w' => e = .returned (.bool false) ∧ w' = w := fun w => has17_any ⟨#[97]⟩ 101 (by decide) w
  have i105 : ∀ w, Calls Tryz.prog 68 #[.string ⟨#[97]⟩, .int .u8 105] w fun e w' => e = .returned (.bool false) ∧ w' = w := fun w => has17_any ⟨#[97]⟩ 105 (by decide) w
  have i104 : ∀ w, Calls Tryz.prog 68 #[.string ⟨#[97]⟩, .int .u8 104] w fun e w' => e = .returned (.bool false) ∧ w' = w := fun w => has17_any ⟨#[97]⟩ 104 (by decide) w
  have i103 : ∀ w, Calls Tryz.prog 68 #[.string ⟨#[97]⟩, .int .u8 103] w fun e w' => e = .returned (.bool false) ∧ w' = w := fun w => has17_any ⟨#[97]⟩ 103 (by decide) w
  by_cases h0 : x.b = 0
  · have t0 : (x.b == 0) = true := by simp [h0]
    by_cases h1 : x.size = 0
    · have t1 : (x.size == 0) = true := by simp [h1]
      by_cases h2 : ¬ 0 < x.ent.length
      · have t2 : ¬ (0 : Int) < ((x.ent.length : Nat) : Int) := by omega
        by_cases h3 : ¬ 0 < x.list.length
        · have t3 : ¬ (0 : Int) < ((x.list.length : Nat) : Int) := by omega
          by_cases h4 : ¬ 0 < x.n
          · have t4 : ¬ (0 : Int) < ((x.n : Nat) : Int) := by omega
            rw [show spB x [97] = false from by simp [spB, hasB, h0, h1, h2, h3, h4]]
            go_enter Tryz.func64, Tryz.ntmps64
            go_wp2_with (go_at_call 68; (first | (with_reducible refine (i97 _).mono ?_) | (with_reducible refine (i98 _).mono ?_) | (with_reducible refine (i115 _).mono ?_) | (with_reducible refine (i101 _).mono ?_) | (with_reducible refine (i105 _).mono ?_) | (with_reducible refine (i104 _).mono ?_) | (with_reducible refine (i103 _).mono ?_)); rintro e w' ⟨rfl, hw'⟩; rw [hw']; clear hw' w')
            go_ret
            exact ⟨rfl, (Below.refl _ _).alloc (Nat.le_refl _) _⟩
          · have hn : 0 < x.n := by omega
            have t4 : (0 : Int) < ((x.n : Nat) : Int) := by omega
            rw [show spB x [97] = true from by simp [spB, hasB, hn, h0, h1, h2, h3]]
            go_enter Tryz.func64, Tryz.ntmps64
            go_wp2_with (go_at_call 68; (first | (with_reducible refine (i97 _).mono ?_) | (with_reducible refine (i98 _).mono ?_) | (with_reducible refine (i115 _).mono ?_) | (with_reducible refine (i101 _).mono ?_) | (with_reducible refine (i105 _).mono ?_) | (with_reducible refine (i104 _).mono ?_) | (with_reducible refine (i103 _).mono ?_)); rintro e w' ⟨rfl, hw'⟩; rw [hw']; clear hw' w')
            go_ret
            exact ⟨rfl, (Below.refl _ _).alloc (Nat.le_refl _) _⟩
        · have hn : 0 < x.list.length := by omega
          have t3 : (0 : Int) < ((x.list.length : Nat) : Int) := by omega
          rw [show spB x [97] = true from by simp [spB, hasB, hn, h0, h1, h2]]
          go_enter Tryz.func64, Tryz.ntmps64
          go_wp2_with (go_at_call 68; (first | (with_reducible refine (i97 _).mono ?_) | (with_reducible refine (i98 _).mono ?_) | (with_reducible refine (i115 _).mono ?_) | (with_reducible refine (i101 _).mono ?_) | (with_reducible refine (i105 _).mono ?_) | (with_reducible refine (i104 _).mono ?_) | (with_reducible refine (i103 _).mono ?_)); rintro e w' ⟨rfl, hw'⟩; rw [hw']; clear hw' w')
          go_ret
          exact ⟨rfl, (Below.refl _ _).alloc (Nat.le_refl _) _⟩
      · have hn : 0 < x.ent.length := by omega
        have t2 : (0 : Int) < ((x.ent.length : Nat) : Int) := by omega
        rw [show spB x [97] = true from by simp [spB, hasB, hn, h0, h1]]
        go_enter Tryz.func64, Tryz.ntmps64
        go_wp2_with (go_at_call 68; (first | (with_reducible refine (i97 _).mono ?_) | (with_reducible refine (i98 _).mono ?_) | (with_reducible refine (i115 _).mono ?_) | (with_reducible refine (i101 _).mono ?_) | (with_reducible refine (i105 _).mono ?_) | (with_reducible refine (i104 _).mono ?_) | (with_reducible refine (i103 _).mono ?_)); rintro e w' ⟨rfl, hw'⟩; rw [hw']; clear hw' w')
        go_ret
        exact ⟨rfl, (Below.refl _ _).alloc (Nat.le_refl _) _⟩
    · have hn : ¬ x.size = 0 := h1
      have t1 : (x.size == 0) = false := by simp [hn]
      rw [show spB x [97] = true from by simp [spB, hasB, hn, h0]]
      go_enter Tryz.func64, Tryz.ntmps64
      go_wp2_with (go_at_call 68; (first | (with_reducible refine (i97 _).mono ?_) | (with_reducible refine (i98 _).mono ?_) | (with_reducible refine (i115 _).mono ?_) | (with_reducible refine (i101 _).mono ?_) | (with_reducible refine (i105 _).mono ?_) | (with_reducible refine (i104 _).mono ?_) | (with_reducible refine (i103 _).mono ?_)); rintro e w' ⟨rfl, hw'⟩; rw [hw']; clear hw' w')
      go_ret
      exact ⟨rfl, (Below.refl _ _).alloc (Nat.le_refl _) _⟩
  · have hn : ¬ x.b = 0 := h0
    have t0 : (x.b == 0) = false := by simp [hn]
    rw [show spB x [97] = true from by simp [spB, hasB, hn]]
    go_enter Tryz.func64, Tryz.ntmps64
    go_wp2_with (go_at_call 68; (first | (with_reducible refine (i97 _).mono ?_) | (with_reducible refine (i98 _).mono ?_) | (with_reducible refine (i115 _).mono ?_) | (with_reducible refine (i101 _).mono ?_) | (with_reducible refine (i105 _).mono ?_) | (with_reducible refine (i104 _).mono ?_) | (with_reducible refine (i103 _).mono ?_)); rintro e w' ⟨rfl, hw'⟩; rw [hw']; clear hw' w')
    go_ret
    exact ⟨rfl, (Below.refl _ _).alloc (Nat.le_refl _) _⟩
set_option maxRecDepth 100000 in
set_option maxHeartbeats 4000000 in
theorem spare17_g (x : Ask) (p1 p2 p3 : Option Addr) (q1 q2 q3 : Nat) (w : World) :
    Calls Tryz.prog 64 #[.agg #[.int .i64 x.kind, .int .i64 x.a, .int .i64 x.b, .int .i64 x.size, .slice p1 x.list.length q1, .slice p2 x.ent.length q2, .slice p3 x.n q3], .string ⟨#[103]⟩] w fun e w' => e = .returned (.bool (spB x [103])) ∧ Below w.heap.size w w' := by
  have i97 : ∀ w, Calls Tryz.prog 68 #[.string ⟨#[103]⟩, .int .u8 97] w fun e w' => e = .returned (.bool false) ∧ w' = w := fun w => has17_any ⟨#[103]⟩ 97 (by decide) w
  have i98 : ∀ w, Calls Tryz.prog 68 #[.string ⟨#[103]⟩, .int .u8 98] w fun e w' => e = .returned (.bool false) ∧ w' = w := fun w => has17_any ⟨#[103]⟩ 98 (by decide) w
  have i115 : ∀ w, Calls Tryz.prog 68 #[.string ⟨#[103]⟩, .int .u8 115] w fun e w' => e = .returned (.bool false) ∧ w' = w := fun w => has17_any ⟨#[103]⟩ 115 (by decide) w
  have i101 : ∀ w, Calls Tryz.prog 68 #[.string ⟨#[103]⟩, .int .u8 101] w fun e w' => e = .returned (.bool false) ∧ w' = w := fun w => has17_any ⟨#[103]⟩ 101 (by decide) w
  have i105 : ∀ w, Calls Tryz.prog 68 #[.string ⟨#[103]⟩, .int .u8 105] w fun e w' => e = .returned (.bool false) ∧ w' = w := fun w => has17_any ⟨#[103]⟩ 105 (by decide) w
  have i104 : ∀ w, Calls Tryz.prog 68 #[.string ⟨#[103]⟩, .int .u8 104] w fun e w' => e = .returned (.bool false) ∧ w' = w := fun w => has17_any ⟨#[103]⟩ 104 (by decide) w
  have i103 : ∀ w, Calls Tryz.prog 68 #[.string ⟨#[103]⟩, .int .u8 103] w fun e w' => e = .returned (.bool true) ∧ w' = w := fun w => has17_any ⟨#[103]⟩ 103 (by decide) w
  by_cases h0 : x.a = 0
  · have t0 : (x.a == 0) = true := by simp [h0]
    by_cases h1 : x.b = 0
    · have t1 : (x.b == 0) = true := by simp [h1]
      by_cases h2 : x.size = 0
      · have t2 : (x.size == 0) = true := by simp [h2]
        by_cases h3 : ¬ 0 < x.ent.length
        · have t3 : ¬ (0 : Int) < ((x.ent.length : Nat) : Int) := by omega
          by_cases h4 : ¬ 0 < x.list.length
          · have t4 : ¬ (0 : Int) < ((x.list.length : Nat) : Int) := by omega
            rw [show spB x [103] = false from by simp [spB, hasB, h0, h1, h2, h3, h4]]
            go_enter Tryz.func64, Tryz.ntmps64
            go_wp2_with (go_at_call 68; (first | (with_reducible refine (i97 _).mono ?_) | (with_reducible refine (i98 _).mono ?_) | (with_reducible refine (i115 _).mono ?_) | (with_reducible refine (i101 _).mono ?_) | (with_reducible refine (i105 _).mono ?_) | (with_reducible refine (i104 _).mono ?_) | (with_reducible refine (i103 _).mono ?_)); rintro e w' ⟨rfl, hw'⟩; rw [hw']; clear hw' w')
            go_ret
            exact ⟨rfl, (Below.refl _ _).alloc (Nat.le_refl _) _⟩
          · have hn : 0 < x.list.length := by omega
            have t4 : (0 : Int) < ((x.list.length : Nat) : Int) := by omega
            rw [show spB x [103] = true from by simp [spB, hasB, hn, h0, h1, h2, h3]]
            go_enter Tryz.func64, Tryz.ntmps64
            go_wp2_with (go_at_call 68; (first | (with_reducible refine (i97 _).mono ?_) | (with_reducible refine (i98 _).mono ?_) | (with_reducible refine (i115 _).mono ?_) | (with_reducible refine (i101 _).mono ?_) | (with_reducible refine (i105 _).mono ?_) | (with_reducible refine (i104 _).mono ?_) | (with_reducible refine (i103 _).mono ?_)); rintro e w' ⟨rfl, hw'⟩; rw [hw']; clear hw' w')
            go_ret
            exact ⟨rfl, (Below.refl _ _).alloc (Nat.le_refl _) _⟩
        · have hn : 0 < x.ent.length := by omega
          have t3 : (0 : Int) < ((x.ent.length : Nat) : Int) := by omega
          rw [show spB x [103] = true from by simp [spB, hasB, hn, h0, h1, h2]]
          go_enter Tryz.func64, Tryz.ntmps64
          go_wp2_with (go_at_call 68; (first | (with_reducible refine (i97 _).mono ?_) | (with_reducible refine (i98 _).mono ?_) | (with_reducible refine (i115 _).mono ?_) | (with_reducible refine (i101 _).mono ?_) | (with_reducible refine (i105 _).mono ?_) | (with_reducible refine (i104 _).mono ?_) | (with_reducible refine (i103 _).mono ?_)); rintro e w' ⟨rfl, hw'⟩; rw [hw']; clear hw' w')
          go_ret
          exact ⟨rfl, (Below.refl _ _).alloc (Nat.le_refl _) _⟩
      · have hn : ¬ x.size = 0 := h2
        have t2 : (x.size == 0) = false := by simp [hn]
        rw [show spB x [103] = true from by simp [spB, hasB, hn, h0, h1]]
        go_enter Tryz.func64, Tryz.ntmps64
        go_wp2_with (go_at_call 68; (first | (with_reducible refine (i97 _).mono ?_) | (with_reducible refine (i98 _).mono ?_) | (with_reducible refine (i115 _).mono ?_) | (with_reducible refine (i101 _).mono ?_) | (with_reducible refine (i105 _).mono ?_) | (with_reducible refine (i104 _).mono ?_) | (with_reducible refine (i103 _).mono ?_)); rintro e w' ⟨rfl, hw'⟩; rw [hw']; clear hw' w')
        go_ret
        exact ⟨rfl, (Below.refl _ _).alloc (Nat.le_refl _) _⟩
    · have hn : ¬ x.b = 0 := h1
      have t1 : (x.b == 0) = false := by simp [hn]
      rw [show spB x [103] = true from by simp [spB, hasB, hn, h0]]
      go_enter Tryz.func64, Tryz.ntmps64
      go_wp2_with (go_at_call 68; (first | (with_reducible refine (i97 _).mono ?_) | (with_reducible refine (i98 _).mono ?_) | (with_reducible refine (i115 _).mono ?_) | (with_reducible refine (i101 _).mono ?_) | (with_reducible refine (i105 _).mono ?_) | (with_reducible refine (i104 _).mono ?_) | (with_reducible refine (i103 _).mono ?_)); rintro e w' ⟨rfl, hw'⟩; rw [hw']; clear hw' w')
      go_ret
      exact ⟨rfl, (Below.refl _ _).alloc (Nat.le_refl _) _⟩
  · have hn : ¬ x.a = 0 := h0
    have t0 : (x.a == 0) = false := by simp [hn]
    rw [show spB x [103] = true from by simp [spB, hasB, hn]]
    go_enter Tryz.func64, Tryz.ntmps64
    go_wp2_with (go_at_call 68; (first | (with_reducible refine (i97 _).mono ?_) | (with_reducible refine (i98 _).mono ?_) | (with_reducible refine (i115 _).mono ?_) | (with_reducible refine (i101 _).mono ?_) | (with_reducible refine (i105 _).mono ?_) | (with_reducible refine (i104 _).mono ?_) | (with_reducible refine (i103 _).mono ?_)); rintro e w' ⟨rfl, hw'⟩; rw [hw']; clear hw' w')
    go_ret
    exact ⟨rfl, (Below.refl _ _).alloc (Nat.le_refl _) _⟩
end Msg
end Go.Proofs.YtmhgdcfmfcjagaaGreatDoor
