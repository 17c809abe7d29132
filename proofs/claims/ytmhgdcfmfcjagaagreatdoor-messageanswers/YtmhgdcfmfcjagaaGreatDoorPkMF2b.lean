import Derived.Test.YtmhgdcfmfcjagaaGreatDoorPkMV4
namespace Go.Proofs.YtmhgdcfmfcjagaaGreatDoor
open Go.RowKit Cod
namespace Msg
set_option maxRecDepth 100000 in
set_option maxHeartbeats 4000000 in
theorem more17_r (x : Part) (p1 p2 p3 : Option Addr) (q1 q2 q3 : Nat) (w : World) (hm : mrB x [114] = false) :
    Calls Tryz.prog 76 #[.agg #[.int .i64 x.status, .int .i64 x.size, .int .i64 x.a, .int .i64 x.b, sv x.root, .slice p1 x.hs.length q1, .slice p2 x.ent.length q2, .slice p3 x.n q3], .string ⟨#[114]⟩] w fun e w' => e = .returned (.bool false) ∧ Below w.heap.size w w' := by
  obtain ⟨P, hP⟩ : ∃ P : ByteArray, Hid (sv x.root = .string P ∧ P.toList.isEmpty = decide (x.root = [])) := ⟨⟨x.root.toArray⟩, rfl, by rw [isEmpty_data, sv_size]; exact decide_eq_decide.2 List.length_eq_zero_iff⟩
  rw [hP.out.1]
  have i115 : ∀ w, Calls Tryz.prog 68 #[.string ⟨#[114]⟩, .int .u8 115] w fun e w' => e = .returned (.bool false) ∧ w' = w := fun w => has17_any ⟨#[114]⟩ 115 (by decide) w
  have i97 : ∀ w, Calls Tryz.prog 68 #[.string ⟨#[114]⟩, .int .u8 97] w fun e w' => e = .returned (.bool false) ∧ w' = w := fun w => has17_any ⟨#[114]⟩ 97 (by decide) w
  have i98 : ∀ w, Calls Tryz.prog 68 #[.string ⟨#[114]⟩, .int .u8 98] w fun e w' => e = .returned (.bool false) ∧ w' = w := fun w => has17_any ⟨#[114]⟩ 98 (by decide) w
  have i114 : ∀ w, Calls Tryz.prog 68 #[.string ⟨#[114]⟩, .int .u8 114] w fun e w' => e = .returned (.bool true) ∧ w' = w := fun w => has17_any ⟨#[114]⟩ 114 (by decide) w
  have i104 : ∀ w, Calls Tryz.prog 68 #[.string ⟨#[114]⟩, .int .u8 104] w fun e w' => e = .returned (.bool false) ∧ w' = w := fun w => has17_any ⟨#[114]⟩ 104 (by decide) w
  have i101 : ∀ w, Calls Tryz.prog 68 #[.string ⟨#[114]⟩, .int .u8 101] w fun e w' => e = .returned (.bool false) ∧ w' = w := fun w => has17_any ⟨#[114]⟩ 101 (by decide) w
  have i103 : ∀ w, Calls Tryz.prog 68 #[.string ⟨#[114]⟩, .int .u8 103] w fun e w' => e = .returned (.bool false) ∧ w' = w := fun w => has17_any ⟨#[114]⟩ 103 (by decide) w
  simp [mrB, hasB] at hm
  obtain ⟨h0, h1, h2, h3, h4, h5⟩ := hm
  have t0 : (x.size == 0) = true := by simp [h0]
  have t1 : (x.a == 0) = true := by simp [h1]
  have t2 : (x.b == 0) = true := by simp [h2]
  have t3 : ¬ (0 : Int) < ((x.hs.length : Nat) : Int) := by rw [h3]; simp
  have t4 : ¬ (0 : Int) < ((x.ent.length : Nat) : Int) := by rw [h4]; simp
  have t5 : ¬ (0 : Int) < ((x.n : Nat) : Int) := by rw [h5]; simp
  go_enter Tryz.func76, Tryz.ntmps76
  go_wp2_with (go_at_call 68; (first | (with_reducible refine (i115 _).mono ?_) | (with_reducible refine (i97 _).mono ?_) | (with_reducible refine (i98 _).mono ?_) | (with_reducible refine (i114 _).mono ?_) | (with_reducible refine (i104 _).mono ?_) | (with_reducible refine (i101 _).mono ?_) | (with_reducible refine (i103 _).mono ?_)); rintro e w' ⟨rfl, hw'⟩; rw [hw']; clear hw' w')
  go_ret
  exact ⟨rfl, (Below.refl _ _).alloc (Nat.le_refl _) _⟩
set_option maxRecDepth 100000 in
set_option maxHeartbeats 4000000 in
theorem more17_h (x : Part) (p1 p2 p3 : Option Addr) (q1 q2 q3 : Nat) (w : World) (hm : mrB x [104] = false) :
    Calls Tryz.prog 76 #[.agg #[.int .i64 x.status, .int .i64 x.size, .int .i64 x.a, .int .i64 x.b, sv x.root, .slice p1 x.hs.length q1, .slice p2 x.ent.length q2, .slice p3 x.n q3], .string ⟨#[104]⟩] w fun e w' => e = .returned (.bool false) ∧ Below w.heap.size w w' := by
  obtain ⟨P, hP⟩ : ∃ P : ByteArray, Hid (sv x.root = .string P ∧ P.toList.isEmpty = decide (x.root = [])) := ⟨⟨x.root.toArray⟩, rfl, by rw [isEmpty_data, sv_size]; exact decide_eq_decide.2 List.length_eq_zero_iff⟩
  rw [hP.out.1]
  have i115 : ∀ w, Calls Tryz.prog 68 #[.string ⟨#[104]⟩, .int .u8 115] w fun e w' => e = .returned (.bool false) ∧ w' = w := fun w => has17_any ⟨#[104]⟩ 115 (by decide) w
  have i97 : ∀ w, Calls Tryz.prog 68 #[.string ⟨#[104]⟩, .int .u8 97] w fun e w' => e = .returned (.bool false) ∧ w' = w := fun w => has17_any ⟨#[104]⟩ 97 (by decide) w
  have i98 : ∀ w, Calls Tryz.prog 68 #[.string ⟨#[104]⟩, .int .u8 98] w fun e w' => e = .returned (.bool false) ∧ w' = w := fun w => has17_any ⟨#[104]⟩ 98 (by decide) w
  have i114 : ∀ w, Calls Tryz.prog 68 #[.string ⟨#[104]⟩, .int .u8 114] w fun e w' => e = .returned (.bool false) ∧ w' = w := fun w => has17_any ⟨#[104]⟩ 114 (by decide) w
  have i104 : ∀ w, Calls Tryz.prog 68 #[.string ⟨#[104]⟩, .int .u8 104] w fun e w' => e = .returned (.bool true) ∧ w' = w := fun w => has17_any ⟨#[104]⟩ 104 (by decide) w
  have i101 : ∀ w, Calls Tryz.prog 68 #[.string ⟨#[104]⟩, .int .u8 101] w fun e w' => e = .returned (.bool false) ∧ w' = w := fun w => has17_any ⟨#[104]⟩ 101 (by decide) w
  have i103 : ∀ w, Calls Tryz.prog 68 #[.string ⟨#[104]⟩, .int .u8 103] w fun e w' => e = .returned (.bool false) ∧ w' = w := fun w => has17_any ⟨#[104]⟩ 103 (by decide) w
  simp [mrB, hasB] at hm
  obtain ⟨h0, h1, h2, h3, h4, h5⟩ := hm
  have t0 : (x.size == 0) = true := by simp [h0]
  have t1 : (x.a == 0) = true := by simp [h1]
  have t2 : (x.b == 0) = true := by simp [h2]
  have t3 : P.toList.isEmpty = true := by rw [hP.out.2, decide_eq_true h3]
  have t4 : ¬ (0 : Int) < ((x.ent.length : Nat) : Int) := by rw [h4]; simp
  have t5 : ¬ (0 : Int) < ((x.n : Nat) : Int) := by rw [h5]; simp
  go_enter Tryz.func76, Tryz.ntmps76
  go_wp2_with (go_at_call 68; (first | (with_reducible refine (i115 _).mono ?_) | (with_reducible refine (i97 _).mono ?_) | (with_reducible refine (i98 _).mono ?_) | (with_reducible refine (i114 _).mono ?_) | (with_reducible refine (i104 _).mono ?_) | (with_reducible refine (i101 _).mono ?_) | (with_reducible refine (i103 _).mono ?_)); rintro e w' ⟨rfl, hw'⟩; rw [hw']; clear hw' w')
  go_ret
  exact ⟨rfl, (Below.refl _ _).alloc (Nat.le_refl _) _⟩
set_option maxRecDepth 100000 in
set_option maxHeartbeats 4000000 in
theorem more17_eh (x : Part) (p1 p2 p3 : Option Addr) (q1 q2 q3 : Nat) (w : World) (hm : mrB x [101, 104] = false) :
    Calls Tryz.prog 76 #[.agg #[.int .i64 x.status, .int .i64 x.size, .int .i64 x.a, .int .i64 x.b, sv x.root, .slice p1 x.hs.length q1, .slice p2 x.ent.length q2, .slice p3 x.n q3], .string ⟨#[101, 104]⟩] w fun e w' => e = .returned (.bool false) ∧ Below w.heap.size w w' := by
  obtain ⟨P, hP⟩ : ∃ P : ByteArray, Hid (sv x.root = .string P ∧ P.toList.isEmpty = decide (x.root = [])) := ⟨⟨x.root.toArray⟩, rfl, by rw [isEmpty_data, sv_size]; exact decide_eq_decide.2 List.length_eq_zero_iff⟩
  rw [hP.out.1]
  have i115 : ∀ w, Calls Tryz.prog 68 #[.string ⟨#[101, 104]⟩, .int .u8 115] w fun e w' => e = .returned (.bool false) ∧ w' = w := fun w => has17_any ⟨#[101, 104]⟩ 115 (by decide) w
  have i97 : ∀ w, Calls Tryz.prog 68 #[.string ⟨#[101, 104]⟩, .int .u8 97] w fun e w' => e = .returned (.bool false) ∧ w' = w := fun w => has17_any ⟨#[101, 104]⟩ 97 (by decide) w
  have i98 : ∀ w, Calls Tryz.prog 68 #[.string ⟨#[101, 104]⟩, .int .u8 98] w fun e w' => e = .returned (.bool false) ∧ w' = w := fun w => has17_any ⟨#[101, 104]⟩ 98 (by decide) w
  have i114 : ∀ w, Calls Tryz.prog 68 #[.string ⟨#[101, 104]⟩, .int .u8 114] w fun e w' => e = .returned (.bool false) ∧ w' = w := fun w => has17_any ⟨#[101, 104]⟩ 114 (by decide) w
  have i104 : ∀ w, Calls Tryz.prog 68 #[.string ⟨#[101, 104]⟩, .int .u8 104] w fun e w' => e = .returned (.bool true) ∧ w' = w := fun w => has17_any ⟨#[101, 104]⟩ 104 (by decide) w
  have i101 : ∀ w, Calls Tryz.prog 68 #[.string ⟨#[101, 104]⟩, .int .u8 101] w fun e w' => e = .returned (.bool true) ∧ w' = w := fun w => has17_any ⟨#[101, 104]⟩ 101 (by decide) w
  have i103 : ∀ w, Calls Tryz.prog 68 #[.string ⟨#[101, 104]⟩, .int .u8 103] w fun e w' => e = .returned (.bool false) ∧ w' = w := fun w => has17_any ⟨#[101, 104]⟩ 103 (by decide) w
  simp [mrB, hasB] at hm
  obtain ⟨h0, h1, h2, h3, h4⟩ := hm
  have t0 : (x.size == 0) = true := by simp [h0]
  have t1 : (x.a == 0) = true := by simp [h1]
  have t2 : (x.b == 0) = true := by simp [h2]
  have t3 : P.toList.isEmpty = true := by rw [hP.out.2, decide_eq_true h3]
  have t4 : ¬ (0 : Int) < ((x.n : Nat) : Int) := by rw [h4]; simp
  go_enter Tryz.func76, Tryz.ntmps76
  go_wp2_with (go_at_call 68; (first | (with_reducible refine (i115 _).mono ?_) | (with_reducible refine (i97 _).mono ?_) | (with_reducible refine (i98 _).mono ?_) | (with_reducible refine (i114 _).mono ?_) | (with_reducible refine (i104 _).mono ?_) | (with_reducible refine (i101 _).mono ?_) | (with_reducible refine (i103 _).mono ?_)); rintro e w' ⟨rfl, hw'⟩; rw [hw']; clear hw' w')
  go_ret
  exact ⟨rfl, (Below.refl _ _).alloc (Nat.le_refl _) _⟩
end Msg
end Go.Proofs.YtmhgdcfmfcjagaaGreatDoor

namespace Go.Proofs.YtmhgdcfmfcjagaaGreatDoor
open Go.RowKit Cod
namespace Msg
set_option maxRecDepth 100000 in
set_option maxHeartbeats 4000000 in
theorem more17_a (x : Part) (p1 p2 p3 : Option Addr) (q1 q2 q3 : Nat) (w : World) (hm : mrB x [97] = false) :
    Calls Tryz.prog 76 #[.agg #[.int .i64 x.status, .int .i64 x.size, .int .i64 x.a, .int .i64 x.b, sv x.root, .slice p1 x.hs.length q1, .slice p2 x.ent.length q2, .slice p3 x.n q3], .string ⟨#[97]⟩] w fun e w' => e = .returned (.bool false) ∧ Below w.heap.size w w' := by
  obtain ⟨P, hP⟩ : ∃ P : ByteArray, Hid (sv x.root = .string P ∧ P.toList.isEmpty = decide (x.root = [])) := ⟨⟨x.root.toArray⟩, rfl, by rw [isEmpty_data, sv_size]; exact decide_eq_decide.2 List.length_eq_zero_iff⟩
  rw [hP.out.1]
  have i115 : ∀ w, Calls Tryz.prog 68 #[.string ⟨#[97]⟩, .int .u8 115] w fun e w' => e = .returned (.bool false) ∧ w' = w := fun w => has17_any ⟨#[97]⟩ 115 (by decide) w
  have i97 : ∀ w, Calls Tryz.prog 68 #[.string ⟨#[97]⟩, .int .u8 97] w fun e w' => e = .returned (.bool true) ∧ w' = w := fun w => has17_any ⟨#[97]⟩ 97 (by decide) w
  have i98 : ∀ w, Calls Tryz.prog 68 #[.string ⟨#[97]⟩, .int .u8 98] w fun e w' => e = .returned (.bool false) ∧ w' = w := fun w => has17_any ⟨#[97]⟩ 98 (by decide) w
  have i114 : ∀ w, Calls Tryz.prog 68 #[.string ⟨#[97]⟩, .int .u8 114] w fun e w' => e = .returned (.bool false) ∧ w' = w := fun w => has17_any ⟨#[97]⟩ 114 (by decide) w
  have i104 : ∀ w, Calls Tryz.prog 68 #[.string ⟨#[97]⟩, .int .u8 104] w fun e w' => e = .returned (.bool false) ∧ w' = w := fun w => has17_any ⟨#[97]⟩ 104 (by decide) w
  have i101 : ∀ w, Calls Tryz.prog 68 #[.string ⟨#[97]⟩, .int .u8 101] w fun e w' => e = .returned (.bool false) ∧ w' = w := fun w => has17_any ⟨#[97]⟩ 101 (by decide) w
  have i103 : ∀ w, Calls Tryz.prog 68 #[.string ⟨#[97]⟩, .int .u8 103] w fun e w' => e = .returned (.bool false) ∧ w' = w := fun w => has17_any ⟨#[97]⟩ 103 (by decide) w
  simp [mrB, hasB] at hm
  obtain ⟨h0, h1, h2, h3, h4, h5⟩ := hm
  have t0 : (x.size == 0) = true := by simp [h0]
  have t1 : (x.b == 0) = true := by simp [h1]
  have t2 : P.toList.isEmpty = true := by rw [hP.out.2, decide_eq_true h2]
  have t3 : ¬ (0 : Int) < ((x.hs.length : Nat) : Int) := by rw [h3]; simp
  have t4 : ¬ (0 : Int) < ((x.ent.length : Nat) : Int) := by rw [h4]; simp
  have t5 : ¬ (0 : Int) < ((x.n : Nat) : Int) := by rw [h5]; simp
  go_enter Tryz.func76, Tryz.ntmps76
  go_wp2_with (go_at_call 68; (first | (with_reducible refine (i115 _).mono ?_) | (with_reducible refine (i97 _).mono ?_) | (with_reducible refine (i98 _).mono ?_) | (with_reducible refine (i114 _).mono ?_) | (with_reducible refine (i104 _).mono ?_) | (with_reducible refine (i101 _).mono ?_) | (with_reducible refine (i103 _).mono ?_)); rintro e w' ⟨rfl, hw'⟩; rw [hw']; clear hw' w')
  go_ret
  exact ⟨rfl, (Below.refl _ _).alloc (Nat.le_refl _) _⟩
set_option maxRecDepth 100000 in
set_option maxHeartbeats 4000000 in
theorem more17_abeh (x : Part) (p1 p2 p3 : Option Addr) (q1 q2 q3 : Nat) (w : World) (hm : mrB x [97, 98, 101, 104] = false) :
    Calls Tryz.prog 76 #[.agg #[.int .i64 x.status, .int .i64 x.size, .int .i64 x.a, .int .i64 x.b, sv x.root, .slice p1 x.hs.length q1, .slice p2 x.ent.length q2, .slice p3 x.n q3], .string ⟨#[97, 98, 101, 104]⟩] w fun e w' => e = .returned (.bool false) ∧ Below w.heap.size w w' := by
  obtain ⟨P, hP⟩ : ∃ P : ByteArray, Hid (sv x.root = .string P ∧ P.toList.isEmpty = decide (x.root = [])) := ⟨⟨x.root.toArray⟩, rfl, by rw [isEmpty_data, sv_size]; exact decide_eq_decide.2 List.length_eq_zero_iff⟩
  rw [hP.out.1]
  have i115 : ∀ w, Calls Tryz.prog 68 #[.string ⟨#[97, 98, 101, 104]⟩, .int .u8 115] w fun e w' => e = .returned (.bool false) ∧ w' = w := fun w => has17_any ⟨#[97, 98, 101, 104]⟩ 115 (by decide) w
  have i97 : ∀ w, Calls Tryz.prog 68 #[.string ⟨#[97, 98, 101, 104]⟩, .int .u8 97] w fun e w' => e = .returned (.bool true) ∧ w' = w := fun w => has17_any ⟨#[97, 98, 101, 104]⟩ 97 (by decide) w
  have i98 : ∀ w, Calls Tryz.prog 68 #[.string ⟨#[97, 98, 101, 104]⟩, .int .u8 98] w fun e w' => e = .returned (.bool true) ∧ w' = w := fun w => has17_any ⟨#[97, 98, 101, 104]⟩ 98 (by decide) w
  have i114 : ∀ w, Calls Tryz.prog 68 #[.string ⟨#[97, 98, 101, 104]⟩, .int .u8 114] w fun e w' => e = .returned (.bool false) ∧ w' = w := fun w => has17_any ⟨#[97, 98, 101, 104]⟩ 114 (by decide) w
  have i104 : ∀ w, Calls Tryz.prog 68 #[.string ⟨#[97, 98, 101, 104]⟩, .int .u8 104] w fun e w' => e = .returned (.bool true) ∧ w' = w := fun w => has17_any ⟨#[97, 98, 101, 104]⟩ 104 (by decide) w
  have i101 : ∀ w, Calls Tryz.prog 68 #[.string ⟨#[97, 98, 101, 104]⟩, .int .u8 101] w fun e w' => e = .returned (.bool true) ∧ w' = w := fun w => has17_any ⟨#[97, 98, 101, 104]⟩ 101 (by decide) w
  have i103 : ∀ w, Calls Tryz.prog 68 #[.string ⟨#[97, 98, 101, 104]⟩, .int .u8 103] w fun e w' => e = .returned (.bool false) ∧ w' = w := fun w => has17_any ⟨#[97, 98, 101, 104]⟩ 103 (by decide) w
  simp [mrB, hasB] at hm
  obtain ⟨h0, h1, h2⟩ := hm
  have t0 : (x.size == 0) = true := by simp [h0]
  have t1 : P.toList.isEmpty = true := by rw [hP.out.2, decide_eq_true h1]
  have t2 : ¬ (0 : Int) < ((x.n : Nat) : Int) := by rw [h2]; simp
  go_enter Tryz.func76, Tryz.ntmps76
  go_wp2_with (go_at_call 68; (first | (with_reducible refine (i115 _).mono ?_) | (with_reducible refine (i97 _).mono ?_) | (with_reducible refine (i98 _).mono ?_) | (with_reducible refine (i114 _).mono ?_) | (with_reducible refine (i104 _).mono ?_) | (with_reducible refine (i101 _).mono ?_) | (with_reducible refine (i103 _).mono ?_)); rintro e w' ⟨rfl, hw'⟩; rw [hw']; clear hw' w')
  go_ret
  exact ⟨rfl, (Below.refl _ _).alloc (Nat.le_refl _) _⟩
set_option maxRecDepth 100000 in
set_option maxHeartbeats 4000000 in
theorem more17_g (x : Part) (p1 p2 p3 : Option Addr) (q1 q2 q3 : Nat) (w : World) (hm : mrB x [103] = false) :
    Calls Tryz.prog 76 #[.agg #[.int .i64 x.status, .int .i64 x.size, .int .i64 x.a, .int .i64 x.b, sv x.root, .slice p1 x.hs.length q1, .slice p2 x.ent.length q2, .slice p3 x.n q3], .string ⟨#[103]⟩] w fun e w' => e = .returned (.bool false) ∧ Below w.heap.size w w' := by
  obtain ⟨P, hP⟩ : ∃ P : ByteArray, Hid (sv x.root = .string P ∧ P.toList.isEmpty = decide (x.root = [])) := ⟨⟨x.root.toArray⟩, rfl, by rw [isEmpty_data, sv_size]; exact decide_eq_decide.2 List.length_eq_zero_iff⟩
  rw [hP.out.1]
  have i115 : ∀ w, Calls Tryz.prog 68 #[.string ⟨#[103]⟩, .int .u8 115] w fun e w' => e = .returned (.bool false) ∧ w' = w := fun w => has17_any ⟨#[103]⟩ 115 (by decide) w
  have i97 : ∀ w, Calls Tryz.prog 68 #[.string ⟨#[103]⟩, .int .u8 97] w fun e w' => e = .returned (.bool false) ∧ w' = w := fun w => has17_any ⟨#[103]⟩ 97 (by decide) w
  have i98 : ∀ w, Calls Tryz.prog 68 #[.string ⟨#[103]⟩, .int .u8 98] w fun e w' => e = .returned (.bool false) ∧ w' = w := fun w => has17_any ⟨#[103]⟩ 98 (by decide) w
  have i114 : ∀ w, Calls Tryz.prog 68 #[.string ⟨#[103]⟩, .int .u8 114] w fun e w' => e = .returned (.bool false) ∧ w' = w := fun w => has17_any ⟨#[103]⟩ 114 (by decide) w
  have i104 : ∀ w, Calls Tryz.prog 68 #[.string ⟨#[103]⟩, .int .u8 104] w fun e w' => e = .returned (.bool false) ∧ w' = w := fun w => has17_any ⟨#[103]⟩ 104 (by decide) w
  have i101 : ∀ w, Calls Tryz.prog 68 #[.string ⟨#[103]⟩, .int .u8 101] w fun e w' => e = .returned (.bool false) ∧ w' = w := fun w => has17_any ⟨#[103]⟩ 101 (by decide) w
  have i103 : ∀ w, Calls Tryz.prog 68 #[.string ⟨#[103]⟩, .int .u8 103] w fun e w' => e = .returned (.bool true) ∧ w' = w := fun w => has17_any ⟨#[103]⟩ 103 (by decide) w
  simp [mrB, hasB] at hm
  obtain ⟨h0, h1, h2, h3, h4, h5⟩ := hm
  have t0 : (x.size == 0) = true := by simp [h0]
  have t1 : (x.a == 0) = true := by simp [h1]
  have t2 : (x.b == 0) = true := by simp [h2]
  have t3 : P.toList.isEmpty = true := by rw [hP.out.2, decide_eq_true h3]
  have t4 : ¬ (0 : Int) < ((x.hs.length : Nat) : Int) := by rw [h4]; simp
  have t5 : ¬ (0 : Int) < ((x.ent.length : Nat) : Int) := by rw [h5]; simp
  go_enter Tryz.func76, Tryz.ntmps76
  go_wp2_with (go_at_call 68; (first | (with_reducible refine (i115 _).mono ?_) | (with_reducible refine (i97 _).mono ?_) | (with_reducible refine (i98 _).mono ?_) | (with_reducible refine (i114 _).mono ?_) | (with_reducible refine (i104 _).mono ?_) | (with_reducible refine (i101 _).mono ?_) | (with_reducible refine (i103 _).mono ?_)); rintro e w' ⟨rfl, hw'⟩; rw [hw']; clear hw' w')
  go_ret
  exact ⟨rfl, (Below.refl _ _).alloc (Nat.le_refl _) _⟩
end Msg
end Go.Proofs.YtmhgdcfmfcjagaaGreatDoor

namespace Go.Proofs.YtmhgdcfmfcjagaaGreatDoor
open Go.RowKit Cod
namespace Msg
theorem rp_cells {w : World} {A : Nat} {x : Part} {P : ByteArray} {ul ue ua : Value} (r : w.heap[A]? = some (.cells #[.int .i64 x.status, .int .i64 x.size, .int .i64 x.a, .int .i64 x.b, .string P, ul, ue, ua] 45 (0, 0))) :
    w.cell? ⟨A, 0, none⟩ = some (.int .i64 x.status) ∧ w.cell? ⟨A, 1, none⟩ = some (.int .i64 x.size) ∧ w.cell? ⟨A, 2, none⟩ = some (.int .i64 x.a) ∧ w.cell? ⟨A, 3, none⟩ = some (.int .i64 x.b) ∧ w.cell? ⟨A, 4, none⟩ = some (.string P) ∧ w.cell? ⟨A, 5, none⟩ = some ul ∧ w.cell? ⟨A, 6, none⟩ = some ue ∧ w.cell? ⟨A, 7, none⟩ = some ua := by
  refine ⟨?_, ?_, ?_, ?_, ?_, ?_, ?_, ?_⟩ <;> (rw [cell_of_row _ _ _ _ _ _ r]; rfl)
def pw (x : Part) : List UInt8 := if x.status = 0 then (if x.root = [] then [104] else [114]) else [45]
def partB (x : Part) : Bool := wi x.status 0 8 && (!mrB x (pw x) && (hhB x.hs && (decide (x.root = []) || decide (x.root.length = 32))))
theorem pstr (l : List UInt8) : ∃ P : ByteArray, Hid (sv l = .string P ∧ P.toList.isEmpty = decide (l = []) ∧ P.size = l.length) := ⟨⟨l.toArray⟩, rfl, by rw [isEmpty_data, sv_size]; exact decide_eq_decide.2 List.length_eq_zero_iff, sv_size _⟩
set_option maxRecDepth 100000 in
set_option maxHeartbeats 8000000 in
theorem part17_any (x : Part) (p1 p2 p3 : Option Addr) (q1 q2 q3 : Nat) (w : World) (s1 : Slc w (.slice p1 x.hs.length q1) x.hs) (hl1 : x.hs.length ≤ maxLen) (hm : mrB x (pw x) = false) :
    Calls Tryz.prog 78 #[.agg #[.int .i64 x.status, .int .i64 x.size, .int .i64 x.a, .int .i64 x.b, sv x.root, .slice p1 x.hs.length q1, .slice p2 x.ent.length q2, .slice p3 x.n q3]] w fun e w' => e = .returned (.bool (partB x)) ∧ Below w.heap.size w w' := by
  have im := fun w hm => more17_m x p1 p2 p3 q1 q2 q3 w hm
  have ih := fun w hm => more17_h x p1 p2 p3 q1 q2 q3 w hm
  have ir := fun w hm => more17_r x p1 p2 p3 q1 q2 q3 w hm
  obtain ⟨P, hP⟩ := pstr x.root
  rw [hP.out.1] at im ih ir ⊢
  have bA := hid ((Below.refl w.heap.size w).alloc (Nat.le_refl _) (.cells #[.int .i64 x.status, .int .i64 x.size, .int .i64 x.a, .int .i64 x.b, .string P, .slice p1 x.hs.length q1, .slice p2 x.ent.length q2, .slice p3 x.n q3] 45))
  have SB : Hid (∀ w', Below w.heap.size w w' → Slc w' (.slice p1 x.hs.length q1) x.hs) := fun w' hb => s1.below hb (Nat.le_refl _)
  have j1 := fun w (h : Slc w (.slice p1 x.hs.length q1) x.hs) => hashes17_any (.slice p1 x.hs.length q1) x.hs hl1 w h
  clear s1
  by_cases h1 : x.status < 0
  · rw [show partB x = false from by rw [partB, show wi x.status 0 8 = false from decide_eq_false (by omega), Bool.false_and]]
    generalize x.status = st at *
    clear im ih ir j1
    go_enter Tryz.func78, Tryz.ntmps78
    go_wp2
    go_ret
    exact ⟨rfl, bA.out⟩
  by_cases h2 : 8 < x.status
  · rw [show partB x = false from by rw [partB, show wi x.status 0 8 = false from decide_eq_false (by omega), Bool.false_and]]
    generalize x.status = st at *
    clear im ih ir j1
    go_enter Tryz.func78, Tryz.ntmps78
    go_wp2
    go_ret
    exact ⟨rfl, bA.out⟩
  rw [partB, show wi x.status 0 8 = true from decide_eq_true (by omega), Bool.true_and]
  by_cases h0 : x.status = 0
  · have y0 : (x.status == 0) = true := by simp [h0]
    by_cases hr : x.root = []
    · rw [pw, if_pos h0, if_pos hr] at hm ⊢
      have t1 : P.toList.isEmpty = true := by rw [hP.out.2.1, decide_eq_true hr]
      clear h0
      rw [hm, Bool.not_false, Bool.true_and]
      have HM := hid hm
      clear hm
      generalize hhB x.hs = hb at *
      cases hb with
      | false =>
        go_enter Tryz.func78, Tryz.ntmps78
        go_wp2_with (first
          | (go_at_call 76; refine (ih _ HM.out).mono ?_; rintro e w1 ⟨rfl, g1⟩; have B1 := hid (bA.out.trans (g1.mono bA.out.size)); obtain ⟨c0, c1, c2, c3, c4, c5, c6, c7⟩ := rp_cells (A := w.heap.size) ((g1.block _ (by rw [size_alloc]; omega)).trans (heap_alloc_new w _)); clear g1)
          | (go_at_call 77; refine (j1 _ (SB.out _ B1.out)).mono ?_; rintro e w' ⟨rfl, hw'⟩; rw [hw']; clear hw' w'))
        go_ret
        exact ⟨rfl, B1.out⟩
      | true =>
        skip
        rw [decide_eq_true hr]
        go_enter Tryz.func78, Tryz.ntmps78
        go_wp2_with (first
          | (go_at_call 76; refine (ih _ HM.out).mono ?_; rintro e w1 ⟨rfl, g1⟩; have B1 := hid (bA.out.trans (g1.mono bA.out.size)); obtain ⟨c0, c1, c2, c3, c4, c5, c6, c7⟩ := rp_cells (A := w.heap.size) ((g1.block _ (by rw [size_alloc]; omega)).trans (heap_alloc_new w _)); clear g1)
          | (go_at_call 77; refine (j1 _ (SB.out _ B1.out)).mono ?_; rintro e w' ⟨rfl, hw'⟩; rw [hw']; clear hw' w'))
        go_ret
        exact ⟨rfl, B1.out⟩
    · rw [pw, if_pos h0, if_neg hr] at hm ⊢
      have t1 : P.toList.isEmpty = false := by rw [hP.out.2.1, decide_eq_false hr]
      clear h0
      rw [hm, Bool.not_false, Bool.true_and]
      have HM := hid hm
      clear hm
      generalize hhB x.hs = hb at *
      cases hb with
      | false =>
        go_enter Tryz.func78, Tryz.ntmps78
        go_wp2_with (first
          | (go_at_call 76; refine (ir _ HM.out).mono ?_; rintro e w1 ⟨rfl, g1⟩; have B1 := hid (bA.out.trans (g1.mono bA.out.size)); obtain ⟨c0, c1, c2, c3, c4, c5, c6, c7⟩ := rp_cells (A := w.heap.size) ((g1.block _ (by rw [size_alloc]; omega)).trans (heap_alloc_new w _)); clear g1)
          | (go_at_call 77; refine (j1 _ (SB.out _ B1.out)).mono ?_; rintro e w' ⟨rfl, hw'⟩; rw [hw']; clear hw' w'))
        go_ret
        exact ⟨rfl, B1.out⟩
      | true =>
        skip
        rw [decide_eq_false hr]
        by_cases hz : x.root.length = 32
        · have t2 : ((P.size : Int) == 32) = true := by rw [hP.out.2.2]; simp; omega
          rw [decide_eq_true hz]
          go_enter Tryz.func78, Tryz.ntmps78
          go_wp2_with (first
            | (go_at_call 76; refine (ir _ HM.out).mono ?_; rintro e w1 ⟨rfl, g1⟩; have B1 := hid (bA.out.trans (g1.mono bA.out.size)); obtain ⟨c0, c1, c2, c3, c4, c5, c6, c7⟩ := rp_cells (A := w.heap.size) ((g1.block _ (by rw [size_alloc]; omega)).trans (heap_alloc_new w _)); clear g1)
            | (go_at_call 77; refine (j1 _ (SB.out _ B1.out)).mono ?_; rintro e w' ⟨rfl, hw'⟩; rw [hw']; clear hw' w'))
          go_ret
          exact ⟨rfl, B1.out⟩
        · have t2 : ((P.size : Int) == 32) = false := by rw [hP.out.2.2]; simp; omega
          rw [decide_eq_false hz]
          go_enter Tryz.func78, Tryz.ntmps78
          go_wp2_with (first
            | (go_at_call 76; refine (ir _ HM.out).mono ?_; rintro e w1 ⟨rfl, g1⟩; have B1 := hid (bA.out.trans (g1.mono bA.out.size)); obtain ⟨c0, c1, c2, c3, c4, c5, c6, c7⟩ := rp_cells (A := w.heap.size) ((g1.block _ (by rw [size_alloc]; omega)).trans (heap_alloc_new w _)); clear g1)
            | (go_at_call 77; refine (j1 _ (SB.out _ B1.out)).mono ?_; rintro e w' ⟨rfl, hw'⟩; rw [hw']; clear hw' w'))
          go_ret
          exact ⟨rfl, B1.out⟩
  · have y0 : (x.status == 0) = false := by simp [h0]
    rw [pw, if_neg h0] at hm ⊢
    clear h0
    rw [hm, Bool.not_false, Bool.true_and]
    have HM := hid hm
    clear hm
    generalize hhB x.hs = hb at *
    cases hb with
    | false =>
      go_enter Tryz.func78, Tryz.ntmps78
      go_wp2_with (first
        | (go_at_call 76; refine (im _ HM.out).mono ?_; rintro e w1 ⟨rfl, g1⟩; have B1 := hid (bA.out.trans (g1.mono bA.out.size)); obtain ⟨c0, c1, c2, c3, c4, c5, c6, c7⟩ := rp_cells (A := w.heap.size) ((g1.block _ (by rw [size_alloc]; omega)).trans (heap_alloc_new w _)); clear g1)
        | (go_at_call 77; refine (j1 _ (SB.out _ B1.out)).mono ?_; rintro e w' ⟨rfl, hw'⟩; rw [hw']; clear hw' w'))
      go_ret
      exact ⟨rfl, B1.out⟩
    | true =>
      by_cases hr : x.root = []
      · have t1 : P.toList.isEmpty = true := by rw [hP.out.2.1, decide_eq_true hr]
        rw [decide_eq_true hr]
        go_enter Tryz.func78, Tryz.ntmps78
        go_wp2_with (first
          | (go_at_call 76; refine (im _ HM.out).mono ?_; rintro e w1 ⟨rfl, g1⟩; have B1 := hid (bA.out.trans (g1.mono bA.out.size)); obtain ⟨c0, c1, c2, c3, c4, c5, c6, c7⟩ := rp_cells (A := w.heap.size) ((g1.block _ (by rw [size_alloc]; omega)).trans (heap_alloc_new w _)); clear g1)
          | (go_at_call 77; refine (j1 _ (SB.out _ B1.out)).mono ?_; rintro e w' ⟨rfl, hw'⟩; rw [hw']; clear hw' w'))
        go_ret
        exact ⟨rfl, B1.out⟩
      · have t1 : P.toList.isEmpty = false := by rw [hP.out.2.1, decide_eq_false hr]
        rw [decide_eq_false hr]
        by_cases hz : x.root.length = 32
        · have t2 : ((P.size : Int) == 32) = true := by rw [hP.out.2.2]; simp; omega
          rw [decide_eq_true hz]
          go_enter Tryz.func78, Tryz.ntmps78
          go_wp2_with (first
            | (go_at_call 76; refine (im _ HM.out).mono ?_; rintro e w1 ⟨rfl, g1⟩; have B1 := hid (bA.out.trans (g1.mono bA.out.size)); obtain ⟨c0, c1, c2, c3, c4, c5, c6, c7⟩ := rp_cells (A := w.heap.size) ((g1.block _ (by rw [size_alloc]; omega)).trans (heap_alloc_new w _)); clear g1)
            | (go_at_call 77; refine (j1 _ (SB.out _ B1.out)).mono ?_; rintro e w' ⟨rfl, hw'⟩; rw [hw']; clear hw' w'))
          go_ret
          exact ⟨rfl, B1.out⟩
        · have t2 : ((P.size : Int) == 32) = false := by rw [hP.out.2.2]; simp; omega
          rw [decide_eq_false hz]
          go_enter Tryz.func78, Tryz.ntmps78
          go_wp2_with (first
            | (go_at_call 76; refine (im _ HM.out).mono ?_; rintro e w1 ⟨rfl, g1⟩; have B1 := hid (bA.out.trans (g1.mono bA.out.size)); obtain ⟨c0, c1, c2, c3, c4, c5, c6, c7⟩ := rp_cells (A := w.heap.size) ((g1.block _ (by rw [size_alloc]; omega)).trans (heap_alloc_new w _)); clear g1)
            | (go_at_call 77; refine (j1 _ (SB.out _ B1.out)).mono ?_; rintro e w' ⟨rfl, hw'⟩; rw [hw']; clear hw' w'))
          go_ret
          exact ⟨rfl, B1.out⟩
end Msg
end Go.Proofs.YtmhgdcfmfcjagaaGreatDoor
