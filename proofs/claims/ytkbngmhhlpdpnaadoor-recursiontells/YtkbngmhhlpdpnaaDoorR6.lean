import Derived.Test.YtkbngmhhlpdpnaaDoorR5
namespace Go.Proofs.YtkbngmhhlpdpnaaDoor
open Go.RowKit

theorem app_data (a b : ByteArray) : (a ++ b).data.toList = a.data.toList ++ b.data.toList := by
  have h := ByteArray.mk_append_mk a.data.toList b.data.toList
  rw [Array.toArray_toList, Array.toArray_toList] at h
  have h2 : a ++ b = ⟨(a.data.toList ++ b.data.toList).toArray⟩ := h
  rw [h2]
theorem app_size (a b : ByteArray) : (a ++ b).size = a.size + b.size := by rw [← data_length, app_data, List.length_append, data_length, data_length]
theorem joined_size (l r : ByteArray) (hl : l.size = 32) (hr : r.size = 32) : ({ data := #[1] } ++ l ++ r : ByteArray).size = 65 := by
  rw [app_size, app_size, hl, hr]; rfl
theorem joined_data (l r : ByteArray) : ({ data := #[1] } ++ l ++ r : ByteArray).data.toList = 1 :: (l.data.toList ++ r.data.toList) := by
  rw [app_data, app_data, List.append_assoc]; rfl
theorem rsum_at (s : ByteArray) (D : List UInt8) (hs : s.size ≤ 140737488355000) (hD : Hid (Sha.sha s.data.toList = D)) (w : World) :
    Calls Tryd.prog 59 #[.string s] w fun e w' => e = .returned (sv D) ∧ Below w.heap.size w w' := by
  have := rsum_any s hs w
  rwa [hD.out] at this
set_option maxRecDepth 100000 in
set_option maxHeartbeats 1000000 in
theorem rnode_ok (l r : ByteArray) (hl : l.size = 32) (hr : r.size = 32) (w : World) :
    Calls Tryd.prog 85 #[.string l, .string r] w fun e w' => e = .returned (.tuple #[sv (Sha.sha (1 :: (l.data.toList ++ r.data.toList))), .int .i64 0]) ∧ Below w.heap.size w w' := by
  go_enter Tryd.func85, Tryd.ntmps85
  obtain ⟨q, hq⟩ : ∃ q, q = ({ data := #[1] } ++ l ++ r : ByteArray) := ⟨_, rfl⟩
  have hqs := joined_size l r hl hr
  have hqd := joined_data l r
  rw [← hq] at hqs hqd
  obtain ⟨D, hD⟩ : ∃ D, Sha.sha (1 :: (l.data.toList ++ r.data.toList)) = D := ⟨_, rfl⟩
  rw [hD]
  rw [← hqd] at hD
  have HD := hid hD
  clear hD hqd
  go_wp2_with (go_at_call 59; fail)
  rw [← hq]
  clear hq
  refine (rsum_at q D (by omega) HD _).mono ?_
  rintro e w1 ⟨rfl, hw1⟩
  go_wp2
  go_ret2
  exact ⟨rfl, hw1⟩
set_option maxRecDepth 100000 in
set_option maxHeartbeats 400000 in
theorem rnode_bad1 (l r : ByteArray) (hl : ¬ l.size = 32) (w : World) :
    Calls Tryd.prog 85 #[.string l, .string r] w fun e w' => e = .returned (.tuple #[sv [], .int .i64 12]) ∧ w' = w := by
  have h1 : ((l.size : Int) != 32) = true := by simp; omega
  go_enter Tryd.func85, Tryd.ntmps85
  go_wp2
  go_ret2
  exact ⟨rfl, rfl⟩
set_option maxRecDepth 100000 in
set_option maxHeartbeats 400000 in
theorem rnode_bad2 (l r : ByteArray) (hl : l.size = 32) (hr : ¬ r.size = 32) (w : World) :
    Calls Tryd.prog 85 #[.string l, .string r] w fun e w' => e = .returned (.tuple #[sv [], .int .i64 12]) ∧ w' = w := by
  have h1 : ((r.size : Int) != 32) = true := by simp; omega
  go_enter Tryd.func85, Tryd.ntmps85
  go_wp2
  go_ret2
  exact ⟨rfl, rfl⟩
theorem rnode_any (l r : ByteArray) (w : World) :
    Calls Tryd.prog 85 #[.string l, .string r] w fun e w' => e = .returned (.tuple #[sv (nodeOf l.data.toList r.data.toList).1, .int .i64 (nodeOf l.data.toList r.data.toList).2]) ∧ Below w.heap.size w w' := by
  unfold nodeOf
  rw [data_length, data_length]
  by_cases hl : l.size = 32
  · by_cases hr : r.size = 32
    · rw [if_pos ⟨hl, hr⟩]; exact rnode_ok l r hl hr w
    · rw [if_neg (fun h => hr h.2)]
      refine (rnode_bad2 l r hl hr w).mono ?_
      rintro e w' ⟨rfl, rfl⟩
      exact ⟨rfl, Below.refl _ _⟩
  · rw [if_neg (fun h => hl h.1)]
    refine (rnode_bad1 l r hl w).mono ?_
    rintro e w' ⟨rfl, rfl⟩
    exact ⟨rfl, Below.refl _ _⟩
end Go.Proofs.YtkbngmhhlpdpnaaDoor
