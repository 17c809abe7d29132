import Derived.Test.YtkbngmhhlpdpnaaDoorW7
namespace Go.Proofs.YtkbngmhhlpdpnaaDoor
open Go.RowKit



set_option maxRecDepth 100000 in
set_option maxHeartbeats 400000 in
theorem empty_any (w : World) (T : Tabs w) :
    Calls Tryd.prog 96 #[] w fun e w' => e = .returned (sv (Sha.sha [])) ∧ Below w.heap.size w w' := by
  go_enter Tryd.func96, Tryd.ntmps96
  go_wp2_with (go_at_call 103; refine (sum_none _ T).mono ?_; rintro e w5 ⟨rfl, hw5⟩)
  go_ret
  exact ⟨rfl, hw5⟩

theorem sv_eta (s : ByteArray) : Value.string s = sv s.data.toList := rfl
theorem texts2 (w : World) (a b : List UInt8) (t : TypeId) : Texts (w.alloc (.cells #[sv a, sv b] t)) w.heap.size 0 [a, b] := fun j p h => by
  rw [cell_of_row _ _ _ _ _ _ (heap_alloc_new w _)]
  match j, h with
  | 0, h => obtain rfl := Option.some.inj h; rfl
  | 1, h => obtain rfl := Option.some.inj h; rfl
theorem texts3 (w : World) (a b c : List UInt8) (t : TypeId) : Texts (w.alloc (.cells #[sv a, sv b, sv c] t)) w.heap.size 0 [a, b, c] := fun j p h => by
  rw [cell_of_row _ _ _ _ _ _ (heap_alloc_new w _)]
  match j, h with
  | 0, h => obtain rfl := Option.some.inj h; rfl
  | 1, h => obtain rfl := Option.some.inj h; rfl
  | 2, h => obtain rfl := Option.some.inj h; rfl


set_option maxRecDepth 100000 in
set_option maxHeartbeats 400000 in
theorem node_ok (l r : ByteArray) (hl : l.size = 32) (hr : r.size = 32) (w : World) (T : Tabs w) :
    Calls Tryd.prog 76 #[.string l, .string r] w fun e w' => e = .returned (.tuple #[sv (Sha.sha (1 :: (l.data.toList ++ r.data.toList))), .int .i64 0]) ∧ Below w.heap.size w w' := by
  have hT := T.lt
  go_enter Tryd.func76, Tryd.ntmps76
  go_wp2_with (go_at_call 103; go_must (refine (sum_any w.heap.size 0 3 [[1], l.data.toList, r.data.toList] (by simp [total, hl, hr]) (by simp [maxLen]) _ (T.below ((Below.refl _ _).alloc (Nat.le_refl _) _) hT) (by rw [size_alloc]; omega) (texts3 w [1] l.data.toList r.data.toList _)).mono ?_); rintro e w5 ⟨rfl, hw5⟩)
  go_ret2
  refine ⟨by simp, ?_⟩
  exact ((Below.refl _ _).alloc (Nat.le_refl _) _).trans (hw5.mono (by rw [size_alloc]; omega))
set_option maxRecDepth 100000 in
set_option maxHeartbeats 400000 in
theorem node_bad1 (l r : ByteArray) (hl : ¬ l.size = 32) (w : World) :
    Calls Tryd.prog 76 #[.string l, .string r] w fun e w' => e = .returned (.tuple #[sv [], .int .i64 12]) ∧ w' = w := by
  have h1 : ((l.size : Int) != 32) = true := by simp; omega
  go_enter Tryd.func76, Tryd.ntmps76
  go_wp2
  go_ret2
  exact ⟨rfl, rfl⟩
set_option maxRecDepth 100000 in
set_option maxHeartbeats 400000 in
theorem node_bad2 (l r : ByteArray) (hl : l.size = 32) (hr : ¬ r.size = 32) (w : World) :
    Calls Tryd.prog 76 #[.string l, .string r] w fun e w' => e = .returned (.tuple #[sv [], .int .i64 12]) ∧ w' = w := by
  have h1 : ((r.size : Int) != 32) = true := by simp; omega
  go_enter Tryd.func76, Tryd.ntmps76
  go_wp2
  go_ret2
  exact ⟨rfl, rfl⟩
/-- D3 -/
def nodeOf (l r : List UInt8) : List UInt8 × Int := if l.length = 32 ∧ r.length = 32 then (Sha.sha (1 :: (l ++ r)), 0) else ([], 12)
theorem node_any (l r : ByteArray) (w : World) (T : Tabs w) :
    Calls Tryd.prog 76 #[.string l, .string r] w fun e w' => e = .returned (.tuple #[sv (nodeOf l.data.toList r.data.toList).1, .int .i64 (nodeOf l.data.toList r.data.toList).2]) ∧ Below w.heap.size w w' := by
  unfold nodeOf
  rw [data_length, data_length]
  by_cases hl : l.size = 32
  · by_cases hr : r.size = 32
    · rw [if_pos ⟨hl, hr⟩]; exact node_ok l r hl hr w T
    · rw [if_neg (fun h => hr h.2)]
      refine (node_bad2 l r hl hr w).mono ?_
      rintro e w' ⟨rfl, rfl⟩
      exact ⟨rfl, Below.refl _ _⟩
  · rw [if_neg (fun h => hl h.1)]
    refine (node_bad1 l r hl w).mono ?_
    rintro e w' ⟨rfl, rfl⟩
    exact ⟨rfl, Below.refl _ _⟩
end Go.Proofs.YtkbngmhhlpdpnaaDoor
