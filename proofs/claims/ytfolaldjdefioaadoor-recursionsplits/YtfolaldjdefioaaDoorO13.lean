import Derived.Test.YtfolaldjdefioaaDoorO12
namespace Go.Proofs.YtfolaldjdefioaaDoor
open Go.RowKit

set_option maxRecDepth 100000 in
set_option maxHeartbeats 400000 in
theorem splits_any (n : Int) (h0 : -9223372036854775808 ≤ n) (h1 : n ≤ 9223372036854775807) (w : World) (T : Tabs w) :
    Calls Tryd.prog 3 #[.int .i64 n] w fun e w' => e = .returned (.bool true) ∧ Below w.heap.size w w' := by
  have c1 := split_any n h0 h1
  have c2 := rsplit_any n h0 h1
  generalize spI n = s at *
  have hs : (s == s) = true := by simp
  go_enter Tryd.func3, Tryd.ntmps3
  go_wp2_with (first
    | (go_at_call 9; refine (known_any _ T).mono ?_; rintro e w1 ⟨rfl, hw1⟩)
    | (go_at_call 10; refine (c1 _).mono ?_; rintro e w2 ⟨rfl, rfl⟩)
    | (go_at_call 11; refine (c2 _).mono ?_; rintro e w3 ⟨rfl, rfl⟩))
  go_ret
  exact ⟨rfl, hw1⟩
end Go.Proofs.YtfolaldjdefioaaDoor
