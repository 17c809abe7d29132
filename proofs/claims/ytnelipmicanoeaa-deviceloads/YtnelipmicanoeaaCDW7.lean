import Derived.Test.YtnelipmicanoeaaCDW6
namespace Go.Proofs.Ytnelipmicanoeaa
open Go.RowKit Go.Maps
theorem loads_any (P n at_ : Int) (hn1 : -9223372036854775808 ≤ n) (hn2 : n ≤ 9223372036854775807) (ha1 : -9223372036854775808 ≤ at_) (ha2 : at_ ≤ 9223372036854775807) (s : ByteArray) (w : World) :
    Calls Try.prog 3 #[.int .i64 P, .int .i64 n, .int .i64 at_, .string s] w fun r w' => r = .returned (.bool true) ∧ Below w.heap.size w w' := by
  by_cases h : 4 ≤ P ∧ P ≤ 4096
  · obtain ⟨Q, rfl⟩ : ∃ Q : Nat, P = (Q : Int) := ⟨P.toNat, by omega⟩
    exact loads_ok Q (by omega) (by omega) n at_ hn1 hn2 ha1 ha2 s w
  · exact loads_bad P h n at_ hn1 hn2 ha1 ha2 s w
end Go.Proofs.Ytnelipmicanoeaa
