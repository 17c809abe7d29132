import Derived.Test.YtonmhimoglgbgaaDoorQ2
namespace Go.Proofs.YtonmhimoglgbgaaDoor
open Go.RowKit Cod

theorem pairF (s : ByteArray) : ∃ (b : ByteArray) (e : Int), (if 1048576 < s.size then Value.tuple #[sv [], .int .i64 22] else .tuple #[sv (wrText s.data.toList), .int .i64 0]) = .tuple #[.string b, .int .i64 e] := by
  by_cases h : 1048576 < s.size
  · rw [if_pos h]; exact ⟨_, _, rfl⟩
  · rw [if_neg h]; exact ⟨_, _, rfl⟩
theorem tripS (x : Rd (List UInt8)) : ∃ (a b : ByteArray) (e : Int), tupS x = .tuple #[.string a, .string b, .int .i64 e] := by
  cases x <;> exact ⟨_, _, _, rfl⟩
end Go.Proofs.YtonmhimoglgbgaaDoor
