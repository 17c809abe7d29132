import Derived.Test.YticjokhfjkebpaaGreatDoorPkTL18
import Derived.Test.YticjokhfjkebpaaGreatDoorPkFN3
namespace Go.Proofs.YticjokhfjkebpaaGreatDoor
open Go.RowKit
/-- T3: the hashes that a tile has so far -/
def tileO (L : List (List UInt8)) (h : Nat) (l i : Int) : List (List UInt8) := if 0 ≤ l ∧ 2 ^ l.toNat ≤ L.length then Til.rf L h (Til.cn L.length) (l * (h : Int), i) else []
theorem blen (n : Nat) (hn : n < 18446744073709551616) (w : World) : ∃ c : Nat, c ≤ 64 ∧ (∀ l : Nat, 2 ^ l ≤ n ↔ l < c) ∧ Calls Tryz.prog 138 #[.int .u64 (n : Int)] w fun e w' => e = .returned (.int .i64 (c : Int)) ∧ w' = w := by
  by_cases h0 : n = 0
  · subst h0
    refine ⟨0, by omega, fun l => ⟨fun h => absurd (Nat.two_pow_pos l) (by omega), fun h => absurd h (by omega)⟩, ?_⟩
    have := lenU_any (0 : Nat) (by omega) (by omega) w
    exact this
  · have h1 : n.log2 < 64 := (Nat.log2_lt h0).2 hn
    refine ⟨n.log2 + 1, by omega, fun l => ?_, ?_⟩
    · rw [Nat.lt_succ_iff, ← Nat.le_log2 h0]
    · have := lenU_nat n n.log2 (by omega) hn rfl w
      exact this
end Go.Proofs.YticjokhfjkebpaaGreatDoor
