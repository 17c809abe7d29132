import Derived.Test.YticjokhfjkebpaaGreatDoorPkTL34
namespace Go.Proofs.YticjokhfjkebpaaGreatDoor
open Go.RowKit
/-- T3: the hash of a complete subtree -/
def hashO (L : List (List UInt8)) (l i : Int) : List UInt8 × Int := if 0 ≤ l ∧ 0 ≤ i ∧ (i.toNat + 1) * 2 ^ l.toNat ≤ L.length then (Til.hs L l.toNat i.toNat, 0) else ([], 72)
theorem pow31 {l : Nat} (h : 30 < l) : 2147483648 ≤ 2 ^ l := by
  have : 2 ^ 31 ≤ 2 ^ l := Nat.pow_le_pow_right (by omega) h
  omega
theorem big_not {L : List (List UInt8)} (h20 : L.length ≤ 1048576) {l i : Int} (hb : l < 0 ∨ 30 < l ∨ i < 0 ∨ 1048576 < i) : ¬ (0 ≤ l ∧ 0 ≤ i ∧ (i.toNat + 1) * 2 ^ l.toNat ≤ L.length) := by
  rintro ⟨h1, h2, h3⟩
  have hp := Nat.two_pow_pos l.toNat
  have k1 : i.toNat + 1 ≤ (i.toNat + 1) * 2 ^ l.toNat := Nat.le_mul_of_pos_right _ hp
  have k2 : 2 ^ l.toNat ≤ (i.toNat + 1) * 2 ^ l.toNat := Nat.le_mul_of_pos_left _ (by omega)
  rcases hb with hb | hb | hb | hb
  · omega
  · have := pow31 (l := l.toNat) (by omega); omega
  · omega
  · omega
theorem At.sg {w : World} {x : Addr} {L : List (List UInt8)} (h : At w (some x) L) (b e : Nat) : At w (some (x.add b)) (Til.sg L b e) := (h.take e).drop b
end Go.Proofs.YticjokhfjkebpaaGreatDoor
