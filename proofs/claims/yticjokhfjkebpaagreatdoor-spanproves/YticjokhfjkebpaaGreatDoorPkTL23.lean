import Derived.Test.YticjokhfjkebpaaGreatDoorPkTL20
namespace Go.Proofs.YticjokhfjkebpaaGreatDoor
open Go.RowKit
theorem sg_more {L : List (List UInt8)} {b k m : Nat} (hb : b + k < L.length) (hk : k < m) : (Til.sg L b (b + k) ++ List.replicate (m - k) []).set k L[b + k] = Til.sg L b (b + (k + 1)) ++ List.replicate (m - (k + 1)) [] := by
  have hl := Til.sg_len (L := L) (b := b) (e := b + k) (by omega)
  have e1 : Til.sg L b (b + (k + 1)) = Til.sg L b (b + k) ++ [L[b + k]] := by
    unfold Til.sg
    rw [show b + (k + 1) = (b + k) + 1 by omega, List.take_add_one, List.getElem?_eq_getElem hb, Option.toList_some, List.drop_append_of_le_length (by rw [List.length_take]; omega)]
  rw [List.set_append, if_neg (by omega), hl, show b + k - b = k by omega, Nat.sub_self, e1, List.append_assoc]
  congr 1
  rw [show m - k = (m - (k + 1)) + 1 by omega, List.replicate_succ, List.set_cons_zero]
  rfl
end Go.Proofs.YticjokhfjkebpaaGreatDoor
