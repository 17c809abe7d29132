import Derived.Test.YtonmhimoglgbgaaDoorY10
namespace Go.Proofs.YtonmhimoglgbgaaDoor
open Go.RowKit Cod

theorem texts_tot : ∀ (L : List (List UInt8)), total L ≤ 1000000000 → ((L.map wrText).flatten).length ≤ 9 * L.length + total L
  | [], _ => by simp [total]
  | t :: L, h => by
    have e : total (t :: L) = t.length + total L := by simp [total]
    have h2 := texts_tot L (by omega)
    have := digs_len9 (n := t.length) (by omega)
    rw [List.map_cons, List.flatten_cons, List.length_append, wrText, List.length_append, List.length_cons, e]
    omega
theorem texts_len_any (L : List (List UInt8)) (h : total L ≤ 100000000) (hl : L.length ≤ 100000000) : (wrTexts L).length ≤ 9 + 9 * L.length + total L := by
  have := texts_tot L (by omega)
  have := digs_len9 (n := L.length) (by omega)
  rw [wrTexts, List.length_append]
  omega
theorem hashes_len_any (L : List (List UInt8)) (hl : L.length ≤ 100000000) : (wrHashes L).length ≤ 9 + 9 * L.length + total L := by
  have := digs_len9 (n := L.length) (by omega)
  rw [wrHashes, List.length_append]
  unfold total
  omega
theorem total_reverse (L : List (List UInt8)) : total L.reverse = total L := by
  simp [total, List.length_flatten, List.map_reverse, List.sum_reverse]
theorem rev_succ (L : List (List UInt8)) (k : Nat) (h : k < L.length) : L.reverse.take (k + 1) = L.reverse.take k ++ [L[L.length - 1 - k]'(by omega)] := by
  rw [List.take_succ_eq_append_getElem (by simpa using h), List.getElem_reverse]
theorem svs_len (L : List (List UInt8)) : (svs L).length = L.length := svs_length L

end Go.Proofs.YtonmhimoglgbgaaDoor
