import Derived.Test.YtonmhimoglgbgaaDoorY12
namespace Go.Proofs.YtonmhimoglgbgaaDoor
open Go.RowKit Cod

theorem SlcI.low {w : World} {v : Value} {l : List Int} (h : SlcI w v l) : ∀ x n c, v = .slice (some x) n c → l ≠ [] → x.block < w.heap.size := fun x n c hv hl => by
  obtain ⟨a, cap, rfl, h⟩ := h
  cases l with
  | nil => exact absurd rfl hl
  | cons q r =>
    obtain ⟨y, hy, hb, _⟩ := h 0 q rfl
    cases hv; cases hy; exact hb
theorem Slc.low {w : World} {v : Value} {l : List (List UInt8)} (h : Slc w v l) : ∀ x n c, v = .slice (some x) n c → l ≠ [] → x.block < w.heap.size := fun x n c hv hl => by
  obtain ⟨a, cap, rfl, h⟩ := h
  cases l with
  | nil => exact absurd rfl hl
  | cons q r =>
    obtain ⟨y, hy, hb, _⟩ := h 0 q rfl
    cases hv; cases hy; exact hb
/-- one step's arguments -/
structure OpOk (W : World) (n : Int) (s : ByteArray) (lv tv : Value) : Prop where
  n1 : -9223372036854775808 ≤ n
  n2 : n ≤ 9223372036854775807
  hs : s.size ≤ 1048576
  hl : ∃ l, SlcI W lv l ∧ (∀ c ∈ l, -9223372036854775808 ≤ c ∧ c ≤ 9223372036854775807) ∧ l.length ≤ 1048576
  ht : ∃ ps, Slc W tv ps ∧ ps.length ≤ 1048576 ∧ total ps ≤ 1048576
theorem ps_new {w : World} {WB XB : Nat} {v v' : Value} (h : From w v v') {k : Nat} (hk : k < w.heap.size) (hn : ¬ PS WB XB v k) : ¬ PS WB XB v' k := fun hp => by
  rcases hp with (rfl | hp) | rfl
  · exact hn (.inl (.inl rfl))
  · rcases h k hp with h | h
    · exact hn (.inl (.inr h))
    · omega
  · exact hn (.inr rfl)
end Go.Proofs.YtonmhimoglgbgaaDoor
