import Derived.Test.YticjokhfjkebpaaGreatDoorPkPR5
import Derived.Test.YticjokhfjkebpaaGreatDoorPkPP5
import Derived.Test.YticjokhfjkebpaaGreatDoorPkFN6
/- Layer 14: Prove and the document's, whatever is asked -/
namespace Go.Proofs.YticjokhfjkebpaaGreatDoor
open Go.RowKit Go.Shelf
namespace Spn
/-- what Prove answers: the numbers, the error, the hashes -/
def prvT (k : Nat) (n x y : Int) : Int × Int × Int × Int := if prvB k n x y = true then (n, x, y, 0) else (0, 0, 0, 140)
def prvH (L : List (List UInt8)) (n x y : Int) : List (List UInt8) := if prvB L.length n x y = true then tolS L n.toNat x.toNat y.toNat else []
theorem prvB_nat {k : Nat} {n x y : Int} (h : prvB k n x y = true) : ∃ n' x' y' : Nat, n = n' ∧ x = x' ∧ y = y' ∧ x' < y' ∧ y' ≤ n' ∧ n' ≤ k := by
  unfold prvB runB at h
  simp only [Bool.and_eq_true, decide_eq_true_eq] at h
  exact ⟨n.toNat, x.toNat, y.toNat, by omega, by omega, by omega, by omega, by omega, by omega⟩
theorem prvH_len {L : List (List UInt8)} (hL : L.length ≤ 1048576) (n x y : Int) : (prvH L n x y).length ≤ 81 := by
  unfold prvH
  by_cases h : prvB L.length n x y = true
  · rw [if_pos h]
    obtain ⟨n', x', y', rfl, rfl, rfl, h1, h2, h3⟩ := prvB_nat h
    rw [tolS_len, Int.toNat_natCast, Int.toNat_natCast, Int.toNat_natCast]
    exact told_len (by omega) (by omega)
  · rw [if_neg h]; simp
theorem own_from14 {w : World} {b0 B : Nat} {v : Value} {cs : List Value} (h : Own w b0 v cs) (hB : ∀ k, v.ownBlock = some k → B ≤ k) : Own w B v cs := by
  rcases h with h | ⟨g, cap, rfl, _, h1⟩
  · exact .inl h
  · exact .inr ⟨g, cap, rfl, hB g rfl, h1⟩
theorem prove14_any {w : World} {q h : Nat} {L : List (List UInt8)} {F : Nat → Prop} (t : TrL w q h L F) (Z : Tb w) (n x y : Int) :
    Calls Tryz.prog 12 #[.pointer (some ⟨q, 0, none⟩), .int .i64 n, sg x y] w fun r w' => ∃ v, r = .returned (.tuple #[rn (prvT L.length n x y).1 (prvT L.length n x y).2.1 (prvT L.length n x y).2.2.1 v, .int .i64 (prvT L.length n x y).2.2.2]) ∧ Own w' w.heap.size v (svs (prvH L n x y)) ∧ Below w.heap.size w w' := by
  by_cases hb : prvB L.length n x y = true
  · have e1 : prvT L.length n x y = (n, x, y, 0) := by unfold prvT; rw [if_pos hb]
    have e2 : prvH L n x y = tolS L n.toNat x.toNat y.toNat := by unfold prvH; rw [if_pos hb]
    rw [e1, e2]
    obtain ⟨n', x', y', rfl, rfl, rfl, h1, h2, h3⟩ := prvB_nat hb
    rw [Int.toNat_natCast, Int.toNat_natCast, Int.toNat_natCast]
    refine (prove14_ok t Z n' x' y' h1 h2 h3).mono ?_
    rintro r w' ⟨gh, rfl, R, hg, b⟩
    refine ⟨_, rfl, ?_, b⟩
    have hl : (tolS L n' x' y').length ≤ 81 := by rw [tolS_len]; exact told_len (by omega) (by have := t.n20; omega)
    exact own_from14 (R.own (by omega)) (fun k hk => by cases hk; exact hg)
  · have hb' : prvB L.length n x y = false := by simpa using hb
    have e1 : prvT L.length n x y = (0, 0, 0, 140) := by unfold prvT; rw [if_neg hb]
    have e2 : prvH L n x y = [] := by unfold prvH; rw [if_neg hb]
    rw [e1, e2]
    refine (prove14_bad t n x y hb').mono ?_
    rintro r w' ⟨rfl, b⟩
    exact ⟨_, rfl, Own.nil _ _, b⟩
theorem rprove14_any {w : World} {q h : Nat} {L : List (List UInt8)} {F : Nat → Prop} (t : RtL w q h L F) (hn20 : L.length ≤ 1048576) (n x y : Int) :
    Calls Tryz.prog 22 #[.pointer (some ⟨q, 0, none⟩), .int .i64 n, sg x y] w fun r w' => ∃ a c, r = .returned (.tuple #[rn (prvT L.length n x y).1 (prvT L.length n x y).2.1 (prvT L.length n x y).2.2.1 (.slice a (prvH L n x y).length c), .int .i64 (prvT L.length n x y).2.2.2]) ∧ At w' a (prvH L n x y) ∧ Below w.heap.size w w' := by
  by_cases hb : prvB L.length n x y = true
  · have e1 : prvT L.length n x y = (n, x, y, 0) := by unfold prvT; rw [if_pos hb]
    have e2 : prvH L n x y = tolS L n.toNat x.toNat y.toNat := by unfold prvH; rw [if_pos hb]
    rw [e1, e2]
    obtain ⟨n', x', y', rfl, rfl, rfl, h1, h2, h3⟩ := prvB_nat hb
    rw [Int.toNat_natCast, Int.toNat_natCast, Int.toNat_natCast]
    refine (rprove14_ok t n' x' y' h1 h2 h3 hn20).mono ?_
    rintro r w' ⟨v, rfl, O, _, b⟩
    obtain ⟨a, c, rfl, hat, _, _⟩ := ownM_at O
    exact ⟨a, c, rfl, hat, b⟩
  · have hb' : prvB L.length n x y = false := by simpa using hb
    have e1 : prvT L.length n x y = (0, 0, 0, 140) := by unfold prvT; rw [if_neg hb]
    have e2 : prvH L n x y = [] := by unfold prvH; rw [if_neg hb]
    rw [e1, e2]
    refine (rprove14_bad t n x y hb').mono ?_
    rintro r w' ⟨rfl, b⟩
    exact ⟨none, 0, rfl, At.nil _ _, b⟩
end Spn
end Go.Proofs.YticjokhfjkebpaaGreatDoor
