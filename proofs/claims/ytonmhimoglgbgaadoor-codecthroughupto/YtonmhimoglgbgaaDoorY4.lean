import Derived.Test.YtonmhimoglgbgaaDoorY3
namespace Go.Proofs.YtonmhimoglgbgaaDoor
open Go.RowKit Cod

/-- a slice of cells, wherever it lies -/
def SlcV (w : World) (v : Value) (cs : List Value) : Prop :=
  ∃ a cap, v = .slice a cs.length cap ∧ ∀ j c, cs[j]? = some c → ∃ x : Addr, a = some x ∧ x.block < w.heap.size ∧ w.cell? (x.add j) = some c
def ivs (l : List Int) : List Value := l.map fun n : Int => Value.int .i64 n
theorem SlcI.toV {w : World} {v : Value} {l : List Int} (h : SlcI w v l) : SlcV w v (ivs l) := by
  obtain ⟨a, cap, rfl, h⟩ := h
  refine ⟨a, cap, by simp [ivs], fun j c hc => ?_⟩
  rw [ivs, List.getElem?_map, Option.map_eq_some_iff] at hc
  obtain ⟨n, hn, rfl⟩ := hc
  exact h j n hn
theorem Slc.toV {w : World} {v : Value} {l : List (List UInt8)} (h : Slc w v l) : SlcV w v (svs l) := by
  obtain ⟨a, cap, rfl, h⟩ := h
  refine ⟨a, cap, by simp [svs], fun j c hc => ?_⟩
  rw [svs, List.getElem?_map, Option.map_eq_some_iff] at hc
  obtain ⟨n, hn, rfl⟩ := hc
  exact h j n hn
theorem SlcV.toI {w : World} {v : Value} {l : List Int} (h : SlcV w v (ivs l)) : SlcI w v l := by
  obtain ⟨a, cap, rfl, h⟩ := h
  exact ⟨a, cap, by simp [ivs], fun j c hc => h j _ (by rw [ivs, List.getElem?_map, hc]; rfl)⟩
theorem SlcV.toT {w : World} {v : Value} {l : List (List UInt8)} (h : SlcV w v (svs l)) : Slc w v l := by
  obtain ⟨a, cap, rfl, h⟩ := h
  exact ⟨a, cap, by simp [svs], fun j c hc => h j _ (by rw [svs, List.getElem?_map, hc]; rfl)⟩
theorem SlcV.keep {S : Nat → Prop} {w w' : World} {v : Value} {ps : List Value} (h : SlcV w v ps) (hb : Keep S w w') (ha : Apart v S) : SlcV w' v ps := by
  obtain ⟨a, cap, rfl, h⟩ := h
  refine ⟨a, cap, rfl, fun j p hp => ?_⟩
  obtain ⟨x, rfl, hx, hc⟩ := h j p hp
  refine ⟨x, rfl, Nat.lt_of_lt_of_le hx hb.size, ?_⟩
  rw [World.cell?_of_block (w := w) (by rw [add_block]; exact hb.block x.block hx (ha x _ _ rfl))]; exact hc
/-- a list that was handed in with room behind it: its row holds all of cs -/
def Lent (w : World) (B g cap : Nat) (cs : List Value) : Prop := Own w B (.slice (some ⟨g, 0, none⟩) cs.length cap) cs ∧ cs.length ≤ cap
theorem Lent.slcV {w : World} {B g cap : Nat} {cs : List Value} (h : Lent w B g cap cs) (n : Nat) (hn : n ≤ cs.length) : SlcV w (.slice (some ⟨g, 0, none⟩) n cap) (cs.take n) := by
  obtain ⟨h, _⟩ := h
  rcases h with ⟨h, _⟩ | ⟨g', cap', h, h1, h2, h3, h4, h5, h6⟩
  · cases h
  · injection h with e1 e2 e3
    injection e1 with e1
    injection e1 with e1
    subst e1 e3
    refine ⟨_, cap, by rw [List.length_take, Nat.min_eq_left hn], fun j c hc => ⟨_, rfl, h6, ?_⟩⟩
    rw [Addr.add_mid]
    refine h4 j c ?_
    rw [List.getElem?_take] at hc
    split at hc
    · exact hc
    · cases hc
theorem Lent.keep {S : Nat → Prop} {w w' : World} {B g cap : Nat} {cs : List Value} (h : Lent w B g cap cs) (hb : Keep S w w') (hne : ¬ S g) : Lent w' B g cap cs :=
  ⟨h.1.keep hb (fun k hk e => by cases hk; exact hne e), h.2⟩
theorem Lent.cell {w : World} {B g cap : Nat} {cs : List Value} (h : Lent w B g cap cs) {k : Nat} {c : Value} (hk : cs[k]? = some c) : w.cell? ⟨g, k, none⟩ = some c ∧ w.frozen? ⟨g, k, none⟩ = false := by
  obtain ⟨h, _⟩ := h
  rcases h with ⟨h, _⟩ | ⟨g', cap', h, h1, h2, h3, h4, h5, h6⟩
  · cases h
  · injection h with e1 e2 e3
    injection e1 with e1
    injection e1 with e1
    subst e1 e3
    have hlt := (List.getElem?_eq_some_iff.1 hk).1
    have a1 := h4 k c hk
    have a2 := (h5 k (by omega)).2
    rw [Nat.zero_add] at a1 a2
    exact ⟨a1, a2⟩
theorem Lent.lt {w : World} {B g cap : Nat} {cs : List Value} (h : Lent w B g cap cs) : B ≤ g ∧ g < w.heap.size := ⟨h.1.ge g rfl, h.1.lt g rfl⟩
theorem Lent.set {w : World} {B g cap : Nat} {cs : List Value} (h : Lent w B g cap cs) (k : Nat) (u : Value) (hk : k < cs.length) : Lent (w.setCell ⟨g, k, none⟩ u) B g cap (cs.set k u) := by
  obtain ⟨h, hc⟩ := h
  refine ⟨?_, by simpa using hc⟩
  rw [List.length_set]
  rcases h with ⟨h, _⟩ | ⟨g', cap', h, h1, h2, h3, h4, h5, h6⟩
  · cases h
  · injection h with e1 e2 e3
    injection e1 with e1
    injection e1 with e1
    subst e1 e3
    have e : w.setCell ⟨g, k, none⟩ u = w.setCells g k [u] := rfl
    have hth : w.there g k [u].length := fun j hj => by
      have := h5 (k + j) (by simp at hj; omega)
      rwa [Nat.zero_add] at this
    refine .inr ⟨g, cap, by rw [List.length_set], h1, by rw [List.length_set]; exact h2, h3, ?_, ?_, by rw [e]; have := (But.setCells [u] k (But.refl g w)).size; omega⟩
    · intro j c hj
      rw [Nat.zero_add]
      by_cases hjk : j = k
      · subst hjk
        rw [List.getElem?_set_self (by omega)] at hj
        obtain rfl := Option.some.inj hj
        have := World.rangeAt_setCells_same w g j [u] hth 0 u rfl
        rwa [Nat.add_zero] at this
      · rw [List.getElem?_set_ne (by omega)] at hj
        have h4' := h4 j c hj
        rw [Nat.zero_add] at h4'
        rw [e]
        have hr : w.rangeAt g j [c] := fun i v hi => by
          match i, hi with
          | 0, hi => obtain rfl := Option.some.inj hi; exact h4'
        have := World.rangeAt_setCells_apart hr g k [u] (by
          rcases Nat.lt_or_ge j k with h | h
          · exact .inr (.inl (by simp; omega))
          · exact .inr (.inr (by simp; omega))) 0 c rfl
        rwa [Nat.add_zero] at this
    · rw [e]; exact World.there_setCells h5 _ _ _
end Go.Proofs.YtonmhimoglgbgaaDoor
