import Derived.Test.YtonmhimoglgbgaaDoorY4
namespace Go.Proofs.YtonmhimoglgbgaaDoor
open Go.RowKit Cod

theorem lent_run {e t : TypeId} {z : Value} {bytes : Nat} (hu : Tryd.prog.underlying t = some (.slice e)) (hinf : (Tryd.prog.info? e).map (fun i => (i.zero, i.size, i.bytes)) = some (some z, 1, bytes)) (hzs : z.cells.size = 1)
    (hnil : ∀ (x : Addr) (cap : Nat) (w : World), (Builtin.append_ #[t, t] t #[.slice none 0 0, .slice (some x) 0 cap]).run Tryd.prog w = .ok (.slice none 0 0) w)
    (w : World) (x : Addr) (n cap : Nat) (cs : List Value) (hn : cs.length = n) (hcell : ∀ j u, cs[j]? = some u → w.cell? (x.add j) = some u) (hone : ∀ u ∈ cs, u.oneCell' = true) (hlen : n * bytes ≤ 140737488355328) (hl2 : n ≤ 140737488355328) :
    ∃ v1 w1, (Builtin.append_ #[t, t] t #[.slice none 0 0, .slice (some x) n cap]).run Tryd.prog w = .ok v1 w1 ∧ Own w1 w.heap.size v1 cs ∧ Below w.heap.size w w1 := by
  rcases Nat.eq_zero_or_pos n with h0 | h0
  · subst h0
    have : cs = [] := List.length_eq_zero_iff.1 hn
    subst this
    exact ⟨_, _, hnil x cap w, Own.nil _ _, Below.refl _ _⟩
  · obtain ⟨i0, hi, hz0, hz1, hz2⟩ := info_parts hinf
    have hsrc : Src Tryd.prog 1 t (.slice (some x) n cap) n cs w := Src.ofSlice _ hu x n cap cs (by simp [hn]) hcell hone
    obtain ⟨v', w', h1, h2, h3, h4⟩ := run_append_O (P := Tryd.prog) w w.heap.size t t t e i0 z hu hi hz0 hz1 hzs (.slice none 0 0) [] (Own.nil _ _) _ n cs hsrc
      (by rw [hz2]; simpa using hlen) (by rw [maxLen]; simp; omega) (Nat.le_refl _) (fun _ => h0)
    exact ⟨v', w', h1, by simpa using h2, Below.ofGrown (v := .slice none 0 0) h3 (fun k hk => by cases hk) (Nat.le_refl _)⟩
theorem marks_run {e t : TypeId} {z : Value} {bytes : Nat} (hu : Tryd.prog.underlying t = some (.slice e)) (hinf : (Tryd.prog.info? e).map (fun i => (i.zero, i.size, i.bytes)) = some (some z, 1, bytes)) (hzs : z.cells.size = 1)
    (w : World) (B : Nat) (v : Value) (cs : List Value) (m : Value) (hm : m.oneCell' = true) (hown : Own w B v cs) (hb : B ≤ w.heap.size) (hlen : (cs.length + 4) * bytes ≤ 140737488355328) (hl2 : cs.length + 4 ≤ 140737488355328) :
    ∃ g cap w2, (Builtin.append_ #[t, t] t #[v, .slice (some ⟨w.heap.size, 0, none⟩) 4 4]).run Tryd.prog (w.alloc (.cells #[m, m, m, m] e)) = .ok (.slice (some ⟨g, 0, none⟩) (cs.length + 4) cap) w2 ∧ Lent w2 B g cap (cs ++ [m, m, m, m]) ∧ Below B w w2 := by
  obtain ⟨i0, hi, hz0, hz1, hz2⟩ := info_parts hinf
  have hsrc : Src Tryd.prog 1 t (.slice (some ⟨w.heap.size, 0, none⟩) 4 4) 4 [m, m, m, m] (w.alloc (.cells #[m, m, m, m] e)) :=
    Src.ofSlice _ hu ⟨w.heap.size, 0, none⟩ 4 4 [m, m, m, m] (by simp) (fun j u hj => by
      rw [Addr.add_mid, cell_of_row _ _ _ _ _ _ (heap_alloc_new w _), Nat.zero_add]; simpa using hj) (fun u hu => by simp at hu; subst hu; exact hm)
  obtain ⟨v', w', h1, h2, h3, h4⟩ := run_append_O (P := Tryd.prog) (w.alloc (.cells #[m, m, m, m] e)) B t t t e i0 z hu hi hz0 hz1 hzs v cs (hown.alloc _) _ 4 [m, m, m, m] hsrc
    (by rw [hz2]; exact hlen) (by rw [maxLen]; omega) (by rw [size_alloc]; omega) (fun _ => by omega)
  have hbl : Below B w w' := ((Below.refl B w).alloc hb _).trans (Below.ofGrown h3 hown.ge (by rw [size_alloc]; omega))
  rcases h2 with ⟨rfl, hz⟩ | ⟨g, cap, rfl, g1, g2, g3⟩
  · exact absurd hz (by simp)
  · refine ⟨g, cap, w', by rw [h1, List.length_append]; rfl, ⟨.inr ⟨g, cap, rfl, g1, g2, g3⟩, g2⟩, hbl⟩
theorem nil_int (x : Addr) (cap : Nat) (w : World) : (Builtin.append_ #[45, 45] 45 #[.slice none 0 0, .slice (some x) 0 cap]).run Tryd.prog w = .ok (.slice none 0 0) w := by kernel_rfl
theorem nil_txt (x : Addr) (cap : Nat) (w : World) : (Builtin.append_ #[46, 46] 46 #[.slice none 0 0, .slice (some x) 0 cap]).run Tryd.prog w = .ok (.slice none 0 0) w := by kernel_rfl
theorem eqn_int (n c : Nat) (w : World) : (binOp .eql 45 (.slice none n c) (.slice none 0 0)).run Tryd.prog w = .ok (.bool true) w := by kernel_rfl
theorem nen_int (x : Addr) (n c : Nat) (w : World) : (binOp .eql 45 (.slice (some x) n c) (.slice none 0 0)).run Tryd.prog w = .ok (.bool false) w := by kernel_rfl
theorem eqn_txt (n c : Nat) (w : World) : (binOp .eql 46 (.slice none n c) (.slice none 0 0)).run Tryd.prog w = .ok (.bool true) w := by kernel_rfl
theorem nen_txt (x : Addr) (n c : Nat) (w : World) : (binOp .eql 46 (.slice (some x) n c) (.slice none 0 0)).run Tryd.prog w = .ok (.bool false) w := by kernel_rfl
/-- what a list that is lent looks like -/
def LentAs (w : World) (B : Nat) (v r : Value) (cs : List Value) (m : Value) : Prop :=
  (∃ n c, v = .slice none n c ∧ r = .slice none 0 0 ∧ cs = []) ∨ (∃ x n c, v = .slice (some x) n c) ∧ ∃ g cap, r = .slice (some ⟨g, 0, none⟩) cs.length cap ∧ Lent w B g cap (cs ++ [m, m, m, m])

end Go.Proofs.YtonmhimoglgbgaaDoor
