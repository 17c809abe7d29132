import Derived.Test.YtkpfpfjjkcefkaaCDV4
namespace Go.Proofs.Ytkpfpfjjkcefkaa
open Go.RowKit Go.Maps

theorem zeroW (w : World) : (zeroValue 52).run Try.prog w = .ok (.agg #[.int .i64 0, .string ⟨#[]⟩]) w := by kernel_rfl
theorem kl_of (i : Nat) (hi : i ≤ 9223372036854775807) : keyOf Try.prog 3 (.int .i64 (i : Int)) = some (kl i) := keyOf_int_mk Try.underlying3 (by
  simp only [Lit.wf, Bool.and_eq_true, decide_eq_true_eq]
  have e1 : IntKind.i64.min = -9223372036854775808 := by decide
  have e2 : IntKind.i64.max = 9223372036854775807 := by decide
  rw [e1, e2]; omega)
/-- m[i] -/
theorem Dv.look {w : World} {a g b : Nat} {L : List (List UInt8)} {p : Nat → Option (List UInt8)} {left : Nat} {dead : Bool} (h : Dv w a g b L p left dead) {i : Nat} (hi : i < L.length) :
    ∃ j s, (∀ s', p i = some s' → j = i ∧ s = s') ∧ (Instr.lookup mT (.map (some b)) (.int .i64 (i : Int)) true).run Try.prog w = .ok (.tuple #[.agg #[.int .i64 ((j : Nat) : Int), .string ⟨List.toArray s⟩], .bool (p i).isSome]) w ∧
      (Instr.lookup mT (.map (some b)) (.int .i64 (i : Int)) false).run Try.prog w = .ok (.agg #[.int .i64 ((j : Nat) : Int), .string ⟨List.toArray s⟩]) w := by
  obtain ⟨D, h1, h2⟩ := h.mp
  have hl := h.l96
  have hz : wR (.agg #[.int .i64 0, .string ⟨#[]⟩]) = some (wd 0 [], []) := wR_mk 0 []
  obtain ⟨v, ps, r1, r2⟩ := h1.look_ok kInt Try.underlying82 (zeroW w) hz (kl_of i (by omega))
  obtain ⟨v', ps', r1', r2'⟩ := h1.lookup kInt Try.underlying82 (zeroW w) hz (kl_of i (by omega))
  rw [h2.hs i hi] at r1
  cases hp : p i with
  | none =>
    have hn : Maps.has D (kl i) = false := by rw [h2.hs i hi, hp]; rfl
    rw [atKey_of_not_has hn] at r2 r2'
    obtain rfl := wR_inv r2
    obtain rfl := wR_inv r2'
    rw [hp] at r1
    exact ⟨0, [], fun _ h => (nomatch h), r1, r1'⟩
  | some s =>
    rw [h2.at_ i s hp] at r2 r2'
    obtain rfl := wR_inv r2
    obtain rfl := wR_inv r2'
    rw [hp] at r1
    exact ⟨i, s, fun s' h => ⟨rfl, Option.some.inj h⟩, r1, r1'⟩
theorem Dv.cell {w : World} {a g b : Nat} {L : List (List UInt8)} {p : Nat → Option (List UInt8)} {left : Nat} {dead : Bool} (h : Dv w a g b L p left dead) {i : Nat} (hi : i < L.length) : w.cell? ⟨g, i, none⟩ = some (.string ⟨(L[i]!).toArray⟩) := by
  have := h.rng i _ (svs_at hi)
  rwa [Nat.zero_add] at this
/-- what is read -/
def rdV (L : List (List UInt8)) (p : Nat → Option (List UInt8)) (i : Nat) : List UInt8 := (p i).getD L[i]!
set_option maxRecDepth 100000 in
set_option maxHeartbeats 1000000 in
theorem dRead_dead {w : World} {a g b : Nat} {L : List (List UInt8)} {p : Nat → Option (List UInt8)} {left : Nat} (h : Dv w a g b L p left true) (n : Int) :
    Calls Try.prog 22 #[.pointer (some ⟨a, 0, none⟩), .int .i64 n] w fun r w' => r = .returned (.tuple #[.string ⟨#[]⟩, .int .i64 2]) ∧ w' = w := by
  have i1 := dDead h
  go_enter Try.func22, Try.ntmps22
  go_wp2_with (go_at_call 14; refine i1.mono ?_; rintro r w9 ⟨rfl, hw9⟩; replace hw9 := hw9.symm; subst hw9)
  go_ret2
  exact ⟨rfl, rfl⟩
set_option maxRecDepth 100000 in
set_option maxHeartbeats 1000000 in
theorem dRead_none {w : World} {a g b : Nat} {L : List (List UInt8)} {p : Nat → Option (List UInt8)} {left : Nat} (h : Dv w a g b L p left false) (n : Int) (hn : ¬ (0 ≤ n ∧ n < (L.length : Int))) :
    Calls Try.prog 22 #[.pointer (some ⟨a, 0, none⟩), .int .i64 n] w fun r w' => r = .returned (.tuple #[.string ⟨#[]⟩, .int .i64 90]) ∧ w' = w := by
  have i1 := dDead h
  have i2 := dHas h n
  rw [decide_eq_false hn] at i2
  clear hn
  go_enter Try.func22, Try.ntmps22
  go_wp2_with (first
    | (go_at_call 14; refine i1.mono ?_; rintro r w9 ⟨rfl, hw9⟩; replace hw9 := hw9.symm; subst hw9)
    | (go_at_call 40; refine i2.mono ?_; rintro r w9 ⟨rfl, hw9⟩; replace hw9 := hw9.symm; subst hw9))
  go_ret2
  exact ⟨rfl, rfl⟩
set_option maxRecDepth 100000 in
set_option maxHeartbeats 1000000 in
theorem dRead_ok {w : World} {a g b : Nat} {L : List (List UInt8)} {p : Nat → Option (List UInt8)} {left : Nat} (h : Dv w a g b L p left false) (i : Nat) (hi : i < L.length) :
    Calls Try.prog 22 #[.pointer (some ⟨a, 0, none⟩), .int .i64 (i : Int)] w fun r w' => r = .returned (.tuple #[sv (rdV L p i), .int .i64 0]) ∧ Below w.heap.size w w' := by
  have i1 := dDead h
  have i2 := dHas h (i : Int)
  rw [decide_eq_true (by omega)] at i2
  obtain ⟨cap, k1, k2, c0, c1, c2, c3⟩ := h.c0
  obtain ⟨j, s, hj, hr, _⟩ := h.look hi
  have hc := h.cell hi
  have hj := hid hj
  have hrd : Hid (rdV L p i = (p i).getD L[i]!) := rfl
  have c4 : (i : Int) < (L.length : Int) := by omega
  have c5 : (0 : Int) ≤ (i : Int) := by omega
  have hal : a < w.heap.size := h.al
  have hgl : g < w.heap.size := h.gl
  generalize L[i]! = y at *
  generalize L.length = n at *
  generalize rdV L p i = z at *
  clear h hi
  cases hp : p i with
  | none =>
    rw [hp] at hr hrd
    clear hj
    go_enter Try.func22, Try.ntmps22
    go_wp2_with (first
      | (go_at_call 14; refine i1.mono ?_; rintro r w9 ⟨rfl, hw9⟩; replace hw9 := hw9.symm; subst hw9)
      | (go_at_call 40; refine i2.mono ?_; rintro r w9 ⟨rfl, hw9⟩; replace hw9 := hw9.symm; subst hw9))
    go_ret2
    exact ⟨by rw [show z = y from hrd.out]; rfl, (Below.refl _ _).alloc (Nat.le_refl _) _⟩
  | some s' =>
    rw [hp] at hr hrd hj
    obtain ⟨rfl, rfl⟩ := hj.out s' rfl
    go_enter Try.func22, Try.ntmps22
    go_wp2_with (first
      | (go_at_call 14; refine i1.mono ?_; rintro r w9 ⟨rfl, hw9⟩; replace hw9 := hw9.symm; subst hw9)
      | (go_at_call 40; refine i2.mono ?_; rintro r w9 ⟨rfl, hw9⟩; replace hw9 := hw9.symm; subst hw9))
    go_ret2
    exact ⟨by rw [show z = s from hrd.out]; rfl, (Below.refl _ _).alloc (Nat.le_refl _) _⟩
theorem Own.of_row {w : World} {base e n : Nat} {v : Value} {xs : List Value} (h : w.ownsRow base e 1 v n xs) : Own w base v xs := by
  obtain ⟨hx, h⟩ := h
  rw [Nat.mul_one] at hx
  rcases h with ⟨rfl, rfl⟩ | ⟨g, cap, cur, rfl, h1, h2, h3, h4, h5, h6⟩
  · exact .inl ⟨rfl, List.length_eq_zero_iff.1 hx⟩
  · refine .inr ⟨g, cap, by rw [hx], h1, by omega, h4, fun j u hj => ?_, there_of_row h2 0 _ (by omega), lt_of_heap h2⟩
    rw [cell_of_row _ _ _ _ _ _ h2, Nat.zero_add]
    have hj' := (List.getElem?_eq_some_iff.1 hj).1
    have : cur.toList[j]? = some u := by
      rw [show cur.toList[j]? = (cur.toList.take (n * 1))[j]? by rw [List.getElem?_take, if_pos (by omega)], h6, hj]
    simpa using this
set_option maxRecDepth 100000 in
set_option maxHeartbeats 1000000 in
theorem dPages {w : World} {a g b : Nat} {L : List (List UInt8)} {p : Nat → Option (List UInt8)} {left : Nat} {dead : Bool} (h : Dv w a g b L p left dead) :
    Calls Try.prog 16 #[.pointer (some ⟨a, 0, none⟩)] w fun r w' => ∃ v, r = .returned v ∧ Own w' w.heap.size v (svs L) ∧ Below w.heap.size w w' := by
  have hl := h.l96
  have i2 : ∀ cap, Calls Try.prog 33 #[.slice (some ⟨g, 0, none⟩) L.length cap] w fun r w' => ∃ v, r = .returned v ∧ Own w' w.heap.size v (svs L) ∧ Below w.heap.size w w' := fun cap => by
    refine (Try.slices_Clone_string g 0 L.length cap (L.map fun x => ⟨x.toArray⟩) w (by simp) (by omega) (fun j hj => ?_)).mono fun r w' ⟨v, h1, h2, _, h3⟩ => ⟨v, h1, ?_, h3⟩
    · rw [h.rng j _ (svs_at (by simpa using hj))]
      simp at hj
      simp [sv, hj]
    · have h2 := Own.of_row h2
      rw [List.take_of_length_le (by simp), List.map_map] at h2
      exact h2
  obtain ⟨cap, k1, k2, c0, c1, c2, c3⟩ := h.c0
  have i2 := i2 cap
  go_enter Try.func16, Try.ntmps16
  go_wp2_with (first
    | (go_at_call 34; refine (orNone_some _ _).mono ?_; rintro r w9 ⟨rfl, hw9⟩; replace hw9 := hw9.symm; subst hw9)
    | (go_at_call 33; refine i2.mono ?_; rintro r w2 ⟨v, rfl, h2, h3⟩))
  go_ret
  exact ⟨v, rfl, h2, h3⟩
theorem Dv.setLeft {w : World} {a g b : Nat} {L : List (List UInt8)} {p : Nat → Option (List UInt8)} {left : Nat} {dead : Bool} (h : Dv w a g b L p left dead) (n : Nat) (hn : n ≤ 9223372036854775807) :
    Dv (w.setCell ⟨a, 2, none⟩ (.int .i64 (n : Int))) a g b L p n dead := by
  obtain ⟨cap, h1, h2, h3⟩ := h.row
  have k := h.kept (w' := w.setCell ⟨a, 2, none⟩ (.int .i64 (n : Int)))
  refine ⟨⟨cap, ?_, h2, h3⟩, rangeAt_heap h.rng (heap_setCell_other _ _ _ _ (Ne.symm h.ag)), there_heap h.th (heap_setCell_other _ _ _ _ (Ne.symm h.ag)), ?_, h.ag, by simpa [World.setCell] using h.gl, h.l4, h.l96, h.pg, hn⟩
  · rw [heap_setCell_same _ _ _ _ _ _ h1]; rfl
  · obtain ⟨D, ⟨es, cl, m1, m2⟩, m3⟩ := h.mp
    exact ⟨D, ⟨es, cl, (heap_setCell_other _ _ _ _ (Ne.symm h.ab)).trans m1, m2⟩, m3⟩
theorem Dv.setDead {w : World} {a g b : Nat} {L : List (List UInt8)} {p : Nat → Option (List UInt8)} {left : Nat} {dead : Bool} (h : Dv w a g b L p left dead) (d : Bool) :
    Dv (w.setCell ⟨a, 3, none⟩ (.bool d)) a g b L p left d := by
  obtain ⟨cap, h1, h2, h3⟩ := h.row
  refine ⟨⟨cap, ?_, h2, h3⟩, rangeAt_heap h.rng (heap_setCell_other _ _ _ _ (Ne.symm h.ag)), there_heap h.th (heap_setCell_other _ _ _ _ (Ne.symm h.ag)), ?_, h.ag, by simpa [World.setCell] using h.gl, h.l4, h.l96, h.pg, h.lf⟩
  · rw [heap_setCell_same _ _ _ _ _ _ h1]; rfl
  · obtain ⟨D, ⟨es, cl, m1, m2⟩, m3⟩ := h.mp
    exact ⟨D, ⟨es, cl, (heap_setCell_other _ _ _ _ (Ne.symm h.ab)).trans m1, m2⟩, m3⟩
theorem Kp.setCell {a g b : Nat} {w w' : World} (h : Kp a g b w w') (o : Nat) (v : Value) : Kp a g b w (w'.setCell ⟨a, o, none⟩ v) :=
  ⟨h.os, h.tape, h.output, by simpa [World.setCell] using h.size, fun k hk h1 h2 h3 => (heap_setCell_other w' ⟨a, o, none⟩ k v h1).trans (h.block k hk h1 h2 h3)⟩
theorem Kp.setCellG {a g b : Nat} {w w' : World} (h : Kp a g b w w') (o : Nat) (v : Value) : Kp a g b w (w'.setCell ⟨g, o, none⟩ v) :=
  ⟨h.os, h.tape, h.output, by simpa [World.setCell] using h.size, fun k hk h1 h2 h3 => (heap_setCell_other w' ⟨g, o, none⟩ k v h2).trans (h.block k hk h1 h2 h3)⟩
theorem Kp.refl (a g b : Nat) (w : World) : Kp a g b w w := .ofBelow (Below.refl _ _)
set_option maxRecDepth 100000 in
set_option maxHeartbeats 1000000 in
theorem dArm_dead {w : World} {a g b : Nat} {L : List (List UInt8)} {p : Nat → Option (List UInt8)} {left : Nat} (h : Dv w a g b L p left true) (n : Int) :
    Calls Try.prog 18 #[.pointer (some ⟨a, 0, none⟩), .int .i64 n] w fun r w' => r = .returned (.int .i64 2) ∧ w' = w := by
  have i1 := dDead h
  go_enter Try.func18, Try.ntmps18
  go_wp2_with (go_at_call 14; refine i1.mono ?_; rintro r w9 ⟨rfl, hw9⟩; replace hw9 := hw9.symm; subst hw9)
  go_ret
  exact ⟨rfl, rfl⟩
set_option maxRecDepth 100000 in
set_option maxHeartbeats 1000000 in
theorem dArm_neg {w : World} {a g b : Nat} {L : List (List UInt8)} {p : Nat → Option (List UInt8)} {left : Nat} (h : Dv w a g b L p left false) (n : Int) (hn : n < 0) :
    Calls Try.prog 18 #[.pointer (some ⟨a, 0, none⟩), .int .i64 n] w fun r w' => r = .returned (.int .i64 1) ∧ w' = w := by
  have i1 := dDead h
  go_enter Try.func18, Try.ntmps18
  go_wp2_with (go_at_call 14; refine i1.mono ?_; rintro r w9 ⟨rfl, hw9⟩; replace hw9 := hw9.symm; subst hw9)
  go_ret
  exact ⟨rfl, rfl⟩
set_option maxRecDepth 100000 in
set_option maxHeartbeats 1000000 in
theorem dArm_ok {w : World} {a g b : Nat} {L : List (List UInt8)} {p : Nat → Option (List UInt8)} {left : Nat} (h : Dv w a g b L p left false) (n : Nat) (hn : n ≤ 9223372036854775807) :
    Calls Try.prog 18 #[.pointer (some ⟨a, 0, none⟩), .int .i64 (n : Int)] w fun r w' => r = .returned (.int .i64 0) ∧ Dv w' a g b L p n false ∧ Kp a g b w w' := by
  have i1 := dDead h
  obtain ⟨cap, h1, _, _⟩ := h.row
  obtain ⟨cap', k1, k2, c0, c1, c2, c3⟩ := h.c0
  have f2 : w.frozen? ⟨a, 2, none⟩ = false := frozen_of_row _ _ _ _ _ h1
  have H := hid h
  have n0 : ¬ (n : Int) < 0 := by omega
  clear h h1
  go_enter Try.func18, Try.ntmps18
  go_wp2_with (go_at_call 14; refine i1.mono ?_; rintro r w9 ⟨rfl, hw9⟩; replace hw9 := hw9.symm; subst hw9)
  go_ret
  exact ⟨rfl, H.out.setLeft n hn, (Kp.refl _ _ _ _).setCell _ _⟩
end Go.Proofs.Ytkpfpfjjkcefkaa
