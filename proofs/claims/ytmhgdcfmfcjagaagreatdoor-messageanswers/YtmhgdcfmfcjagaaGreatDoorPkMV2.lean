import Derived.Test.YtmhgdcfmfcjagaaGreatDoorPkMB4A
import Derived.Test.YtmhgdcfmfcjagaaGreatDoorPkMT1
namespace Go.Proofs.YtmhgdcfmfcjagaaGreatDoor
open Go.RowKit Cod
namespace Msg
def rnum : Fr → Nat
  | .size => 117
  | .a => 118
  | .over => 119
  | .root => 121
  | .hashes => 123
  | .parts => 120
  | .entries => 122
def rv (g : Fr) : Value := .func (.func (rnum g)) #[] #[]
theorem infoRf : (Tryz.prog.info? 147).map (fun i => (i.zero, i.size, i.bytes)) = some (some .nilFunc, 1, 8) := by kernel_rfl
theorem own_of_row {w : World} {base g : Nat} {cs : List Value} {t : TypeId} (h : w.heap[g]? = some (.cells cs.toArray t (0, 0))) (hg : base ≤ g) (hl : cs.length ≤ maxLen) : Own w base (.slice (some ⟨g, 0, none⟩) cs.length cs.length) cs :=
  .inr ⟨g, cs.length, rfl, hg, Nat.le_refl _, hl, rangeAt_of_list h (fun j v hv => by rw [Nat.zero_add]; exact hv), there_of_row h 0 _ (by simp), lt_of_heap h⟩
def RsPost (k : Nat) (w : World) (e : Ending) (w' : World) : Prop := ∃ v, e = .returned v ∧ Own w' w.heap.size v ((rflds k).map rv) ∧ Below w.heap.size w w'
theorem app_rv (w : World) (base : Nat) (v : Value) (l : List Fr) (g : Fr) (h : Own w base v (l.map rv)) (hl : l.length ≤ 10) (hb : base ≤ w.heap.size) :
    ∃ v' w', (Builtin.append_ #[145, 145] 145 #[v, .slice (some ⟨w.heap.size, 0, none⟩) 1 1]).run Tryz.prog (w.alloc (.cells #[rv g] 147)) = .ok v' w' ∧ Own w' base v' ((l ++ [g]).map rv) ∧ Below base w w' := by
  obtain ⟨v', w', h1, h2, h3⟩ := append_one 145 147 .nilFunc 8 (by omega) (by kernel_rfl) infoRf rfl w base v (l.map rv) (rv g) rfl h (by rw [List.length_map]; omega) hb
  refine ⟨v', w', h1, by rw [List.map_append]; exact h2, h3.keepG.below hb fun k hk e => ?_⟩
  have := h.ge k e
  omega
set_option maxRecDepth 100000 in
set_option maxHeartbeats 2000000 in
theorem rr_1 (w : World) : Calls Tryz.prog 99 #[.int .i64 1] w (RsPost 1 w) := by
  obtain ⟨W, hW⟩ : ∃ W, Hid (((((((w.alloc (.cells #[.func (.func 117) #[] #[], .func (.func 118) #[] #[]] 147)).alloc (.cells #[.func (.func 117) #[] #[]] 147)).alloc (.cells #[.func (.func 118) #[] #[]] 147)).alloc (.cells #[.func (.func 118) #[] #[], .func (.func 119) #[] #[]] 147)).alloc (.cells #[.func (.func 120) #[] #[]] 147)).alloc (.cells #[.slice none 0 0, .slice (some ⟨w.heap.size, 0, none⟩) 2 2, .slice (some ⟨w.heap.size + 1, 0, none⟩) 1 1, .slice none 0 0, .slice none 0 0, .slice none 0 0, .slice none 0 0, .slice none 0 0, .slice none 0 0, .slice (some ⟨w.heap.size + 1 + 1, 0, none⟩) 1 1, .slice (some ⟨w.heap.size + 1 + 1 + 1, 0, none⟩) 2 2, .slice none 0 0, .slice (some ⟨w.heap.size + 1 + 1 + 1 + 1, 0, none⟩) 1 1] 170)) = W) := ⟨_, rfl⟩
  have hz : W.heap.size = w.heap.size + 1 + 1 + 1 + 1 + 1 + 1 := by rw [← hW.out]; simp only [size_alloc]
  have bW : Below w.heap.size w W := by
    rw [← hW.out]
    repeat' refine Below.alloc ?_ (by first | exact Nat.le_refl _ | (simp only [size_alloc]; omega)) _
    exact Below.refl _ _
  have o0 : Own W w.heap.size (.slice (some ⟨w.heap.size, 0, none⟩) 2 2) (([.size, .a] : List Fr).map rv) := by
    have r : W.heap[w.heap.size]? = some (.cells (([.size, .a] : List Fr).map rv).toArray 147 (0, 0)) := by
      rw [← hW.out]
      rw [alloc_lt (by simp only [size_alloc]; omega)]
      rw [alloc_lt (by simp only [size_alloc]; omega)]
      rw [alloc_lt (by simp only [size_alloc]; omega)]
      rw [alloc_lt (by simp only [size_alloc]; omega)]
      rw [alloc_lt (by simp only [size_alloc]; omega)]
      exact heap_alloc_at _ _ _ (by first | rfl | simp only [size_alloc])
    exact own_of_row (base := w.heap.size) r (by omega) (by decide)
  obtain ⟨v1, w1, hc1, o1, b1⟩ := app_rv W w.heap.size _ [.size, .a] .root o0 (by decide) (by omega)
  obtain ⟨a1, c1, e1⟩ := o1.shape
  subst e1
  have HO := hid o1
  have HB := hid (bW.trans b1)
  rw [hz, ← hW.out] at hc1
  simp only [rv, rnum, List.length_map, List.length_cons, List.length_nil, List.length_append, Nat.zero_add, Nat.reduceAdd] at hc1 HO
  clear o0 o1 b1 bW hz
  go_enter Tryz.func99, Tryz.ntmps99
  go_wp2_with (first
    | (at_builtin; go_must (refine Lib.wpList_append_run _ rfl _ _ 145 145 rfl _ _ rfl rfl _ _ hc1 ?_)))
  go_ret
  refine ⟨_, rfl, ?_, ?_⟩
  · exact HO.out
  · exact HB.out
set_option maxRecDepth 100000 in
set_option maxHeartbeats 2000000 in
theorem rr_2 (w : World) : Calls Tryz.prog 99 #[.int .i64 2] w (RsPost 2 w) := by
  obtain ⟨W, hW⟩ : ∃ W, Hid (((((((w.alloc (.cells #[.func (.func 117) #[] #[], .func (.func 118) #[] #[]] 147)).alloc (.cells #[.func (.func 117) #[] #[]] 147)).alloc (.cells #[.func (.func 118) #[] #[]] 147)).alloc (.cells #[.func (.func 118) #[] #[], .func (.func 119) #[] #[]] 147)).alloc (.cells #[.func (.func 120) #[] #[]] 147)).alloc (.cells #[.slice none 0 0, .slice (some ⟨w.heap.size, 0, none⟩) 2 2, .slice (some ⟨w.heap.size + 1, 0, none⟩) 1 1, .slice none 0 0, .slice none 0 0, .slice none 0 0, .slice none 0 0, .slice none 0 0, .slice none 0 0, .slice (some ⟨w.heap.size + 1 + 1, 0, none⟩) 1 1, .slice (some ⟨w.heap.size + 1 + 1 + 1, 0, none⟩) 2 2, .slice none 0 0, .slice (some ⟨w.heap.size + 1 + 1 + 1 + 1, 0, none⟩) 1 1] 170)) = W) := ⟨_, rfl⟩
  have hz : W.heap.size = w.heap.size + 1 + 1 + 1 + 1 + 1 + 1 := by rw [← hW.out]; simp only [size_alloc]
  have bW : Below w.heap.size w W := by
    rw [← hW.out]
    repeat' refine Below.alloc ?_ (by first | exact Nat.le_refl _ | (simp only [size_alloc]; omega)) _
    exact Below.refl _ _
  have o0 : Own W w.heap.size (.slice (some ⟨w.heap.size + 1, 0, none⟩) 1 1) (([.size] : List Fr).map rv) := by
    have r : W.heap[w.heap.size + 1]? = some (.cells (([.size] : List Fr).map rv).toArray 147 (0, 0)) := by
      rw [← hW.out]
      rw [alloc_lt (by simp only [size_alloc]; omega)]
      rw [alloc_lt (by simp only [size_alloc]; omega)]
      rw [alloc_lt (by simp only [size_alloc]; omega)]
      rw [alloc_lt (by simp only [size_alloc]; omega)]
      exact heap_alloc_at _ _ _ (by first | rfl | simp only [size_alloc])
    exact own_of_row (base := w.heap.size) r (by omega) (by decide)
  obtain ⟨v1, w1, hc1, o1, b1⟩ := app_rv W w.heap.size _ [.size] .root o0 (by decide) (by omega)
  obtain ⟨a1, c1, e1⟩ := o1.shape
  subst e1
  have HO := hid o1
  have HB := hid (bW.trans b1)
  rw [hz, ← hW.out] at hc1
  simp only [rv, rnum, List.length_map, List.length_cons, List.length_nil, List.length_append, Nat.zero_add, Nat.reduceAdd] at hc1 HO
  clear o0 o1 b1 bW hz
  go_enter Tryz.func99, Tryz.ntmps99
  go_wp2_with (first
    | (at_builtin; go_must (refine Lib.wpList_append_run _ rfl _ _ 145 145 rfl _ _ rfl rfl _ _ hc1 ?_)))
  go_ret
  refine ⟨_, rfl, ?_, ?_⟩
  · exact HO.out
  · exact HB.out
set_option maxRecDepth 100000 in
set_option maxHeartbeats 2000000 in
theorem rr_3 (w : World) : Calls Tryz.prog 99 #[.int .i64 3] w (RsPost 3 w) := by
  obtain ⟨W, hW⟩ : ∃ W, Hid (((((((w.alloc (.cells #[.func (.func 117) #[] #[], .func (.func 118) #[] #[]] 147)).alloc (.cells #[.func (.func 117) #[] #[]] 147)).alloc (.cells #[.func (.func 118) #[] #[]] 147)).alloc (.cells #[.func (.func 118) #[] #[], .func (.func 119) #[] #[]] 147)).alloc (.cells #[.func (.func 120) #[] #[]] 147)).alloc (.cells #[.slice none 0 0, .slice (some ⟨w.heap.size, 0, none⟩) 2 2, .slice (some ⟨w.heap.size + 1, 0, none⟩) 1 1, .slice none 0 0, .slice none 0 0, .slice none 0 0, .slice none 0 0, .slice none 0 0, .slice none 0 0, .slice (some ⟨w.heap.size + 1 + 1, 0, none⟩) 1 1, .slice (some ⟨w.heap.size + 1 + 1 + 1, 0, none⟩) 2 2, .slice none 0 0, .slice (some ⟨w.heap.size + 1 + 1 + 1 + 1, 0, none⟩) 1 1] 170)) = W) := ⟨_, rfl⟩
  have hz : W.heap.size = w.heap.size + 1 + 1 + 1 + 1 + 1 + 1 := by rw [← hW.out]; simp only [size_alloc]
  have bW : Below w.heap.size w W := by
    rw [← hW.out]
    repeat' refine Below.alloc ?_ (by first | exact Nat.le_refl _ | (simp only [size_alloc]; omega)) _
    exact Below.refl _ _
  have o0 : Own W w.heap.size (.slice none 0 0) (([] : List Fr).map rv) := Own.nil _ _
  obtain ⟨v1, w1, hc1, o1, b1⟩ := app_rv W w.heap.size _ [] .root o0 (by decide) (by omega)
  obtain ⟨a1, c1, e1⟩ := o1.shape
  subst e1
  have HO := hid o1
  have HB := hid (bW.trans b1)
  rw [hz, ← hW.out] at hc1
  simp only [rv, rnum, List.length_map, List.length_cons, List.length_nil, List.length_append, Nat.zero_add] at hc1 HO
  clear o0 o1 b1 bW hz
  go_enter Tryz.func99, Tryz.ntmps99
  go_wp2_with (first
    | (at_builtin; go_must (refine Lib.wpList_append_run _ rfl _ _ 145 145 rfl _ _ rfl rfl _ _ hc1 ?_)))
  go_ret
  refine ⟨_, rfl, ?_, ?_⟩
  · exact HO.out
  · exact HB.out
set_option maxRecDepth 100000 in
set_option maxHeartbeats 2000000 in
theorem rr_4 (w : World) : Calls Tryz.prog 99 #[.int .i64 4] w (RsPost 4 w) := by
  obtain ⟨W, hW⟩ : ∃ W, Hid (((((((w.alloc (.cells #[.func (.func 117) #[] #[], .func (.func 118) #[] #[]] 147)).alloc (.cells #[.func (.func 117) #[] #[]] 147)).alloc (.cells #[.func (.func 118) #[] #[]] 147)).alloc (.cells #[.func (.func 118) #[] #[], .func (.func 119) #[] #[]] 147)).alloc (.cells #[.func (.func 120) #[] #[]] 147)).alloc (.cells #[.slice none 0 0, .slice (some ⟨w.heap.size, 0, none⟩) 2 2, .slice (some ⟨w.heap.size + 1, 0, none⟩) 1 1, .slice none 0 0, .slice none 0 0, .slice none 0 0, .slice none 0 0, .slice none 0 0, .slice none 0 0, .slice (some ⟨w.heap.size + 1 + 1, 0, none⟩) 1 1, .slice (some ⟨w.heap.size + 1 + 1 + 1, 0, none⟩) 2 2, .slice none 0 0, .slice (some ⟨w.heap.size + 1 + 1 + 1 + 1, 0, none⟩) 1 1] 170)) = W) := ⟨_, rfl⟩
  have hz : W.heap.size = w.heap.size + 1 + 1 + 1 + 1 + 1 + 1 := by rw [← hW.out]; simp only [size_alloc]
  have bW : Below w.heap.size w W := by
    rw [← hW.out]
    repeat' refine Below.alloc ?_ (by first | exact Nat.le_refl _ | (simp only [size_alloc]; omega)) _
    exact Below.refl _ _
  have o0 : Own W w.heap.size (.slice none 0 0) (([] : List Fr).map rv) := Own.nil _ _
  obtain ⟨v1, w1, hc1, o1, b1⟩ := app_rv W w.heap.size _ [] .hashes o0 (by decide) (by omega)
  obtain ⟨a1, c1, e1⟩ := o1.shape
  subst e1
  have HO := hid o1
  have HB := hid (bW.trans b1)
  rw [hz, ← hW.out] at hc1
  simp only [rv, rnum, List.length_map, List.length_cons, List.length_nil, List.length_append, Nat.zero_add] at hc1 HO
  clear o0 o1 b1 bW hz
  go_enter Tryz.func99, Tryz.ntmps99
  go_wp2_with (first
    | (at_builtin; go_must (refine Lib.wpList_append_run _ rfl _ _ 145 145 rfl _ _ rfl rfl _ _ hc1 ?_)))
  go_ret
  refine ⟨_, rfl, ?_, ?_⟩
  · exact HO.out
  · exact HB.out
set_option maxRecDepth 100000 in
set_option maxHeartbeats 2000000 in
theorem rr_5 (w : World) : Calls Tryz.prog 99 #[.int .i64 5] w (RsPost 5 w) := by
  obtain ⟨W, hW⟩ : ∃ W, Hid (((((((w.alloc (.cells #[.func (.func 117) #[] #[], .func (.func 118) #[] #[]] 147)).alloc (.cells #[.func (.func 117) #[] #[]] 147)).alloc (.cells #[.func (.func 118) #[] #[]] 147)).alloc (.cells #[.func (.func 118) #[] #[], .func (.func 119) #[] #[]] 147)).alloc (.cells #[.func (.func 120) #[] #[]] 147)).alloc (.cells #[.slice none 0 0, .slice (some ⟨w.heap.size, 0, none⟩) 2 2, .slice (some ⟨w.heap.size + 1, 0, none⟩) 1 1, .slice none 0 0, .slice none 0 0, .slice none 0 0, .slice none 0 0, .slice none 0 0, .slice none 0 0, .slice (some ⟨w.heap.size + 1 + 1, 0, none⟩) 1 1, .slice (some ⟨w.heap.size + 1 + 1 + 1, 0, none⟩) 2 2, .slice none 0 0, .slice (some ⟨w.heap.size + 1 + 1 + 1 + 1, 0, none⟩) 1 1] 170)) = W) := ⟨_, rfl⟩
  have hz : W.heap.size = w.heap.size + 1 + 1 + 1 + 1 + 1 + 1 := by rw [← hW.out]; simp only [size_alloc]
  have bW : Below w.heap.size w W := by
    rw [← hW.out]
    repeat' refine Below.alloc ?_ (by first | exact Nat.le_refl _ | (simp only [size_alloc]; omega)) _
    exact Below.refl _ _
  have o0 : Own W w.heap.size (.slice none 0 0) (([] : List Fr).map rv) := Own.nil _ _
  obtain ⟨v1, w1, hc1, o1, b1⟩ := app_rv W w.heap.size _ [] .hashes o0 (by decide) (by omega)
  obtain ⟨a1, c1, e1⟩ := o1.shape
  subst e1
  have HO := hid o1
  have HB := hid (bW.trans b1)
  rw [hz, ← hW.out] at hc1
  simp only [rv, rnum, List.length_map, List.length_cons, List.length_nil, List.length_append, Nat.zero_add] at hc1 HO
  clear o0 o1 b1 bW hz
  go_enter Tryz.func99, Tryz.ntmps99
  go_wp2_with (first
    | (at_builtin; go_must (refine Lib.wpList_append_run _ rfl _ _ 145 145 rfl _ _ rfl rfl _ _ hc1 ?_)))
  go_ret
  refine ⟨_, rfl, ?_, ?_⟩
  · exact HO.out
  · exact HB.out
set_option maxRecDepth 100000 in
set_option maxHeartbeats 2000000 in
theorem rr_6 (w : World) : Calls Tryz.prog 99 #[.int .i64 6] w (RsPost 6 w) := by
  obtain ⟨W, hW⟩ : ∃ W, Hid (((((((w.alloc (.cells #[.func (.func 117) #[] #[], .func (.func 118) #[] #[]] 147)).alloc (.cells #[.func (.func 117) #[] #[]] 147)).alloc (.cells #[.func (.func 118) #[] #[]] 147)).alloc (.cells #[.func (.func 118) #[] #[], .func (.func 119) #[] #[]] 147)).alloc (.cells #[.func (.func 120) #[] #[]] 147)).alloc (.cells #[.slice none 0 0, .slice (some ⟨w.heap.size, 0, none⟩) 2 2, .slice (some ⟨w.heap.size + 1, 0, none⟩) 1 1, .slice none 0 0, .slice none 0 0, .slice none 0 0, .slice none 0 0, .slice none 0 0, .slice none 0 0, .slice (some ⟨w.heap.size + 1 + 1, 0, none⟩) 1 1, .slice (some ⟨w.heap.size + 1 + 1 + 1, 0, none⟩) 2 2, .slice none 0 0, .slice (some ⟨w.heap.size + 1 + 1 + 1 + 1, 0, none⟩) 1 1] 170)) = W) := ⟨_, rfl⟩
  have hz : W.heap.size = w.heap.size + 1 + 1 + 1 + 1 + 1 + 1 := by rw [← hW.out]; simp only [size_alloc]
  have bW : Below w.heap.size w W := by
    rw [← hW.out]
    repeat' refine Below.alloc ?_ (by first | exact Nat.le_refl _ | (simp only [size_alloc]; omega)) _
    exact Below.refl _ _
  have o0 : Own W w.heap.size (.slice none 0 0) (([] : List Fr).map rv) := Own.nil _ _
  obtain ⟨v1, w1, hc1, o1, b1⟩ := app_rv W w.heap.size _ [] .hashes o0 (by decide) (by omega)
  obtain ⟨a1, c1, e1⟩ := o1.shape
  subst e1
  have HO := hid o1
  have HB := hid (bW.trans b1)
  rw [hz, ← hW.out] at hc1
  simp only [rv, rnum, List.length_map, List.length_cons, List.length_nil, List.length_append, Nat.zero_add] at hc1 HO
  clear o0 o1 b1 bW hz
  go_enter Tryz.func99, Tryz.ntmps99
  go_wp2_with (first
    | (at_builtin; go_must (refine Lib.wpList_append_run _ rfl _ _ 145 145 rfl _ _ rfl rfl _ _ hc1 ?_)))
  go_ret
  refine ⟨_, rfl, ?_, ?_⟩
  · exact HO.out
  · exact HB.out
set_option maxRecDepth 100000 in
set_option maxHeartbeats 2000000 in
theorem rr_7 (w : World) : Calls Tryz.prog 99 #[.int .i64 7] w (RsPost 7 w) := by
  obtain ⟨W, hW⟩ : ∃ W, Hid (((((((w.alloc (.cells #[.func (.func 117) #[] #[], .func (.func 118) #[] #[]] 147)).alloc (.cells #[.func (.func 117) #[] #[]] 147)).alloc (.cells #[.func (.func 118) #[] #[]] 147)).alloc (.cells #[.func (.func 118) #[] #[], .func (.func 119) #[] #[]] 147)).alloc (.cells #[.func (.func 120) #[] #[]] 147)).alloc (.cells #[.slice none 0 0, .slice (some ⟨w.heap.size, 0, none⟩) 2 2, .slice (some ⟨w.heap.size + 1, 0, none⟩) 1 1, .slice none 0 0, .slice none 0 0, .slice none 0 0, .slice none 0 0, .slice none 0 0, .slice none 0 0, .slice (some ⟨w.heap.size + 1 + 1, 0, none⟩) 1 1, .slice (some ⟨w.heap.size + 1 + 1 + 1, 0, none⟩) 2 2, .slice none 0 0, .slice (some ⟨w.heap.size + 1 + 1 + 1 + 1, 0, none⟩) 1 1] 170)) = W) := ⟨_, rfl⟩
  have hz : W.heap.size = w.heap.size + 1 + 1 + 1 + 1 + 1 + 1 := by rw [← hW.out]; simp only [size_alloc]
  have bW : Below w.heap.size w W := by
    rw [← hW.out]
    repeat' refine Below.alloc ?_ (by first | exact Nat.le_refl _ | (simp only [size_alloc]; omega)) _
    exact Below.refl _ _
  have o0 : Own W w.heap.size (.slice none 0 0) (([] : List Fr).map rv) := Own.nil _ _
  obtain ⟨v1, w1, hc1, o1, b1⟩ := app_rv W w.heap.size _ [] .hashes o0 (by decide) (by omega)
  obtain ⟨a1, c1, e1⟩ := o1.shape
  subst e1
  have HO := hid o1
  have HB := hid (bW.trans b1)
  rw [hz, ← hW.out] at hc1
  simp only [rv, rnum, List.length_map, List.length_cons, List.length_nil, List.length_append, Nat.zero_add] at hc1 HO
  clear o0 o1 b1 bW hz
  go_enter Tryz.func99, Tryz.ntmps99
  go_wp2_with (first
    | (at_builtin; go_must (refine Lib.wpList_append_run _ rfl _ _ 145 145 rfl _ _ rfl rfl _ _ hc1 ?_)))
  go_ret
  refine ⟨_, rfl, ?_, ?_⟩
  · exact HO.out
  · exact HB.out
set_option maxRecDepth 100000 in
set_option maxHeartbeats 2000000 in
theorem rr_8 (w : World) : Calls Tryz.prog 99 #[.int .i64 8] w (RsPost 8 w) := by
  obtain ⟨W, hW⟩ : ∃ W, Hid (((((((w.alloc (.cells #[.func (.func 117) #[] #[], .func (.func 118) #[] #[]] 147)).alloc (.cells #[.func (.func 117) #[] #[]] 147)).alloc (.cells #[.func (.func 118) #[] #[]] 147)).alloc (.cells #[.func (.func 118) #[] #[], .func (.func 119) #[] #[]] 147)).alloc (.cells #[.func (.func 120) #[] #[]] 147)).alloc (.cells #[.slice none 0 0, .slice (some ⟨w.heap.size, 0, none⟩) 2 2, .slice (some ⟨w.heap.size + 1, 0, none⟩) 1 1, .slice none 0 0, .slice none 0 0, .slice none 0 0, .slice none 0 0, .slice none 0 0, .slice none 0 0, .slice (some ⟨w.heap.size + 1 + 1, 0, none⟩) 1 1, .slice (some ⟨w.heap.size + 1 + 1 + 1, 0, none⟩) 2 2, .slice none 0 0, .slice (some ⟨w.heap.size + 1 + 1 + 1 + 1, 0, none⟩) 1 1] 170)) = W) := ⟨_, rfl⟩
  have hz : W.heap.size = w.heap.size + 1 + 1 + 1 + 1 + 1 + 1 := by rw [← hW.out]; simp only [size_alloc]
  have bW : Below w.heap.size w W := by
    rw [← hW.out]
    repeat' refine Below.alloc ?_ (by first | exact Nat.le_refl _ | (simp only [size_alloc]; omega)) _
    exact Below.refl _ _
  have o0 : Own W w.heap.size (.slice none 0 0) (([] : List Fr).map rv) := Own.nil _ _
  obtain ⟨v1, w1, hc1, o1, b1⟩ := app_rv W w.heap.size _ [] .entries o0 (by decide) (by omega)
  obtain ⟨a1, c1, e1⟩ := o1.shape
  subst e1
  obtain ⟨v2, w2, hc2, o2, b2⟩ := app_rv w1 w.heap.size _ [.entries] .hashes o1 (by decide) (Nat.le_trans (by omega) b1.size)
  obtain ⟨a2, c2, e2⟩ := o2.shape
  subst e2
  have HO := hid o2
  have HB := hid ((bW.trans b1).trans b2)
  rw [hz, ← hW.out] at hc1
  simp only [rv, rnum, List.length_map, List.length_cons, List.length_nil, List.length_append, Nat.zero_add, Nat.reduceAdd] at hc1 hc2 HO
  clear o0 o1 b1 o2 b2 bW hz
  go_enter Tryz.func99, Tryz.ntmps99
  go_wp2_with (at_builtin; first | (refine Lib.wpList_append_run _ rfl _ _ 145 145 rfl _ _ rfl rfl _ _ hc1 ?_) | (refine Lib.wpList_append_run _ rfl _ _ 145 145 rfl _ _ rfl rfl _ _ hc2 ?_))
  go_ret
  refine ⟨_, rfl, ?_, ?_⟩
  · exact HO.out
  · exact HB.out
set_option maxRecDepth 100000 in
set_option maxHeartbeats 2000000 in
theorem rr_9 (w : World) : Calls Tryz.prog 99 #[.int .i64 9] w (RsPost 9 w) := by
  obtain ⟨W, hW⟩ : ∃ W, Hid (((((((w.alloc (.cells #[.func (.func 117) #[] #[], .func (.func 118) #[] #[]] 147)).alloc (.cells #[.func (.func 117) #[] #[]] 147)).alloc (.cells #[.func (.func 118) #[] #[]] 147)).alloc (.cells #[.func (.func 118) #[] #[], .func (.func 119) #[] #[]] 147)).alloc (.cells #[.func (.func 120) #[] #[]] 147)).alloc (.cells #[.slice none 0 0, .slice (some ⟨w.heap.size, 0, none⟩) 2 2, .slice (some ⟨w.heap.size + 1, 0, none⟩) 1 1, .slice none 0 0, .slice none 0 0, .slice none 0 0, .slice none 0 0, .slice none 0 0, .slice none 0 0, .slice (some ⟨w.heap.size + 1 + 1, 0, none⟩) 1 1, .slice (some ⟨w.heap.size + 1 + 1 + 1, 0, none⟩) 2 2, .slice none 0 0, .slice (some ⟨w.heap.size + 1 + 1 + 1 + 1, 0, none⟩) 1 1] 170)) = W) := ⟨_, rfl⟩
  have hz : W.heap.size = w.heap.size + 1 + 1 + 1 + 1 + 1 + 1 := by rw [← hW.out]; simp only [size_alloc]
  have bW : Below w.heap.size w W := by
    rw [← hW.out]
    repeat' refine Below.alloc ?_ (by first | exact Nat.le_refl _ | (simp only [size_alloc]; omega)) _
    exact Below.refl _ _
  have o0 : Own W w.heap.size (.slice (some ⟨w.heap.size + 1 + 1, 0, none⟩) 1 1) (([.a] : List Fr).map rv) := by
    have r : W.heap[w.heap.size + 1 + 1]? = some (.cells (([.a] : List Fr).map rv).toArray 147 (0, 0)) := by
      rw [← hW.out]
      rw [alloc_lt (by simp only [size_alloc]; omega)]
      rw [alloc_lt (by simp only [size_alloc]; omega)]
      rw [alloc_lt (by simp only [size_alloc]; omega)]
      exact heap_alloc_at _ _ _ (by first | rfl | simp only [size_alloc])
    exact own_of_row (base := w.heap.size) r (by omega) (by decide)
  have HO := hid o0
  have HB := hid bW
  clear o0 bW hz
  go_enter Tryz.func99, Tryz.ntmps99
  go_wp2
  go_ret
  refine ⟨_, rfl, ?_, ?_⟩
  · rw [hW.out]; exact HO.out
  · rw [hW.out]; exact HB.out
set_option maxRecDepth 100000 in
set_option maxHeartbeats 2000000 in
theorem rr_10 (w : World) : Calls Tryz.prog 99 #[.int .i64 10] w (RsPost 10 w) := by
  obtain ⟨W, hW⟩ : ∃ W, Hid (((((((w.alloc (.cells #[.func (.func 117) #[] #[], .func (.func 118) #[] #[]] 147)).alloc (.cells #[.func (.func 117) #[] #[]] 147)).alloc (.cells #[.func (.func 118) #[] #[]] 147)).alloc (.cells #[.func (.func 118) #[] #[], .func (.func 119) #[] #[]] 147)).alloc (.cells #[.func (.func 120) #[] #[]] 147)).alloc (.cells #[.slice none 0 0, .slice (some ⟨w.heap.size, 0, none⟩) 2 2, .slice (some ⟨w.heap.size + 1, 0, none⟩) 1 1, .slice none 0 0, .slice none 0 0, .slice none 0 0, .slice none 0 0, .slice none 0 0, .slice none 0 0, .slice (some ⟨w.heap.size + 1 + 1, 0, none⟩) 1 1, .slice (some ⟨w.heap.size + 1 + 1 + 1, 0, none⟩) 2 2, .slice none 0 0, .slice (some ⟨w.heap.size + 1 + 1 + 1 + 1, 0, none⟩) 1 1] 170)) = W) := ⟨_, rfl⟩
  have hz : W.heap.size = w.heap.size + 1 + 1 + 1 + 1 + 1 + 1 := by rw [← hW.out]; simp only [size_alloc]
  have bW : Below w.heap.size w W := by
    rw [← hW.out]
    repeat' refine Below.alloc ?_ (by first | exact Nat.le_refl _ | (simp only [size_alloc]; omega)) _
    exact Below.refl _ _
  have o0 : Own W w.heap.size (.slice (some ⟨w.heap.size + 1 + 1 + 1, 0, none⟩) 2 2) (([.a, .over] : List Fr).map rv) := by
    have r : W.heap[w.heap.size + 1 + 1 + 1]? = some (.cells (([.a, .over] : List Fr).map rv).toArray 147 (0, 0)) := by
      rw [← hW.out]
      rw [alloc_lt (by simp only [size_alloc]; omega)]
      rw [alloc_lt (by simp only [size_alloc]; omega)]
      exact heap_alloc_at _ _ _ (by first | rfl | simp only [size_alloc])
    exact own_of_row (base := w.heap.size) r (by omega) (by decide)
  obtain ⟨v1, w1, hc1, o1, b1⟩ := app_rv W w.heap.size _ [.a, .over] .entries o0 (by decide) (by omega)
  obtain ⟨a1, c1, e1⟩ := o1.shape
  subst e1
  obtain ⟨v2, w2, hc2, o2, b2⟩ := app_rv w1 w.heap.size _ [.a, .over, .entries] .hashes o1 (by decide) (Nat.le_trans (by omega) b1.size)
  obtain ⟨a2, c2, e2⟩ := o2.shape
  subst e2
  have HO := hid o2
  have HB := hid ((bW.trans b1).trans b2)
  rw [hz, ← hW.out] at hc1
  simp only [rv, rnum, List.length_map, List.length_cons, List.length_nil, List.length_append, Nat.zero_add, Nat.reduceAdd] at hc1 hc2 HO
  clear o0 o1 b1 o2 b2 bW hz
  go_enter Tryz.func99, Tryz.ntmps99
  go_wp2_with (at_builtin; first | (refine Lib.wpList_append_run _ rfl _ _ 145 145 rfl _ _ rfl rfl _ _ hc1 ?_) | (refine Lib.wpList_append_run _ rfl _ _ 145 145 rfl _ _ rfl rfl _ _ hc2 ?_))
  go_ret
  refine ⟨_, rfl, ?_, ?_⟩
  · exact HO.out
  · exact HB.out
set_option maxRecDepth 100000 in
set_option maxHeartbeats 2000000 in
theorem rr_11 (w : World) : Calls Tryz.prog 99 #[.int .i64 11] w (RsPost 11 w) := by
  obtain ⟨W, hW⟩ : ∃ W, Hid (((((((w.alloc (.cells #[.func (.func 117) #[] #[], .func (.func 118) #[] #[]] 147)).alloc (.cells #[.func (.func 117) #[] #[]] 147)).alloc (.cells #[.func (.func 118) #[] #[]] 147)).alloc (.cells #[.func (.func 118) #[] #[], .func (.func 119) #[] #[]] 147)).alloc (.cells #[.func (.func 120) #[] #[]] 147)).alloc (.cells #[.slice none 0 0, .slice (some ⟨w.heap.size, 0, none⟩) 2 2, .slice (some ⟨w.heap.size + 1, 0, none⟩) 1 1, .slice none 0 0, .slice none 0 0, .slice none 0 0, .slice none 0 0, .slice none 0 0, .slice none 0 0, .slice (some ⟨w.heap.size + 1 + 1, 0, none⟩) 1 1, .slice (some ⟨w.heap.size + 1 + 1 + 1, 0, none⟩) 2 2, .slice none 0 0, .slice (some ⟨w.heap.size + 1 + 1 + 1 + 1, 0, none⟩) 1 1] 170)) = W) := ⟨_, rfl⟩
  have hz : W.heap.size = w.heap.size + 1 + 1 + 1 + 1 + 1 + 1 := by rw [← hW.out]; simp only [size_alloc]
  have bW : Below w.heap.size w W := by
    rw [← hW.out]
    repeat' refine Below.alloc ?_ (by first | exact Nat.le_refl _ | (simp only [size_alloc]; omega)) _
    exact Below.refl _ _
  have o0 : Own W w.heap.size (.slice none 0 0) (([] : List Fr).map rv) := Own.nil _ _
  have HO := hid o0
  have HB := hid bW
  clear o0 bW hz
  go_enter Tryz.func99, Tryz.ntmps99
  go_wp2
  go_ret
  refine ⟨_, rfl, ?_, ?_⟩
  · rw [hW.out]; exact HO.out
  · rw [hW.out]; exact HB.out
set_option maxRecDepth 100000 in
set_option maxHeartbeats 2000000 in
theorem rr_12 (w : World) : Calls Tryz.prog 99 #[.int .i64 12] w (RsPost 12 w) := by
  obtain ⟨W, hW⟩ : ∃ W, Hid (((((((w.alloc (.cells #[.func (.func 117) #[] #[], .func (.func 118) #[] #[]] 147)).alloc (.cells #[.func (.func 117) #[] #[]] 147)).alloc (.cells #[.func (.func 118) #[] #[]] 147)).alloc (.cells #[.func (.func 118) #[] #[], .func (.func 119) #[] #[]] 147)).alloc (.cells #[.func (.func 120) #[] #[]] 147)).alloc (.cells #[.slice none 0 0, .slice (some ⟨w.heap.size, 0, none⟩) 2 2, .slice (some ⟨w.heap.size + 1, 0, none⟩) 1 1, .slice none 0 0, .slice none 0 0, .slice none 0 0, .slice none 0 0, .slice none 0 0, .slice none 0 0, .slice (some ⟨w.heap.size + 1 + 1, 0, none⟩) 1 1, .slice (some ⟨w.heap.size + 1 + 1 + 1, 0, none⟩) 2 2, .slice none 0 0, .slice (some ⟨w.heap.size + 1 + 1 + 1 + 1, 0, none⟩) 1 1] 170)) = W) := ⟨_, rfl⟩
  have hz : W.heap.size = w.heap.size + 1 + 1 + 1 + 1 + 1 + 1 := by rw [← hW.out]; simp only [size_alloc]
  have bW : Below w.heap.size w W := by
    rw [← hW.out]
    repeat' refine Below.alloc ?_ (by first | exact Nat.le_refl _ | (simp only [size_alloc]; omega)) _
    exact Below.refl _ _
  have o0 : Own W w.heap.size (.slice (some ⟨w.heap.size + 1 + 1 + 1 + 1, 0, none⟩) 1 1) (([.parts] : List Fr).map rv) := by
    have r : W.heap[w.heap.size + 1 + 1 + 1 + 1]? = some (.cells (([.parts] : List Fr).map rv).toArray 147 (0, 0)) := by
      rw [← hW.out]
      rw [alloc_lt (by simp only [size_alloc]; omega)]
      exact heap_alloc_at _ _ _ (by first | rfl | simp only [size_alloc])
    exact own_of_row (base := w.heap.size) r (by omega) (by decide)
  have HO := hid o0
  have HB := hid bW
  clear o0 bW hz
  go_enter Tryz.func99, Tryz.ntmps99
  go_wp2
  go_ret
  refine ⟨_, rfl, ?_, ?_⟩
  · rw [hW.out]; exact HO.out
  · rw [hW.out]; exact HB.out
theorem replyFields_any (k : Nat) (h1 : 1 ≤ k) (h2 : k ≤ 12) (w : World) : Calls Tryz.prog 99 #[.int .i64 (k : Int)] w (RsPost k w) := by
  match k, h1, h2 with
  | 1, _, _ => exact rr_1 w
  | 2, _, _ => exact rr_2 w
  | 3, _, _ => exact rr_3 w
  | 4, _, _ => exact rr_4 w
  | 5, _, _ => exact rr_5 w
  | 6, _, _ => exact rr_6 w
  | 7, _, _ => exact rr_7 w
  | 8, _, _ => exact rr_8 w
  | 9, _, _ => exact rr_9 w
  | 10, _, _ => exact rr_10 w
  | 11, _, _ => exact rr_11 w
  | 12, _, _ => exact rr_12 w
end Msg
end Go.Proofs.YtmhgdcfmfcjagaaGreatDoor
