import Derived.Test.YthoekndjeclimaaGreatDoorCO29
import Derived.Test.YthoekndjeclimaaGreatDoorCEP6
namespace Go.Proofs.YthoekndjeclimaaGreatDoor
open Go.RowKit
/-- the slice v of n elements of m cells each owns the cells cs in a row of its own -/
def OwnM (m : Nat) (w : World) (v : Value) (n : Nat) (cs : List Value) : Prop :=
  (v = .slice none 0 0 ∧ n = 0 ∧ cs = []) ∨
  ∃ g cap, v = .slice (some ⟨g, 0, none⟩) n cap ∧ n ≤ cap ∧ cap ≤ maxLen ∧ cs.length = n * m ∧ w.rangeAt g 0 cs ∧ w.there g 0 (cap * m) ∧ g < w.heap.size
theorem OwnM.nil (m : Nat) (w : World) : OwnM m w (.slice none 0 0) 0 [] := .inl ⟨rfl, rfl, rfl⟩
theorem OwnM.len {m : Nat} {w : World} {v : Value} {n : Nat} {cs : List Value} (h : OwnM m w v n cs) : cs.length = n * m := by
  rcases h with ⟨_, rfl, rfl⟩ | ⟨_, _, _, _, _, h, _⟩
  · simp
  · exact h
theorem OwnM.lt {m : Nat} {w : World} {v : Value} {n : Nat} {cs : List Value} (h : OwnM m w v n cs) : ∀ k, v.ownBlock = some k → k < w.heap.size := by
  rcases h with ⟨rfl, _⟩ | ⟨g, _, rfl, _, _, _, _, _, h⟩
  · intro k hk; cases hk
  · intro k hk; cases hk; exact h
theorem OwnM.kept {m : Nat} {w w' : World} {v : Value} {n : Nat} {cs : List Value} (h : OwnM m w v n cs) (hs : w.heap.size ≤ w'.heap.size) (hb : ∀ g, v.ownBlock = some g → w'.heap[g]? = w.heap[g]?) : OwnM m w' v n cs := by
  rcases h with h | ⟨g, cap, rfl, h2, h3, h0, h4, h5, h6⟩
  · exact .inl h
  · exact .inr ⟨g, cap, rfl, h2, h3, h0, rangeAt_heap h4 (hb g rfl), there_heap h5 (hb g rfl), by omega⟩
theorem OwnM.below {m : Nat} {w w' : World} {v : Value} {n : Nat} {cs : List Value} (h : OwnM m w v n cs) (hb : Below w.heap.size w w') : OwnM m w' v n cs :=
  h.kept hb.size fun g hg => hb.block g (h.lt g hg)
theorem OwnM.drew {m : Nat} {w : World} {v : Value} {n : Nat} {cs : List Value} (h : OwnM m w v n cs) : OwnM m w.drew v n cs := h
theorem OwnM.drewN {m : Nat} {w : World} {v : Value} {n : Nat} {cs : List Value} (h : OwnM m w v n cs) (k : Nat) : OwnM m (w.drewN k) v n cs := h
theorem OwnM.alloc {m : Nat} {w : World} {v : Value} {n : Nat} {cs : List Value} (h : OwnM m w v n cs) (o : Obj) : OwnM m (w.alloc o) v n cs := h.below ((Below.refl _ _).alloc (Nat.le_refl _) _)
theorem OwnM.keep {m : Nat} {S : Nat → Prop} {w w' : World} {v : Value} {n : Nat} {cs : List Value} (h : OwnM m w v n cs) (hb : Keep S w w') (hne : ∀ k, v.ownBlock = some k → ¬ S k) : OwnM m w' v n cs :=
  h.kept hb.size fun g hg => hb.block g (h.lt g hg) (hne g hg)
theorem OwnM.shape {m : Nat} {w : World} {v : Value} {n : Nat} {cs : List Value} (h : OwnM m w v n cs) : ∃ a cap, v = .slice a n cap ∧ n ≤ cap ∧ cap ≤ 9223372036854775807 := by
  rcases h with ⟨rfl, rfl, _⟩ | ⟨g, cap, rfl, h2, h3, _⟩
  · exact ⟨none, 0, rfl, Nat.le_refl _, by omega⟩
  · exact ⟨_, cap, rfl, h2, by simp only [maxLen] at h3; omega⟩
/-- a cell of it -/
theorem OwnM.cell {m : Nat} {w : World} {v : Value} {n : Nat} {cs : List Value} (h : OwnM m w v n cs) {j : Nat} {u : Value} (hu : cs[j]? = some u) : ∃ g cap, v = .slice (some ⟨g, 0, none⟩) n cap ∧ w.cell? ⟨g, j, none⟩ = some u ∧ g < w.heap.size := by
  rcases h with ⟨_, _, rfl⟩ | ⟨g, cap, rfl, _, _, _, h4, _, h6⟩
  · simp at hu
  · refine ⟨g, cap, rfl, ?_, h6⟩
    have := h4 j u hu
    rwa [Nat.zero_add] at this
/-- a beginning of it -/
theorem OwnM.cut {m : Nat} {w : World} {g n c : Nat} {cs : List Value} (h : OwnM m w (.slice (some ⟨g, 0, none⟩) n c) n cs) {k : Nat} (hk : k ≤ n) : OwnM m w (.slice (some ⟨g, 0, none⟩) k c) k (cs.take (k * m)) := by
  rcases h with ⟨h, _⟩ | ⟨g', cap', h, h2, h3, h0, h4, h5, h6⟩
  · cases h
  · injection h with e1 e2 e3
    injection e1 with e1
    injection e1 with e1
    subst e1 e3
    refine .inr ⟨g, c, rfl, by omega, h3, ?_, fun j v hv => h4 j v ?_, h5, h6⟩
    · rw [List.length_take, h0]
      exact Nat.min_eq_left (Nat.mul_le_mul_right _ hk)
    · rw [List.getElem?_take] at hv
      split at hv
      · exact hv
      · cases hv
/-- APPEND onto it, from whatever source -/
theorem run_append_M {P : Program} {m : Nat} (w : World) (t tx ty e : TypeId) (i : TypeInfo) (z : Value) (ht : P.underlying t = some (.slice e)) (hi : P.info? e = some i) (hz : i.zero = some z)
    (hsize : i.size = m) (hzs : z.cells.size = m) (v : Value) (n0 : Nat) (cs : List Value) (hown : OwnM m w v n0 cs) (x : Value) (n : Nat) (news : List Value) (hs : Src P m tx x n news w)
    (hbytes : (n0 + n) * i.bytes ≤ 140737488355328) (h63 : n0 + n ≤ maxLen) (hpos : v = .slice none 0 0 → 0 < n) :
    ∃ v' w', (Builtin.append_ #[t, tx] ty #[v, x]).run P w = .ok v' w' ∧ OwnM m w' v' (n0 + n) (cs ++ news) ∧ Grow w w' v v' := by
  have hn : news.length = n * m := hs.newsLen
  have hcl := hown.len
  have h63' : n0 + n ≤ 9223372036854775807 := by simp only [maxLen] at h63; omega
  have grow : ∀ (b : Option Addr) (old : Nat), old < n0 + n → v = .slice b n0 old → (Builtin.firstCells m n0 (.slice b n0 old)).run P w.drew = .ok cs.toArray w.drew →
      ∃ v' w', (Builtin.append_ #[t, tx] ty #[v, x]).run P w = .ok v' w' ∧ OwnM m w' v' (n0 + n) (cs ++ news) ∧ Grow w w' v v' := by
    intro b old ho hv hold
    have hr := run_append_grow_src (P := P) w t tx ty e i z ht hi hz b n0 old cs (by rw [hsize]; exact hold) x n news (by rw [hsize]; exact hs) ho (by omega) (growslice_fits ho hbytes)
    have hge := grownCap_ge w (n0 + n) old e
    have hcm : grownCap w (n0 + n) old e ≤ maxLen := grownCap_le_maxLen w (n0 + n) old e h63
    have hnew : (w.drew.alloc (.cells ((cs ++ news).toArray ++ Builtin.zeroCells z.cells (grownCap w (n0 + n) old e - (n0 + n))) e)).heap[w.heap.size]? = some (.cells ((cs ++ news).toArray ++ Builtin.zeroCells z.cells (grownCap w (n0 + n) old e - (n0 + n))) e (0, 0)) := heap_alloc_new w.drew _
    refine ⟨.slice (some ⟨w.heap.size, 0, none⟩) (n0 + n) (grownCap w (n0 + n) old e), w.drew.alloc (.cells ((cs ++ news).toArray ++ Builtin.zeroCells z.cells (grownCap w (n0 + n) old e - (n0 + n))) e), by rw [hv]; exact hr, .inr ⟨w.heap.size, grownCap w (n0 + n) old e, rfl, hge, hcm, ?_, ?_, ?_, ?_⟩, ⟨rfl, rfl, rfl, by rw [size_alloc]; exact Nat.le_succ w.heap.size, fun k hk _ => Below.heap_alloc w.drew _ k hk, .inr ⟨fun k hk => ?_, fun k hk => Below.heap_alloc w.drew _ k hk⟩⟩⟩
    · rw [List.length_append, hn, hcl, Nat.add_mul]
    · intro j u hj
      rw [cell_of_row _ _ _ _ _ _ hnew, Nat.zero_add]
      have hj' : j < (cs ++ news).length := (List.getElem?_eq_some_iff.1 hj).1
      rw [Array.getElem?_append_left (by simpa using hj')]
      simpa using hj
    · refine there_of_row hnew 0 _ ?_
      simp only [Array.size_append, List.size_toArray, size_zeroCells, hzs, List.length_append, hn, hcl]
      rw [← Nat.add_mul, ← Nat.add_mul]
      exact Nat.le_of_eq (by rw [Nat.zero_add]; congr 1; omega)
    · rw [size_alloc]; exact Nat.lt_succ_self _
    · have hk : some w.heap.size = some k := hk
      injection hk with hk
      omega
  rcases hown with ⟨rfl, rfl, rfl⟩ | ⟨g, cap, rfl, h2, h3, h0, h4, h5, h6⟩
  · exact grow none 0 (by have := hpos rfl; omega) rfl (run_firstCells_none w.drew m 0 0 0)
  · by_cases hroom : n0 + n ≤ cap
    · have hle : n0 * m + n * m ≤ cap * m := by rw [← Nat.add_mul]; exact Nat.mul_le_mul_right _ hroom
      have hr := run_append_room_src (P := P) w t tx ty e i ht hi g 0 n0 cap x n news (by rw [hsize]; exact hs) hroom
        (fun j hj => by rw [hsize]; exact by have := (h5 (n0 * m + j) (by omega)).1; simpa [Nat.add_assoc] using this)
        (fun j hj => by rw [hsize]; exact by have := (h5 (n0 * m + j) (by omega)).2; simpa [Nat.add_assoc] using this)
      rw [hsize, Nat.zero_add] at hr
      have ht' : w.there g (n0 * m) news.length := fun j hj => by have := h5 (n0 * m + j) (by omega); simpa using this
      refine ⟨_, _, hr, .inr ⟨g, cap, rfl, hroom, h3, ?_, ?_, World.there_setCells h5 _ _ _, ?_⟩, ?_⟩
      · rw [List.length_append, hn, h0, Nat.add_mul]
      · intro j u hj
        by_cases hjl : j < cs.length
        · rw [List.getElem?_append_left hjl] at hj
          exact World.rangeAt_setCells_apart h4 g (n0 * m) news (.inr (.inl (by omega))) j u hj
        · rw [List.getElem?_append_right (by omega)] at hj
          have := World.rangeAt_setCells_same w g (n0 * m) news ht' (j - cs.length) u hj
          rwa [show n0 * m + (j - cs.length) = 0 + j from by omega] at this
      · have := (But.setCells news (n0 * m) (But.refl g w)).size; omega
      · have hb := But.setCells news (n0 * m) (But.refl g w)
        exact ⟨hb.os, hb.tape, hb.output, hb.size, fun k hk hne => hb.block k hk (fun e => hne (by rw [e]; rfl)), .inl rfl⟩
    · refine grow (some ⟨g, 0, none⟩) cap (by omega) rfl ?_
      exact run_firstCells_some w.drew m n0 ⟨g, 0, none⟩ n0 cap cs h0 (fun j u hj => by rw [Addr.add_mid]; exact h4 j u hj)
/-- append of one element that lies in a row of its own -/
theorem append_oneM {m : Nat} (t e : TypeId) (z : Value) (by_ : Nat) (hb64 : by_ ≤ 64) (hu : Tryz.prog.underlying t = some (.slice e)) (hinfo : (Tryz.prog.info? e).map (fun i => (i.zero, i.size, i.bytes)) = some (some z, m, by_)) (hzs : z.cells.size = m)
    (w : World) (v : Value) (n0 : Nat) (cs : List Value) (xs : List Value) (hm : xs.length = m) (h1 : ∀ u ∈ xs, u.oneCell' = true) (hown : OwnM m w v n0 cs) (hlen : n0 ≤ 2000000) :
    ∃ v' w', (Builtin.append_ #[t, t] t #[v, .slice (some ⟨w.heap.size, 0, none⟩) 1 1]).run Tryz.prog (w.alloc (.cells xs.toArray e)) = .ok v' w' ∧ OwnM m w' v' (n0 + 1) (cs ++ xs) ∧ Grow w w' v v' := by
  obtain ⟨i0, hi, hz0, hz1, hz2⟩ := info_parts hinfo
  have hsrc : Src Tryz.prog m t (.slice (some ⟨w.heap.size, 0, none⟩) 1 1) 1 xs (w.alloc (.cells xs.toArray e)) :=
    Src.ofSlice _ hu ⟨w.heap.size, 0, none⟩ 1 1 xs (by rw [hm, Nat.one_mul]) (fun j u hj => by
      rw [Addr.add_mid, cell_of_row _ _ _ _ _ _ (heap_alloc_new w _), Nat.zero_add]; simpa using hj) h1
  obtain ⟨v', w', a1, a2, a3⟩ := run_append_M (P := Tryz.prog) (w.alloc (.cells xs.toArray e)) t t t e i0 z hu hi hz0 hz1 hzs v n0 cs (hown.alloc _) _ 1 xs hsrc
    (by rw [hz2]; exact Nat.le_trans (Nat.mul_le_mul (show n0 + 1 ≤ 2000001 by omega) hb64) (by decide)) (by rw [maxLen]; omega) (fun _ => by omega)
  have hs := a3.size
  rw [size_alloc] at hs
  refine ⟨v', w', a1, a2, ⟨a3.os, a3.tape, a3.output, by omega, fun k hk hne => (a3.old k (by rw [size_alloc]; omega) hne).trans (Below.heap_alloc w _ k hk), ?_⟩⟩
  rcases a3.alt with h4 | ⟨h4, h5⟩
  · exact .inl h4
  · refine .inr ⟨fun k hk => ?_, fun k hk => (h5 k (by rw [size_alloc]; omega)).trans (Below.heap_alloc w _ k hk)⟩
    have := h4 k hk
    rw [size_alloc] at this
    omega
end Go.Proofs.YthoekndjeclimaaGreatDoor

namespace Go.Proofs.YthoekndjeclimaaGreatDoor
open Go.RowKit
/-- the cells of forks -/
def fcs (f : Tree.Fork) : List Value := [.int .i64 (Tree.fkB f : Nat), .int .i64 (Tree.fkM f : Nat), .int .i64 (Tree.fkE f : Nat), .bool (Tree.fkR f)]
def fvs : List Tree.Fork → List Value
  | [] => []
  | f :: l => fcs f ++ fvs l
theorem fvs_snoc : ∀ (l : List Tree.Fork) (f : Tree.Fork), fvs (l ++ [f]) = fvs l ++ fcs f
  | [], f => by simp [fvs]
  | g :: l, f => by rw [List.cons_append, fvs, fvs_snoc l f, fvs, List.append_assoc]
theorem fvs_length : ∀ (l : List Tree.Fork), (fvs l).length = l.length * 4
  | [] => rfl
  | f :: l => by rw [fvs, List.length_append, fvs_length l, List.length_cons]; simp [fcs]; omega
theorem fvs_get : ∀ (l : List Tree.Fork) (j : Nat) (f : Tree.Fork), l[j]? = some f → (fvs l)[4 * j]? = some (.int .i64 (Tree.fkB f : Nat)) ∧ (fvs l)[4 * j + 1]? = some (.int .i64 (Tree.fkM f : Nat)) ∧ (fvs l)[4 * j + 2]? = some (.int .i64 (Tree.fkE f : Nat)) ∧ (fvs l)[4 * j + 3]? = some (.bool (Tree.fkR f))
  | [], j, f, h => by simp at h
  | g :: l, 0, f, h => by
    simp at h
    subst h
    exact ⟨rfl, rfl, rfl, rfl⟩
  | g :: l, j + 1, f, h => by
    have ih := fvs_get l j f (by simpa using h)
    have e : ∀ i, (fvs (g :: l))[4 * (j + 1) + i]? = (fvs l)[4 * j + i]? := fun i => by
      rw [fvs, List.getElem?_append_right (by simp [fcs]; omega)]
      congr 1
      simp [fcs]
      omega
    exact ⟨(e 0).trans ih.1, (e 1).trans ih.2.1, (e 2).trans ih.2.2.1, (e 3).trans ih.2.2.2⟩
/-- a list of forks that is new since B -/
def Fks (w : World) (B : Nat) (v : Value) (l : List Tree.Fork) : Prop := OwnM 4 w v l.length (fvs l) ∧ ∀ k, v.ownBlock = some k → B ≤ k
theorem Fks.below {w w' : World} {B : Nat} {v : Value} {l : List Tree.Fork} (h : Fks w B v l) (hb : Below w.heap.size w w') : Fks w' B v l := ⟨h.1.below hb, h.2⟩
theorem Grow.low {w w' : World} {v v' : Value} {B : Nat} (h : Grow w w' v v') (hB : B ≤ w.heap.size) (hv : ∀ k, v.ownBlock = some k → B ≤ k) : Below B w w' ∧ ∀ k, v'.ownBlock = some k → B ≤ k := by
  refine ⟨⟨h.os, h.tape, h.output, h.size, fun k hk => h.old k (by omega) fun e => by have := hv k e; omega⟩, fun k hk => ?_⟩
  rcases h.alt with e | ⟨e, _⟩
  · exact hv k (e ▸ hk)
  · exact Nat.le_trans hB (e k hk)
theorem infoFk : (Tryz.prog.info? 75).map (fun i => (i.zero, i.size, i.bytes)) = some (some (.agg #[.int .i64 0, .int .i64 0, .int .i64 0, .bool false]), 4, 32) := by kernel_rfl
theorem undFk : Tryz.prog.underlying 48 = some (.slice 75) := by kernel_rfl
/-- append(forks, f), with f in a variable of its own: the element's own row lies at the heap's end -/
theorem append_fork (w : World) (B : Nat) (v : Value) (l : List Tree.Fork) (f : Tree.Fork) (h : Fks w B v l) (hB : B ≤ w.heap.size) (hl : l.length ≤ 2000000) :
    ∃ v' w', (Builtin.append_ #[48, 48] 48 #[v, .slice (some ⟨w.heap.size, 0, none⟩) 1 1]).run Tryz.prog (w.alloc (.cells (fcs f).toArray 75)) = .ok v' w' ∧ Fks w' B v' (l ++ [f]) ∧ Below B w w' ∧ ∀ k, k < w.heap.size → v.ownBlock ≠ some k → w'.heap[k]? = w.heap[k]? := by
  obtain ⟨v', w', h1, h2, h3⟩ := append_oneM (m := 4) 48 75 _ 32 (by decide) undFk infoFk rfl w v l.length (fvs l) (fcs f) rfl (fun u hu => by
    simp only [fcs, List.mem_cons, List.not_mem_nil, or_false] at hu
    rcases hu with rfl | rfl | rfl | rfl <;> rfl) h.1 hl
  obtain ⟨h4, h5⟩ := h3.low hB h.2
  refine ⟨v', w', h1, ⟨?_, h5⟩, h4, h3.old⟩
  rw [List.length_append, fvs_snoc]
  exact h2
end Go.Proofs.YthoekndjeclimaaGreatDoor

namespace Go.Proofs.YthoekndjeclimaaGreatDoor
open Go.RowKit
theorem fks_len : ∀ (f b n i : Nat), n ≤ f → (Tree.fks f b n i).length ≤ n
  | 0, b, n, i, h => by simp [Tree.fks]
  | f + 1, b, n, i, h => by
    by_cases h2 : n < 2
    · rw [Tree.fks_small h2]; simp
    · have s1 := Tree.sp_lt (n := n) (by omega)
      have s2 := Tree.sp_pos (n := n) (by omega)
      by_cases hi : i < b + Tree.sp n
      · rw [Tree.fks_left (by omega) hi, List.length_cons]
        have := fks_len f b (Tree.sp n) i (by omega)
        omega
      · rw [Tree.fks_right (by omega) hi, List.length_cons]
        have := fks_len f (b + Tree.sp n) (n - Tree.sp n) i (by omega)
        omega
/-- what pathForks has done, and what is left -/
structure Pf (w0 w' : World) (B : Nat) (v : Value) (b n m N : Nat) (dn : List Tree.Fork) (f : Nat) (all : List Tree.Fork) : Prop where
  own : Fks w' B v dn
  bel : Below B w0 w'
  fuel : n ≤ f
  up : b + n ≤ N
  lo : b ≤ m
  hi : m < b + n
  eq : dn ++ Tree.fks f b n m = all
set_option maxRecDepth 100000 in
set_option maxHeartbeats 800000 in
theorem pathForks_any (n m : Nat) (hn : n ≤ 1099511627776) (hm : m < n) (hlen : (Tree.fks n 0 n m).length ≤ 1000) (w : World) :
    Calls Tryz.prog 24 #[.int .i64 (n : Int), .int .i64 (m : Int)] w fun e w' => ∃ v, e = .returned v ∧ Fks w' w.heap.size v (Tree.fks n 0 n m) ∧ Below w.heap.size w w' := by
  obtain ⟨all, hall⟩ : ∃ all, Hid (Tree.fks n 0 n m = all) := ⟨_, rfl⟩
  rw [hall.out] at hlen ⊢
  have P0 : Hid (Pf w w w.heap.size (.slice none 0 0) 0 n m n [] n all) := ⟨⟨OwnM.nil 4 w, fun k hk => by cases hk⟩, Below.refl _ _, Nat.le_refl _, by omega, by omega, by omega, by rw [List.nil_append]; exact hall.out⟩
  have HLN := hid hlen
  clear hall hlen
  go_enter Tryz.func24, Tryz.ntmps24
  go_wp2
  go_loopw [5, 6, 7] (fun v b e w' => ∃ (bn k en f : Nat) (dn : List Tree.Fork), b = .int .i64 (bn : Int) ∧ e = .int .i64 (en : Int) ∧ Hid (en = bn + k) ∧ Hid (Pf w w' w.heap.size v bn k m n dn f all)) (fun _ b e _ => (intOf e - intOf b).toNat)
  case atStart => exact ⟨0, n, n, n, [], rfl, rfl, hid (Nat.zero_add n).symm, P0⟩
  case round =>
    clear P0
    obtain ⟨bn, k, en, f, dn, rfl, rfl, HE, P⟩ := hrel
    have hen := HE.out
    have hfu := P.out.fuel
    have hup := P.out.up
    have hlo := P.out.lo
    have hhi := P.out.hi
    by_cases hk : 2 ≤ k
    · obtain ⟨g, rfl⟩ : ∃ g, f = g + 1 := ⟨f - 1, by omega⟩
      have s1 := Tree.sp_lt (n := k) (by omega)
      have s2 := Tree.sp_pos (n := k) (by omega)
      have i0 := split_any (k : Int) (by omega) (by omega) wr
      rw [show spI (k : Int) = ((Tree.sp k : Nat) : Int) from rfl] at i0
      obtain ⟨s, hs⟩ : ∃ s, Hid (Tree.sp k = s) := ⟨_, rfl⟩
      rw [hs.out] at s1 s2 i0
      obtain ⟨md, hmd⟩ : ∃ md, Hid (bn + s = md) := ⟨_, rfl⟩
      have hmd2 := hmd.out
      have m1 : (en : Int) - (bn : Int) = (k : Int) := by omega
      have m2 : (1 : Int) < (k : Int) := by omega
      have m3 : (bn : Int) + (s : Int) = (md : Int) := by omega
      have q1 : md ≤ 1099511627776 := by omega
      have q2 : en ≤ 1099511627776 := by omega
      have q3 : m ≤ 1099511627776 := by omega
      clear hen hmd2 hfu hup hlo hhi
      go_wp2_with (go_at_call 52; fail)
      refine i0.mono ?_
      rintro e w1 ⟨rfl, rfl⟩
      obtain ⟨a5, c5, rfl, _, _⟩ := P.out.own.1.shape
      have hBw := P.out.bel.size
      obtain ⟨rr, hrr⟩ : ∃ rr, Hid (decide (md ≤ m) = rr) := ⟨_, rfl⟩
      have hne : (Value.slice a5 dn.length c5).ownBlock ≠ some w1.heap.size := fun e => by have := P.out.own.1.lt _ e; omega
      have ra := heap_alloc_new w1 (.cells (fcs (bn, md, en, rr)).toArray 75)
      have ba := (Below.refl w1.heap.size w1).alloc (Nat.le_refl _) (.cells (fcs (bn, md, en, rr)).toArray 75)
      obtain ⟨v', w2, hap, F2, b2, o2⟩ := append_fork (w1.alloc (.cells (fcs (bn, md, en, rr)).toArray 75)) w.heap.size (.slice a5 dn.length c5) dn (bn, md, en, rr) ⟨P.out.own.1.alloc _, P.out.own.2⟩ (by rw [size_alloc]; omega) (by have h1 := congrArg List.length P.out.eq; rw [List.length_append] at h1; have := HLN.out; omega)
      have rw2 := (o2 w1.heap.size (by rw [size_alloc]; omega) hne).trans ra
      have c3 : w2.cell? ⟨w1.heap.size, 3, none⟩ = some (.bool rr) := by rw [cell_of_row _ _ _ _ _ _ rw2]; rfl
      obtain ⟨a6, c6, rfl, _, _⟩ := F2.1.shape
      have HF := hid F2
      have HB := hid (P.out.bel.trans ((ba.mono hBw).trans b2))
      rw [size_alloc] at hap
      have hap1 : (Builtin.append_ #[48, 48] 48 #[.slice a5 dn.length c5, .slice (some ⟨w1.heap.size + 1, 0, none⟩) 1 1]).run Tryz.prog ((w1.alloc (.cells #[.int .i64 (bn : Int), .int .i64 (md : Int), .int .i64 (en : Int), .bool rr] 75)).alloc (.cells #[.int .i64 (bn : Int), .int .i64 (md : Int), .int .i64 (en : Int), .bool rr] 75)) = .ok (.slice a6 (dn ++ [(bn, md, en, rr)]).length c6) w2 := hap
      have hPe := hid P.out.eq
      generalize hdl2 : (dn ++ [(bn, md, en, rr)]).length = ld2 at *
      rw [← hrr.out] at hap1 c3
      generalize hdl : dn.length = ld at *
      have HP := hid (And.intro P.out.fuel (And.intro P.out.up (And.intro P.out.lo P.out.hi)))
      clear hap F2 b2 o2 rw2 ra ba P hne hBw hdl hdl2
      by_cases hr : md ≤ m
      · have r2 : decide (md ≤ m) = true := by simpa using hr
        rw [r2] at hap1 c3 hrr
        obtain rfl := hrr.out
        go_wp2_with (at_builtin; go_must (refine Lib.wpList_append_run _ rfl _ _ 48 48 rfl _ _ rfl rfl _ _ hap1 ?_))
        refine ⟨⟨md, k - s, en, g, dn ++ [(bn, md, en, true)], rfl, rfl, ?_, hid ⟨HF.out, HB.out, ?_, ?_, ?_, ?_, ?_⟩⟩, ?_⟩
        all_goals have h1 := HP.out
        all_goals have h2 := hmd.out
        all_goals have h3 := HE.out
        all_goals try omega
        · unfold Hid; omega
        · have h4 := hPe.out
          rw [Tree.fks_right (by omega) (by rw [hs.out]; omega), hs.out, h2, ← h3] at h4
          rw [List.append_assoc]
          exact h4
        · simp [intOf]; omega
      · have r2 : decide (md ≤ m) = false := by simpa using hr
        rw [r2] at hap1 c3 hrr
        obtain rfl := hrr.out
        go_wp2_with (at_builtin; go_must (refine Lib.wpList_append_run _ rfl _ _ 48 48 rfl _ _ rfl rfl _ _ hap1 ?_))
        refine ⟨⟨bn, s, md, g, dn ++ [(bn, md, en, false)], rfl, rfl, ?_, hid ⟨HF.out, HB.out, ?_, ?_, ?_, ?_, ?_⟩⟩, ?_⟩
        all_goals have h1 := HP.out
        all_goals have h2 := hmd.out
        all_goals have h3 := HE.out
        all_goals try omega
        · unfold Hid; omega
        · have h4 := hPe.out
          rw [Tree.fks_left (by omega) (by rw [hs.out]; omega), hs.out, h2, ← h3] at h4
          rw [List.append_assoc]
          exact h4
        · simp [intOf]; omega
    · have m2 : ¬ (1 : Int) < (k : Int) := by omega
      have m1 : (en : Int) - (bn : Int) = (k : Int) := by omega
      have HF : Hid (Fks wr w.heap.size u5 all) := by
        have h1 := P.out.eq
        rw [Tree.fks_small (by omega), List.append_nil] at h1
        rw [← h1]
        exact P.out.own
      have HB := hid P.out.bel
      clear P HE hen hfu hup hlo hhi
      go_wp2
      go_ret
      exact ⟨_, rfl, HF.out, HB.out⟩
end Go.Proofs.YthoekndjeclimaaGreatDoor

namespace Go.Proofs.YthoekndjeclimaaGreatDoor
open Go.RowKit
/-- the texts while they are made, from below -/
def tk (r : List UInt8) (ds : List Bool) (hs : List (List UInt8)) (n i : Nat) : List (List UInt8) := List.replicate (n - i) [] ++ (Tree.txs r (ds.take i) (hs.take i)).reverse
theorem tk_set {n i : Nat} {R : List (List UInt8)} (t : List UInt8) (h : i < n) : (List.replicate (n - i) [] ++ R).set (n - 1 - i) t = List.replicate (n - (i + 1)) [] ++ t :: R := by
  have e : n - i = (n - (i + 1)) + 1 := by omega
  rw [e, List.replicate_succ', List.append_assoc, List.set_append, if_neg (by simp; omega)]
  have e2 : n - 1 - i - (List.replicate (n - (i + 1)) ([] : List UInt8)).length = 0 := by simp; omega
  rw [e2]
  rfl
theorem tk_get {n i : Nat} {R : List (List UInt8)} (t : List UInt8) : (List.replicate (n - (i + 1)) [] ++ t :: R)[n - (i + 1)]? = some t := by
  rw [List.getElem?_append_right (by simp)]
  simp
theorem tk_next {r : List UInt8} {ds : List Bool} {hs : List (List UInt8)} {n i : Nat} {d : Bool} {h : List UInt8} (hi : i < n) (h1 : ds.length = n) (h2 : hs.length = n) (hd : ds[i]? = some d) (hh : hs[i]? = some h) (hr : r.length = 32) (H : Tree.Hs hs) :
    (tk r ds hs n i).set (n - 1 - i) (Tree.txt d (Tree.upd r (ds.take i) (hs.take i)) h) = tk r ds hs n (i + 1) ∧ Tree.upd r (ds.take (i + 1)) (hs.take (i + 1)) = Sha.sha (Tree.txt d (Tree.upd r (ds.take i) (hs.take i)) h) := by
  have l1 : (ds.take i).length = (hs.take i).length := by rw [List.length_take, List.length_take]; omega
  have e1 : ds.take (i + 1) = ds.take i ++ [d] := by rw [List.take_add_one, hd]; rfl
  have e2 : hs.take (i + 1) = hs.take i ++ [h] := by rw [List.take_add_one, hh]; rfl
  have h3 : h.length = 32 := H h (List.mem_of_getElem? hh)
  have h4 := Tree.upd_length r (ds.take i) (hs.take i) hr (H.take i)
  constructor
  · unfold tk
    rw [tk_set _ hi, e1, e2, Tree.txs_snoc _ _ _ _ _ l1 hr (H.take i), List.reverse_append]
    rfl
  · rw [e1, e2, Tree.upd_snoc _ _ _ _ _ l1, Tree.txt_nd h4 h3]
theorem tk_zero (r : List UInt8) (ds : List Bool) (hs : List (List UInt8)) (n : Nat) : tk r ds hs n 0 = List.replicate n [] := by
  unfold tk
  rw [List.take_zero, List.take_zero]
  simp [Tree.txs]
theorem tk_all {r : List UInt8} {ds : List Bool} {hs : List (List UInt8)} {n : Nat} (h1 : ds.length = n) (h2 : hs.length = n) : tk r ds hs n n = (Tree.txs r ds hs).reverse := by
  unfold tk
  rw [Nat.sub_self, List.take_of_length_le (by omega), List.take_of_length_le (by omega)]
  rfl
theorem tk_len {r : List UInt8} {ds : List Bool} {hs : List (List UInt8)} {n i : Nat} (h1 : ds.length = n) (h2 : hs.length = n) (hi : i ≤ n) : (tk r ds hs n i).length = n := by
  unfold tk
  rw [List.length_append, List.length_replicate, List.length_reverse, Tree.txs_length _ _ _ (by rw [List.length_take, List.length_take]; omega), List.length_take]
  omega
end Go.Proofs.YthoekndjeclimaaGreatDoor
