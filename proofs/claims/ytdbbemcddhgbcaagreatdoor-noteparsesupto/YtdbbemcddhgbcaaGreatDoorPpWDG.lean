import Derived.Test.YtdbbemcddhgbcaaGreatDoorPpNC4
/- Layer 20: lists that are their owner's (written out of DVG, SP6, SK0, SJ1 by genWDG.py) -/
namespace Go.Proofs.YtdbbemcddhgbcaaGreatDoor
open Go.RowKit
namespace Wz
/-- what is there stays, but for the blocks S -/
structure Keep (S : Nat → Prop) (w w' : World) : Prop where
  os : w'.os = w.os
  tape : w'.tape = w.tape
  output : w'.output = w.output
  size : w.heap.size ≤ w'.heap.size
  block : ∀ k, k < w.heap.size → ¬ S k → w'.heap[k]? = w.heap[k]?
def OwnS (v : Value) (k : Nat) : Prop := v.ownBlock = some k
/-- APPEND onto what is owned, from whatever source. -/
theorem run_append_S {P : Program} (w : World) (base : Nat) (t tx ty e : TypeId) (i : TypeInfo) (z : Value) (ht : P.underlying t = some (.slice e)) (hi : P.info? e = some i) (hz : i.zero = some z)
    (hsize : i.size = 1) (hzs : z.cells.size = 1) (v : Value) (cs : List Value) (hown : Own w base v cs) (x : Value) (n : Nat) (news : List Value) (hs : Src P 1 tx x n news w)
    (hbytes : (cs.length + n) * i.bytes ≤ 140737488355328) (h63 : cs.length + n ≤ maxLen) (hbase : base ≤ w.heap.size) (hpos : v = .slice none 0 0 → 0 < n) :
    ∃ v' w', (Builtin.append_ #[t, tx] ty #[v, x]).run P w = .ok v' w' ∧ Own w' base v' (cs ++ news) ∧ w.grownBy w' v.ownBlock ∧ (v'.ownBlock = v.ownBlock ∨ (v'.ownBlock = some w.heap.size ∧ ∀ k, k < w.heap.size → w'.heap[k]? = w.heap[k]?)) := by
  have hn : news.length = n := by simpa using hs.newsLen
  have h63' : cs.length + n ≤ 9223372036854775807 := by simp only [maxLen] at h63; omega
  -- the arm that grows
  have grow : ∀ (b : Option Addr) (old : Nat), old < cs.length + n → v = .slice b cs.length old → (Builtin.firstCells 1 cs.length (.slice b cs.length old)).run P w.drew = .ok cs.toArray w.drew →
      ∃ v' w', (Builtin.append_ #[t, tx] ty #[v, x]).run P w = .ok v' w' ∧ Own w' base v' (cs ++ news) ∧ w.grownBy w' v.ownBlock ∧ (v'.ownBlock = v.ownBlock ∨ (v'.ownBlock = some w.heap.size ∧ ∀ k, k < w.heap.size → w'.heap[k]? = w.heap[k]?)) := by
    intro b old ho hv hold
    have hr := run_append_grow_src (P := P) w t tx ty e i z ht hi hz b cs.length old cs (by rw [hsize]; exact hold) x n news (by rw [hsize]; exact hs) ho (by omega) (growslice_fits ho hbytes)
    have hge := grownCap_ge w (cs.length + n) old e
    have hcm : grownCap w (cs.length + n) old e ≤ maxLen := grownCap_le_maxLen w (cs.length + n) old e h63
    have hnew : (w.drew.alloc (.cells ((cs ++ news).toArray ++ Builtin.zeroCells z.cells (grownCap w (cs.length + n) old e - (cs.length + n))) e)).heap[w.heap.size]? = some (.cells ((cs ++ news).toArray ++ Builtin.zeroCells z.cells (grownCap w (cs.length + n) old e - (cs.length + n))) e (0, 0)) := heap_alloc_new w.drew _
    refine ⟨.slice (some ⟨w.heap.size, 0, none⟩) (cs.length + n) (grownCap w (cs.length + n) old e), w.drew.alloc (.cells ((cs ++ news).toArray ++ Builtin.zeroCells z.cells (grownCap w (cs.length + n) old e - (cs.length + n))) e), by rw [hv]; exact hr, .inr ⟨w.heap.size, grownCap w (cs.length + n) old e, by rw [List.length_append, hn], hbase, by rw [List.length_append, hn]; exact hge, hcm, ?_, ?_, ?_⟩, ⟨rfl, rfl, rfl, by rw [size_alloc]; exact Nat.le_succ w.heap.size, fun k hk _ => Below.heap_alloc w.drew _ k hk⟩, .inr ⟨rfl, fun k hk => Below.heap_alloc w.drew _ k hk⟩⟩
    · intro j u hj
      rw [cell_of_row _ _ _ _ _ _ hnew, Nat.zero_add]
      have hj' : j < (cs ++ news).length := (List.getElem?_eq_some_iff.1 hj).1
      rw [Array.getElem?_append_left (by simpa using hj')]
      simpa using hj
    · refine there_of_row hnew 0 _ ?_
      simp only [Array.size_append, List.size_toArray, size_zeroCells, hzs, List.length_append, hn]
      omega
    · rw [size_alloc]; exact Nat.lt_succ_self _
  rcases hown with ⟨rfl, rfl⟩ | ⟨g, cap, rfl, h1, h2, h3, h4, h5, h6⟩
  · exact grow none 0 (by have := hpos rfl; simp; omega) rfl (run_firstCells_none w.drew 1 0 0 0)
  · by_cases hroom : cs.length + n ≤ cap
    · have hr := run_append_room_src (P := P) w t tx ty e i ht hi g 0 cs.length cap x n news (by rw [hsize]; exact hs) hroom
        (fun j hj => by rw [hsize, Nat.mul_one]; exact by have := (h5 (cs.length + j) (by omega)).1; simpa [Nat.add_assoc] using this)
        (fun j hj => by rw [hsize, Nat.mul_one]; exact by have := (h5 (cs.length + j) (by omega)).2; simpa [Nat.add_assoc] using this)
      rw [hsize, Nat.mul_one, Nat.zero_add] at hr
      have ht' : w.there g cs.length news.length := fun j hj => by have := h5 (cs.length + j) (by omega); simpa using this
      refine ⟨_, _, hr, .inr ⟨g, cap, by rw [List.length_append, hn], h1, by rw [List.length_append, hn]; exact hroom, h3, ?_, World.there_setCells h5 _ _ _, ?_⟩, ?_, .inl rfl⟩
      · intro j u hj
        by_cases hjl : j < cs.length
        · rw [List.getElem?_append_left hjl] at hj
          exact World.rangeAt_setCells_apart h4 g cs.length news (.inr (.inl (by omega))) j u hj
        · rw [List.getElem?_append_right (by omega)] at hj
          have := World.rangeAt_setCells_same w g cs.length news ht' (j - cs.length) u hj
          rwa [show cs.length + (j - cs.length) = 0 + j from by omega] at this
      · have := (But.setCells news cs.length (But.refl g w)).size; omega
      · have hb := But.setCells news cs.length (But.refl g w)
        exact ⟨hb.os, hb.tape, hb.output, hb.size, fun k hk hne => hb.block k hk (fun e => hne (by rw [e]; rfl))⟩
    · refine grow (some ⟨g, 0, none⟩) cap (by omega) rfl ?_
      exact run_firstCells_some w.drew 1 cs.length ⟨g, 0, none⟩ cs.length cap cs (by simp) (fun j u hj => by rw [Addr.add_mid]; exact h4 j u hj)

/-- what an append does to the world -/
structure Grow (w w' : World) (v v' : Value) : Prop where
  os : w'.os = w.os
  tape : w'.tape = w.tape
  output : w'.output = w.output
  size : w.heap.size ≤ w'.heap.size
  old : ∀ k, k < w.heap.size → v.ownBlock ≠ some k → w'.heap[k]? = w.heap[k]?
  alt : v'.ownBlock = v.ownBlock ∨ ((∀ k, v'.ownBlock = some k → w.heap.size ≤ k) ∧ ∀ k, k < w.heap.size → w'.heap[k]? = w.heap[k]?)
theorem Grow.keepG {w w' : World} {v v' : Value} (h : Grow w w' v v') : Keep (OwnS v) w w' := ⟨h.os, h.tape, h.output, h.size, h.old⟩
/-- append of one value that lies in a cell of its own -/
theorem append_one (t e : TypeId) (z : Value) (by_ : Nat) (hb24 : by_ ≤ 24) (hu : Tryz.prog.underlying t = some (.slice e)) (hinfo : (Tryz.prog.info? e).map (fun i => (i.zero, i.size, i.bytes)) = some (some z, 1, by_)) (hzs : z.cells.size = 1)
    (w : World) (base : Nat) (v : Value) (cs : List Value) (x : Value) (hx : x.oneCell' = true) (hown : Own w base v cs) (hlen : cs.length ≤ 2000000) (hbase : base ≤ w.heap.size) :
    ∃ v' w', (Builtin.append_ #[t, t] t #[v, .slice (some ⟨w.heap.size, 0, none⟩) 1 1]).run Tryz.prog (w.alloc (.cells #[x] e)) = .ok v' w' ∧ Own w' base v' (cs ++ [x]) ∧ Grow w w' v v' := by
  obtain ⟨i0, hi, hz0, hz1, hz2⟩ := info_parts hinfo
  have hsrc : Src Tryz.prog 1 t (.slice (some ⟨w.heap.size, 0, none⟩) 1 1) 1 [x] (w.alloc (.cells #[x] e)) :=
    Src.ofSlice _ hu ⟨w.heap.size, 0, none⟩ 1 1 [x] (by simp) (fun j u hj => by
      rw [Addr.add_mid, cell_of_row _ _ _ _ _ _ (heap_alloc_new w _), Nat.zero_add]; simpa using hj) (fun u hu => by simp at hu; subst hu; exact hx)
  obtain ⟨v', w', h1, h2, h3, h4⟩ := run_append_S (P := Tryz.prog) (w.alloc (.cells #[x] e)) base t t t e i0 z hu hi hz0 hz1 hzs v cs (hown.alloc _) _ 1 [x] hsrc
    (by rw [hz2]; exact Nat.le_trans (Nat.mul_le_mul (show cs.length + 1 ≤ 2000001 by omega) hb24) (by decide)) (by rw [maxLen]; omega) (by rw [size_alloc]; omega) (fun _ => by omega)
  have hs := h3.size
  rw [size_alloc] at hs
  refine ⟨v', w', h1, h2, ⟨h3.os, h3.tape, h3.output, by omega, fun k hk hne => (h3.block k (by rw [size_alloc]; omega) (Ne.symm hne)).trans (Below.heap_alloc w _ k hk), ?_⟩⟩
  rcases h4 with h4 | ⟨h4, h5⟩
  · exact .inl h4
  · refine .inr ⟨fun k hk => ?_, fun k hk => (h5 k (by rw [size_alloc]; omega)).trans (Below.heap_alloc w _ k hk)⟩
    rw [h4, size_alloc] at hk
    injection hk with hk
    omega
/-- the slice v of n elements of m cells each owns the cells cs in a row of its own -/
def OwnM (m : Nat) (w : World) (v : Value) (n : Nat) (cs : List Value) : Prop :=
  (v = .slice none 0 0 ∧ n = 0 ∧ cs = []) ∨
  ∃ g cap, v = .slice (some ⟨g, 0, none⟩) n cap ∧ n ≤ cap ∧ cap ≤ maxLen ∧ cs.length = n * m ∧ w.rangeAt g 0 cs ∧ w.there g 0 (cap * m) ∧ g < w.heap.size
theorem OwnM.nil (m : Nat) (w : World) : OwnM m w (.slice none 0 0) 0 [] := .inl ⟨rfl, rfl, rfl⟩
theorem OwnM.len {m : Nat} {w : World} {v : Value} {n : Nat} {cs : List Value} (h : OwnM m w v n cs) : cs.length = n * m := by
  rcases h with ⟨_, rfl, rfl⟩ | ⟨_, _, _, _, _, h, _⟩
  · simp
  · exact h
theorem OwnM.lt {m : Nat} {w : World} {v : Value} {n : Nat} {cs : List Value} (h : OwnM m w v n cs) : ∀ k, v.ownBlock = some k → k < w.heap.size := by
  rcases h with ⟨rfl, _⟩ | ⟨g, _, rfl, _, _, _, _, _, h⟩
  · intro k hk; cases hk
  · intro k hk; cases hk; exact h
theorem OwnM.kept {m : Nat} {w w' : World} {v : Value} {n : Nat} {cs : List Value} (h : OwnM m w v n cs) (hs : w.heap.size ≤ w'.heap.size) (hb : ∀ g, v.ownBlock = some g → w'.heap[g]? = w.heap[g]?) : OwnM m w' v n cs := by
  rcases h with h | ⟨g, cap, rfl, h2, h3, h0, h4, h5, h6⟩
  · exact .inl h
  · exact .inr ⟨g, cap, rfl, h2, h3, h0, rangeAt_heap h4 (hb g rfl), there_heap h5 (hb g rfl), by omega⟩
theorem OwnM.below {m : Nat} {w w' : World} {v : Value} {n : Nat} {cs : List Value} (h : OwnM m w v n cs) (hb : Below w.heap.size w w') : OwnM m w' v n cs :=
  h.kept hb.size fun g hg => hb.block g (h.lt g hg)
theorem OwnM.drew {m : Nat} {w : World} {v : Value} {n : Nat} {cs : List Value} (h : OwnM m w v n cs) : OwnM m w.drew v n cs := h
theorem OwnM.drewN {m : Nat} {w : World} {v : Value} {n : Nat} {cs : List Value} (h : OwnM m w v n cs) (k : Nat) : OwnM m (w.drewN k) v n cs := h
theorem OwnM.alloc {m : Nat} {w : World} {v : Value} {n : Nat} {cs : List Value} (h : OwnM m w v n cs) (o : Obj) : OwnM m (w.alloc o) v n cs := h.below ((Below.refl _ _).alloc (Nat.le_refl _) _)
theorem OwnM.keep {m : Nat} {S : Nat → Prop} {w w' : World} {v : Value} {n : Nat} {cs : List Value} (h : OwnM m w v n cs) (hb : Keep S w w') (hne : ∀ k, v.ownBlock = some k → ¬ S k) : OwnM m w' v n cs :=
  h.kept hb.size fun g hg => hb.block g (h.lt g hg) (hne g hg)
theorem OwnM.shape {m : Nat} {w : World} {v : Value} {n : Nat} {cs : List Value} (h : OwnM m w v n cs) : ∃ a cap, v = .slice a n cap ∧ n ≤ cap ∧ cap ≤ 9223372036854775807 := by
  rcases h with ⟨rfl, rfl, _⟩ | ⟨g, cap, rfl, h2, h3, _⟩
  · exact ⟨none, 0, rfl, Nat.le_refl _, by omega⟩
  · exact ⟨_, cap, rfl, h2, by simp only [maxLen] at h3; omega⟩
/-- a cell of it -/
theorem OwnM.cell {m : Nat} {w : World} {v : Value} {n : Nat} {cs : List Value} (h : OwnM m w v n cs) {j : Nat} {u : Value} (hu : cs[j]? = some u) : ∃ g cap, v = .slice (some ⟨g, 0, none⟩) n cap ∧ w.cell? ⟨g, j, none⟩ = some u ∧ g < w.heap.size := by
  rcases h with ⟨_, _, rfl⟩ | ⟨g, cap, rfl, _, _, _, h4, _, h6⟩
  · simp at hu
  · refine ⟨g, cap, rfl, ?_, h6⟩
    have := h4 j u hu
    rwa [Nat.zero_add] at this
/-- a beginning of it -/
theorem OwnM.cut {m : Nat} {w : World} {g n c : Nat} {cs : List Value} (h : OwnM m w (.slice (some ⟨g, 0, none⟩) n c) n cs) {k : Nat} (hk : k ≤ n) : OwnM m w (.slice (some ⟨g, 0, none⟩) k c) k (cs.take (k * m)) := by
  rcases h with ⟨h, _⟩ | ⟨g', cap', h, h2, h3, h0, h4, h5, h6⟩
  · cases h
  · injection h with e1 e2 e3
    injection e1 with e1
    injection e1 with e1
    subst e1 e3
    refine .inr ⟨g, c, rfl, by omega, h3, ?_, fun j v hv => h4 j v ?_, h5, h6⟩
    · rw [List.length_take, h0]
      exact Nat.min_eq_left (Nat.mul_le_mul_right _ hk)
    · rw [List.getElem?_take] at hv
      split at hv
      · exact hv
      · cases hv
/-- APPEND onto it, from whatever source -/
theorem run_append_M {P : Program} {m : Nat} (w : World) (t tx ty e : TypeId) (i : TypeInfo) (z : Value) (ht : P.underlying t = some (.slice e)) (hi : P.info? e = some i) (hz : i.zero = some z)
    (hsize : i.size = m) (hzs : z.cells.size = m) (v : Value) (n0 : Nat) (cs : List Value) (hown : OwnM m w v n0 cs) (x : Value) (n : Nat) (news : List Value) (hs : Src P m tx x n news w)
    (hbytes : (n0 + n) * i.bytes ≤ 140737488355328) (h63 : n0 + n ≤ maxLen) (hpos : v = .slice none 0 0 → 0 < n) :
    ∃ v' w', (Builtin.append_ #[t, tx] ty #[v, x]).run P w = .ok v' w' ∧ OwnM m w' v' (n0 + n) (cs ++ news) ∧ Grow w w' v v' := by
  have hn : news.length = n * m := hs.newsLen
  have hcl := hown.len
  have h63' : n0 + n ≤ 9223372036854775807 := by simp only [maxLen] at h63; omega
  have grow : ∀ (b : Option Addr) (old : Nat), old < n0 + n → v = .slice b n0 old → (Builtin.firstCells m n0 (.slice b n0 old)).run P w.drew = .ok cs.toArray w.drew →
      ∃ v' w', (Builtin.append_ #[t, tx] ty #[v, x]).run P w = .ok v' w' ∧ OwnM m w' v' (n0 + n) (cs ++ news) ∧ Grow w w' v v' := by
    intro b old ho hv hold
    have hr := run_append_grow_src (P := P) w t tx ty e i z ht hi hz b n0 old cs (by rw [hsize]; exact hold) x n news (by rw [hsize]; exact hs) ho (by omega) (growslice_fits ho hbytes)
    have hge := grownCap_ge w (n0 + n) old e
    have hcm : grownCap w (n0 + n) old e ≤ maxLen := grownCap_le_maxLen w (n0 + n) old e h63
    have hnew : (w.drew.alloc (.cells ((cs ++ news).toArray ++ Builtin.zeroCells z.cells (grownCap w (n0 + n) old e - (n0 + n))) e)).heap[w.heap.size]? = some (.cells ((cs ++ news).toArray ++ Builtin.zeroCells z.cells (grownCap w (n0 + n) old e - (n0 + n))) e (0, 0)) := heap_alloc_new w.drew _
    refine ⟨.slice (some ⟨w.heap.size, 0, none⟩) (n0 + n) (grownCap w (n0 + n) old e), w.drew.alloc (.cells ((cs ++ news).toArray ++ Builtin.zeroCells z.cells (grownCap w (n0 + n) old e - (n0 + n))) e), by rw [hv]; exact hr, .inr ⟨w.heap.size, grownCap w (n0 + n) old e, rfl, hge, hcm, ?_, ?_, ?_, ?_⟩, ⟨rfl, rfl, rfl, by rw [size_alloc]; exact Nat.le_succ w.heap.size, fun k hk _ => Below.heap_alloc w.drew _ k hk, .inr ⟨fun k hk => ?_, fun k hk => Below.heap_alloc w.drew _ k hk⟩⟩⟩
    · rw [List.length_append, hn, hcl, Nat.add_mul]
    · intro j u hj
      rw [cell_of_row _ _ _ _ _ _ hnew, Nat.zero_add]
      have hj' : j < (cs ++ news).length := (List.getElem?_eq_some_iff.1 hj).1
      rw [Array.getElem?_append_left (by simpa using hj')]
      simpa using hj
    · refine there_of_row hnew 0 _ ?_
      simp only [Array.size_append, List.size_toArray, size_zeroCells, hzs, List.length_append, hn, hcl]
      rw [← Nat.add_mul, ← Nat.add_mul]
      exact Nat.le_of_eq (by rw [Nat.zero_add]; congr 1; omega)
    · rw [size_alloc]; exact Nat.lt_succ_self _
    · have hk : some w.heap.size = some k := hk
      injection hk with hk
      omega
  rcases hown with ⟨rfl, rfl, rfl⟩ | ⟨g, cap, rfl, h2, h3, h0, h4, h5, h6⟩
  · exact grow none 0 (by have := hpos rfl; omega) rfl (run_firstCells_none w.drew m 0 0 0)
  · by_cases hroom : n0 + n ≤ cap
    · have hle : n0 * m + n * m ≤ cap * m := by rw [← Nat.add_mul]; exact Nat.mul_le_mul_right _ hroom
      have hr := run_append_room_src (P := P) w t tx ty e i ht hi g 0 n0 cap x n news (by rw [hsize]; exact hs) hroom
        (fun j hj => by rw [hsize]; exact by have := (h5 (n0 * m + j) (by omega)).1; simpa [Nat.add_assoc] using this)
        (fun j hj => by rw [hsize]; exact by have := (h5 (n0 * m + j) (by omega)).2; simpa [Nat.add_assoc] using this)
      rw [hsize, Nat.zero_add] at hr
      have ht' : w.there g (n0 * m) news.length := fun j hj => by have := h5 (n0 * m + j) (by omega); simpa using this
      refine ⟨_, _, hr, .inr ⟨g, cap, rfl, hroom, h3, ?_, ?_, World.there_setCells h5 _ _ _, ?_⟩, ?_⟩
      · rw [List.length_append, hn, h0, Nat.add_mul]
      · intro j u hj
        by_cases hjl : j < cs.length
        · rw [List.getElem?_append_left hjl] at hj
          exact World.rangeAt_setCells_apart h4 g (n0 * m) news (.inr (.inl (by omega))) j u hj
        · rw [List.getElem?_append_right (by omega)] at hj
          have := World.rangeAt_setCells_same w g (n0 * m) news ht' (j - cs.length) u hj
          rwa [show n0 * m + (j - cs.length) = 0 + j from by omega] at this
      · have := (But.setCells news (n0 * m) (But.refl g w)).size; omega
      · have hb := But.setCells news (n0 * m) (But.refl g w)
        exact ⟨hb.os, hb.tape, hb.output, hb.size, fun k hk hne => hb.block k hk (fun e => hne (by rw [e]; rfl)), .inl rfl⟩
    · refine grow (some ⟨g, 0, none⟩) cap (by omega) rfl ?_
      exact run_firstCells_some w.drew m n0 ⟨g, 0, none⟩ n0 cap cs h0 (fun j u hj => by rw [Addr.add_mid]; exact h4 j u hj)
/-- append of one element that lies in a row of its own -/
theorem append_oneM {m : Nat} (t e : TypeId) (z : Value) (by_ : Nat) (hb64 : by_ ≤ 64) (hu : Tryz.prog.underlying t = some (.slice e)) (hinfo : (Tryz.prog.info? e).map (fun i => (i.zero, i.size, i.bytes)) = some (some z, m, by_)) (hzs : z.cells.size = m)
    (w : World) (v : Value) (n0 : Nat) (cs : List Value) (xs : List Value) (hm : xs.length = m) (h1 : ∀ u ∈ xs, u.oneCell' = true) (hown : OwnM m w v n0 cs) (hlen : n0 ≤ 2000000) :
    ∃ v' w', (Builtin.append_ #[t, t] t #[v, .slice (some ⟨w.heap.size, 0, none⟩) 1 1]).run Tryz.prog (w.alloc (.cells xs.toArray e)) = .ok v' w' ∧ OwnM m w' v' (n0 + 1) (cs ++ xs) ∧ Grow w w' v v' := by
  obtain ⟨i0, hi, hz0, hz1, hz2⟩ := info_parts hinfo
  have hsrc : Src Tryz.prog m t (.slice (some ⟨w.heap.size, 0, none⟩) 1 1) 1 xs (w.alloc (.cells xs.toArray e)) :=
    Src.ofSlice _ hu ⟨w.heap.size, 0, none⟩ 1 1 xs (by rw [hm, Nat.one_mul]) (fun j u hj => by
      rw [Addr.add_mid, cell_of_row _ _ _ _ _ _ (heap_alloc_new w _), Nat.zero_add]; simpa using hj) h1
  obtain ⟨v', w', a1, a2, a3⟩ := run_append_M (P := Tryz.prog) (w.alloc (.cells xs.toArray e)) t t t e i0 z hu hi hz0 hz1 hzs v n0 cs (hown.alloc _) _ 1 xs hsrc
    (by rw [hz2]; exact Nat.le_trans (Nat.mul_le_mul (show n0 + 1 ≤ 2000001 by omega) hb64) (by decide)) (by rw [maxLen]; omega) (fun _ => by omega)
  have hs := a3.size
  rw [size_alloc] at hs
  refine ⟨v', w', a1, a2, ⟨a3.os, a3.tape, a3.output, by omega, fun k hk hne => (a3.old k (by rw [size_alloc]; omega) hne).trans (Below.heap_alloc w _ k hk), ?_⟩⟩
  rcases a3.alt with h4 | ⟨h4, h5⟩
  · exact .inl h4
  · refine .inr ⟨fun k hk => ?_, fun k hk => (h5 k (by rw [size_alloc]; omega)).trans (Below.heap_alloc w _ k hk)⟩
    have := h4 k hk
    rw [size_alloc] at this
    omega
theorem append_oneL {m : Nat} (t e : TypeId) (z : Value) (by_ : Nat) (hu : Tryz.prog.underlying t = some (.slice e)) (hinfo : (Tryz.prog.info? e).map (fun i => (i.zero, i.size, i.bytes)) = some (some z, m, by_)) (hzs : z.cells.size = m)
    (w : World) (v : Value) (n0 : Nat) (cs : List Value) (xs : List Value) (hm : xs.length = m) (h1 : ∀ u ∈ xs, u.oneCell' = true) (hown : OwnM m w v n0 cs) (hb : (n0 + 1) * by_ ≤ 140737488355328) (hlen : n0 + 1 ≤ maxLen) :
    ∃ v' w', (Builtin.append_ #[t, t] t #[v, .slice (some ⟨w.heap.size, 0, none⟩) 1 1]).run Tryz.prog (w.alloc (.cells xs.toArray e)) = .ok v' w' ∧ OwnM m w' v' (n0 + 1) (cs ++ xs) ∧ Grow w w' v v' := by
  obtain ⟨i0, hi, hz0, hz1, hz2⟩ := info_parts hinfo
  have hsrc : Src Tryz.prog m t (.slice (some ⟨w.heap.size, 0, none⟩) 1 1) 1 xs (w.alloc (.cells xs.toArray e)) :=
    Src.ofSlice _ hu ⟨w.heap.size, 0, none⟩ 1 1 xs (by rw [hm, Nat.one_mul]) (fun j u hj => by
      rw [Addr.add_mid, cell_of_row _ _ _ _ _ _ (heap_alloc_new w _), Nat.zero_add]; simpa using hj) h1
  obtain ⟨v', w', a1, a2, a3⟩ := run_append_M (P := Tryz.prog) (w.alloc (.cells xs.toArray e)) t t t e i0 z hu hi hz0 hz1 hzs v n0 cs (hown.alloc _) _ 1 xs hsrc
    (by rw [hz2]; exact hb) hlen (fun _ => by omega)
  have hs := a3.size
  rw [size_alloc] at hs
  refine ⟨v', w', a1, a2, ⟨a3.os, a3.tape, a3.output, by omega, fun k hk hne => (a3.old k (by rw [size_alloc]; omega) hne).trans (Below.heap_alloc w _ k hk), ?_⟩⟩
  rcases a3.alt with h4 | ⟨h4, h5⟩
  · exact .inl h4
  · refine .inr ⟨fun k hk => ?_, fun k hk => (h5 k (by rw [size_alloc]; omega)).trans (Below.heap_alloc w _ k hk)⟩
    have := h4 k hk
    rw [size_alloc] at this
    omega

theorem OwnM.set {m : Nat} {w : World} {g n c : Nat} {cs : List Value} (h : OwnM m w (.slice (some ⟨g, 0, none⟩) n c) n cs) {j : Nat} (hj : j < cs.length) (u : Value) :
    OwnM m (w.setCell ⟨g, j, none⟩ u) (.slice (some ⟨g, 0, none⟩) n c) n (cs.set j u) ∧ (∃ y, w.cell? ⟨g, j, none⟩ = some y) ∧ w.frozen? ⟨g, j, none⟩ = false := by
  rcases h with ⟨h, _⟩ | ⟨g', cap', h, h2, h3, h0, h4, h5, h6⟩
  · cases h
  injection h with e1 e2 e3
  injection e1 with e1
  injection e1 with e1
  subst e1 e3
  have ht := h5 j (by have := Nat.mul_le_mul_right m h2; omega)
  rw [Nat.zero_add] at ht
  obtain ⟨y, hy⟩ := Option.isSome_iff_exists.1 ht.1
  refine ⟨.inr ⟨g, c, rfl, h2, h3, by rw [List.length_set]; exact h0, ?_, ?_, by simpa [World.setCell] using h6⟩, ⟨y, hy⟩, ht.2⟩
  · intro k u' hk
    rw [List.getElem?_set] at hk
    rw [Nat.zero_add]
    split at hk
    · next e =>
      subst e
      (try split at hk) <;> first | (rw [World.cell?_setCell_same _ _ _ (by rw [hy]; try rfl)]; exact hk) | cases hk
    · next e =>
      rw [World.cell?_setCell_other _ _ _ _ (by simp; try exact fun e' => e e'.symm)]
      have := h4 k u' hk
      rwa [Nat.zero_add] at this
  · intro k hk
    have := h5 k hk
    rw [World.frozen?_setCell]
    refine ⟨?_, this.2⟩
    by_cases e : j = 0 + k
    · rw [← e, World.cell?_setCell_same _ _ _ (by rw [hy]; try rfl)]; rfl
    · rw [World.cell?_setCell_other _ _ _ _ (by simp; try exact fun e' => e (by omega))]; exact this.1
/-- blocks by their roles: only those of role r are written -/
structure Wr (ρ : Nat → Nat) (r : Nat) (w w' : World) : Prop where
  os : w'.os = w.os
  tape : w'.tape = w.tape
  output : w'.output = w.output
  size : w.heap.size ≤ w'.heap.size
  block : ∀ k, k < w.heap.size → ρ k ≠ r → w'.heap[k]? = w.heap[k]?
/-- what is new has this role -/
def rx (ρ : Nat → Nat) (w : World) (r : Nat) : Nat → Nat := fun k => if k < w.heap.size then ρ k else r
theorem rx_old {ρ : Nat → Nat} {w : World} {r k : Nat} (h : k < w.heap.size) : rx ρ w r k = ρ k := if_pos h
theorem rx_new {ρ : Nat → Nat} {w : World} {r k : Nat} (h : w.heap.size ≤ k) : rx ρ w r k = r := if_neg (by omega)
theorem Wr.grow {ρ : Nat → Nat} {r : Nat} {w w' : World} {v v' : Value} (hg : Grow w w' v v') (hr : ∀ k, v.ownBlock = some k → ρ k = r) : Wr ρ r w w' :=
  ⟨hg.os, hg.tape, hg.output, hg.size, fun k hk hne => hg.old k hk (fun e => hne (hr k e))⟩
theorem Wr.setCell {ρ : Nat → Nat} {r : Nat} {w w' : World} (h : Wr ρ r w w') {g : Nat} (hg : g < w.heap.size → ρ g = r) (o : Nat) (u : Value) : Wr ρ r w (w'.setCell ⟨g, o, none⟩ u) :=
  ⟨h.os, h.tape, h.output, by simpa [World.setCell] using h.size, fun k hk hne => (heap_setCell_other w' ⟨g, o, none⟩ k u (fun e => hne (by subst e; exact hg hk))).trans (h.block k hk hne)⟩
theorem Wr.refl (ρ : Nat → Nat) (r : Nat) (w : World) : Wr ρ r w w := ⟨rfl, rfl, rfl, Nat.le_refl _, fun _ _ _ => rfl⟩
theorem Wr.below {ρ : Nat → Nat} {r : Nat} {w w' : World} (h : Below w.heap.size w w') : Wr ρ r w w' := ⟨h.os, h.tape, h.output, h.size, fun k hk _ => h.block k hk⟩
theorem Wr.own {ρ : Nat → Nat} {r : Nat} {w w' : World} {v v' : Value} (hg : Grow w w' v v') (hr : ∀ k, v.ownBlock = some k → ρ k = r) (hl : ∀ k, v.ownBlock = some k → k < w.heap.size) : ∀ k, v'.ownBlock = some k → rx ρ w r k = r := fun k e => by
  rcases hg.alt with e1 | ⟨e1, _⟩
  · rw [e1] at e; rw [rx_old (hl k e)]; exact hr k e
  · exact rx_new (e1 k e)
/-- a list that reads as marks, one cell each -/
def MkV (w : World) (v u : Value) : Prop := ∃ a n c, v = .slice a n c ∧ n ≤ 9223372036854775807 ∧ ∀ j, j < n → ∃ g, a = some ⟨g, 0, none⟩ ∧ g < w.heap.size ∧ w.cell? ⟨g, j, none⟩ = some u
theorem MkV.kept {w w' : World} {v u : Value} (h : MkV w v u) (hs : w.heap.size ≤ w'.heap.size) (hb : ∀ k, v.ownBlock = some k → k < w.heap.size → w'.heap[k]? = w.heap[k]?) : MkV w' v u := by
  obtain ⟨a, n, c, rfl, h1, h2⟩ := h
  refine ⟨a, n, c, rfl, h1, fun j hj => ?_⟩
  obtain ⟨g, rfl, h3, h4⟩ := h2 j hj
  exact ⟨g, rfl, by omega, (World.cell?_of_block (a := ⟨g, j, none⟩) (hb g rfl h3)).trans h4⟩
theorem OwnM.mkV {w : World} {v : Value} {n : Nat} {u : Value} (h : OwnM 1 w v n (List.replicate n u)) : MkV w v u := by
  obtain ⟨a, c, e, h1, h2⟩ := h.shape
  refine ⟨a, n, c, e, by omega, fun j hj => ?_⟩
  obtain ⟨g, c', e1, h3, h4⟩ := h.cell (show (List.replicate n u)[j]? = some u by rw [List.getElem?_replicate, if_pos hj])
  rw [e1] at e
  injection e with e3
  exact ⟨g, e3.symm, h4, h3⟩
/-- whose the t-th list is: forty of each -/
def whs (n : Nat) : List Value := (List.range n).map fun t => .int .i64 ((t / 40 : Nat) : Int)
theorem whs_len (n : Nat) : (whs n).length = n := by simp [whs]
theorem whs_succ (n : Nat) : whs (n + 1) = whs n ++ [.int .i64 ((n / 40 : Nat) : Int)] := by simp [whs, List.range_succ]
theorem whs_at {n t : Nat} (h : t < n) : (whs n)[t]? = some (.int .i64 ((t / 40 : Nat) : Int)) := by simp [whs, h]
/-- lists that came out (vs, kept in the row gl), while they are written over and grown: roles 0 never written, 1 the list of all, 2 whose, 3 + j the j-th list -/
structure Ow (S0 : Nat → Prop) (w0 : World) (gl : Nat) (vs : List Value) (mk : Nat → Value) (p : Nat) (cs : Nat → List Value) (ρ : Nat → Nat) (w : World) (va : Value) (ls : List Value) (vw : Value) (lw : Nat) : Prop where
  kp : Keep S0 w0 w
  lo : ∀ k, k < w0.heap.size → ¬ S0 k → ρ k = 0
  gr : w.rangeAt gl 0 vs
  rg : ρ gl = 0
  lg : gl < w.heap.size
  own : ∀ (j : Nat) (v : Value), p ≤ j → vs[j]? = some v → OwnM 1 w v (cs j).length (cs j) ∧ ∀ k, v.ownBlock = some k → ρ k = 3 + j
  oa : OwnM 1 w va ls.length ls
  ra : ∀ k, va.ownBlock = some k → ρ k = 1
  ow : OwnM 1 w vw lw (whs lw)
  rw_ : ∀ k, vw.ownBlock = some k → ρ k = 2
  mrk : ∀ (t : Nat) (v : Value), ls[t]? = some v → MkV w v (mk (t / 40)) ∧ ∀ k, v.ownBlock = some k → k < w.heap.size ∧ ρ k = 3 + t / 40
section
variable {S0 : Nat → Prop} {w0 w w' : World} {gl : Nat} {vs : List Value} {mk : Nat → Value} {p : Nat} {cs : Nat → List Value} {ρ : Nat → Nat} {va vw va' vw' : Value} {ls : List Value} {lw r : Nat}
theorem keep_wr (hk : Keep S0 w0 w) (lo : ∀ k, k < w0.heap.size → ¬ S0 k → ρ k = 0) (hw : Wr ρ r w w') (h0 : r ≠ 0) : Keep S0 w0 w' :=
  ⟨hw.os.trans hk.os, hw.tape.trans hk.tape, hw.output.trans hk.output, Nat.le_trans hk.size hw.size, fun k h1 h2 => (hw.block k (Nat.lt_of_lt_of_le h1 hk.size) (by rw [lo k h1 h2]; exact fun e => h0 e.symm)).trans (hk.block k h1 h2)⟩
theorem Ow.below (h : Ow S0 w0 gl vs mk p cs ρ w va ls vw lw) (hb : Below w.heap.size w w') : Ow S0 w0 gl vs mk p cs (rx ρ w 0) w' va ls vw lw where
  kp := keep_wr (r := 1) h.kp h.lo (Wr.below hb) (by omega)
  lo := fun k h1 h2 => by rw [rx_old (Nat.lt_of_lt_of_le h1 h.kp.size)]; exact h.lo k h1 h2
  gr := rangeAt_heap h.gr (hb.block gl h.lg)
  rg := by rw [rx_old h.lg]; exact h.rg
  lg := Nat.lt_of_lt_of_le h.lg hb.size
  own := fun j v hj e => by
    obtain ⟨a, b⟩ := h.own j v hj e
    exact ⟨a.below hb, fun k hk => by rw [rx_old (a.lt k hk)]; exact b k hk⟩
  oa := h.oa.below hb
  ra := fun k hk => by rw [rx_old (h.oa.lt k hk)]; exact h.ra k hk
  ow := h.ow.below hb
  rw_ := fun k hk => by rw [rx_old (h.ow.lt k hk)]; exact h.rw_ k hk
  mrk := fun t v e => by
    obtain ⟨a, b⟩ := h.mrk t v e
    exact ⟨a.kept hb.size (fun k _ hl => hb.block k hl), fun k hk => ⟨Nat.lt_of_lt_of_le (b k hk).1 hb.size, by rw [rx_old (b k hk).1]; exact (b k hk).2⟩⟩
/-- one cell of the i-th list is written, while none is gathered yet -/
theorem Ow.set {i g n c k : Nat} (h : Ow S0 w0 gl vs mk p cs ρ w va [] vw lw) (hp : p ≤ i) (e : vs[i]? = some (.slice (some ⟨g, 0, none⟩) n c)) (hk : k < (cs i).length) (u : Value) :
    Ow S0 w0 gl vs mk p (fun j => if j = i then (cs i).set k u else cs j) ρ (w.setCell ⟨g, k, none⟩ u) va [] vw lw ∧ (∃ y, w.cell? ⟨g, k, none⟩ = some y) ∧ w.frozen? ⟨g, k, none⟩ = false := by
  obtain ⟨a, b⟩ := h.own i _ hp e
  have hn : (cs i).length = n := by
    obtain ⟨a1, c1, e1, _, _⟩ := a.shape
    injection e1 with _ e2 _
    exact e2.symm
  rw [hn] at a
  obtain ⟨o1, o2, o3⟩ := a.set hk u
  have rg := b g rfl
  have hw : Wr ρ (3 + i) w (w.setCell ⟨g, k, none⟩ u) := (Wr.refl ρ (3 + i) w).setCell (fun _ => rg) _ _
  have hs : w.heap.size ≤ (w.setCell ⟨g, k, none⟩ u).heap.size := hw.size
  refine ⟨?_, o2, o3⟩
  constructor
  case kp => exact keep_wr h.kp h.lo hw (by omega)
  case lo => exact h.lo
  case gr => exact rangeAt_heap h.gr (hw.block gl h.lg (by rw [h.rg]; omega))
  case rg => exact h.rg
  case lg => exact Nat.lt_of_lt_of_le h.lg hs
  case own =>
    intro j v hj ej
    by_cases hji : j = i
    · subst hji
      obtain rfl : Value.slice (some ⟨g, 0, none⟩) n c = v := Option.some.inj (e.symm.trans ej)
      rw [if_pos rfl, List.length_set, hn]
      exact ⟨o1, b⟩
    · rw [if_neg hji]
      obtain ⟨a', b'⟩ := h.own j v hj ej
      exact ⟨a'.kept hs (fun g' hg' => hw.block g' (a'.lt g' hg') (by rw [b' g' hg']; omega)), b'⟩
  case oa => exact h.oa.kept hs (fun g' hg' => hw.block g' (h.oa.lt g' hg') (by rw [h.ra g' hg']; omega))
  case ra => exact h.ra
  case ow => exact h.ow.kept hs (fun g' hg' => hw.block g' (h.ow.lt g' hg') (by rw [h.rw_ g' hg']; omega))
  case rw_ => exact h.rw_
  case mrk => exact fun t v e => by cases e
/-- a list is put to all -/
theorem Ow.pushA {x : Value} (h : Ow S0 w0 gl vs mk p cs ρ w va ls vw lw) (hg : Grow w w' va va') (ho : OwnM 1 w' va' (ls.length + 1) (ls ++ [x])) (hx : MkV w x (mk (ls.length / 40))) (hr : ∀ k, x.ownBlock = some k → k < w.heap.size ∧ ρ k = 3 + ls.length / 40) :
    Ow S0 w0 gl vs mk p cs (rx ρ w 1) w' va' (ls ++ [x]) vw lw := by
  have hw : Wr ρ 1 w w' := Wr.grow hg h.ra
  have hs := hw.size
  constructor
  case kp => exact keep_wr h.kp h.lo hw (by omega)
  case lo => exact fun k h1 h2 => by rw [rx_old (Nat.lt_of_lt_of_le h1 h.kp.size)]; exact h.lo k h1 h2
  case gr => exact rangeAt_heap h.gr (hw.block gl h.lg (by rw [h.rg]; omega))
  case rg => rw [rx_old h.lg]; exact h.rg
  case lg => exact Nat.lt_of_lt_of_le h.lg hs
  case own =>
    intro j v hj ej
    obtain ⟨a', b'⟩ := h.own j v hj ej
    exact ⟨a'.kept hs (fun g' hg' => hw.block g' (a'.lt g' hg') (by rw [b' g' hg']; omega)), fun k hk => by rw [rx_old (a'.lt k hk)]; exact b' k hk⟩
  case oa => rw [List.length_append]; exact ho
  case ra => exact Wr.own hg h.ra h.oa.lt
  case ow => exact h.ow.kept hs (fun g' hg' => hw.block g' (h.ow.lt g' hg') (by rw [h.rw_ g' hg']; omega))
  case rw_ => exact fun k hk => by rw [rx_old (h.ow.lt k hk)]; exact h.rw_ k hk
  case mrk =>
    intro t v e
    rw [List.getElem?_append] at e
    split at e
    · obtain ⟨a, b⟩ := h.mrk t v e
      exact ⟨a.kept hs (fun k hk hl => hw.block k hl (by rw [(b k hk).2]; omega)), fun k hk => ⟨Nat.lt_of_lt_of_le (b k hk).1 hs, by rw [rx_old (b k hk).1]; exact (b k hk).2⟩⟩
    · next hj =>
      have ht := (List.getElem?_eq_some_iff.1 e).1
      simp at ht
      obtain rfl : t = ls.length := by omega
      rw [Nat.sub_self] at e
      obtain rfl : x = v := Option.some.inj e
      exact ⟨hx.kept hs (fun k hk hl => hw.block k hl (by rw [(hr k hk).2]; omega)), fun k hk => ⟨Nat.lt_of_lt_of_le (hr k hk).1 hs, by rw [rx_old (hr k hk).1]; exact (hr k hk).2⟩⟩
/-- a number is put to whose -/
theorem Ow.pushW (h : Ow S0 w0 gl vs mk p cs ρ w va ls vw lw) (hg : Grow w w' vw vw') (ho : OwnM 1 w' vw' (lw + 1) (whs (lw + 1))) :
    Ow S0 w0 gl vs mk p cs (rx ρ w 2) w' va ls vw' (lw + 1) := by
  have hw : Wr ρ 2 w w' := Wr.grow hg h.rw_
  have hs := hw.size
  constructor
  case kp => exact keep_wr h.kp h.lo hw (by omega)
  case lo => exact fun k h1 h2 => by rw [rx_old (Nat.lt_of_lt_of_le h1 h.kp.size)]; exact h.lo k h1 h2
  case gr => exact rangeAt_heap h.gr (hw.block gl h.lg (by rw [h.rg]; omega))
  case rg => rw [rx_old h.lg]; exact h.rg
  case lg => exact Nat.lt_of_lt_of_le h.lg hs
  case own =>
    intro j v hj ej
    obtain ⟨a', b'⟩ := h.own j v hj ej
    exact ⟨a'.kept hs (fun g' hg' => hw.block g' (a'.lt g' hg') (by rw [b' g' hg']; omega)), fun k hk => by rw [rx_old (a'.lt k hk)]; exact b' k hk⟩
  case oa => exact h.oa.kept hs (fun g' hg' => hw.block g' (h.oa.lt g' hg') (by rw [h.ra g' hg']; omega))
  case ra => exact fun k hk => by rw [rx_old (h.oa.lt k hk)]; exact h.ra k hk
  case ow => exact ho
  case rw_ => exact Wr.own hg h.rw_ h.ow.lt
  case mrk =>
    intro t v e
    obtain ⟨a, b⟩ := h.mrk t v e
    exact ⟨a.kept hs (fun k hk hl => hw.block k hl (by rw [(b k hk).2]; omega)), fun k hk => ⟨Nat.lt_of_lt_of_le (b k hk).1 hs, by rw [rx_old (b k hk).1]; exact (b k hk).2⟩⟩
/-- the i-th list is being grown: it has n marks now, q of its beginnings are in all -/
structure Ox (S0 : Nat → Prop) (w0 : World) (gl : Nat) (vs : List Value) (mk : Nat → Value) (i q n : Nat) (cs : Nat → List Value) (ρ : Nat → Nat) (w : World) (va : Value) (ls : List Value) (vw : Value) (lw : Nat) (x : Value) : Prop where
  b : Ow S0 w0 gl vs mk (i + 1) cs ρ w va ls vw lw
  ox : OwnM 1 w x n (List.replicate n (mk i))
  rx_ : ∀ k, x.ownBlock = some k → ρ k = 3 + i
  ll : ls.length = 40 * i + q
  sn : ∀ (t : Nat) (u : Value), ls[t]? = some u → t / 40 = i → ∃ a m c, u = .slice a m c ∧ m ≤ n
theorem Ow.take {i : Nat} {v : Value} (h : Ow S0 w0 gl vs mk i cs ρ w va ls vw lw) (e : vs[i]? = some v) (hc : cs i = List.replicate (cs i).length (mk i)) (hl : ls.length = 40 * i) : Ox S0 w0 gl vs mk i 0 (cs i).length cs ρ w va ls vw lw v where
  b := { h with own := fun j v hj e => h.own j v (by omega) e }
  ox := by have := (h.own i v (Nat.le_refl _) e).1; rwa [hc, List.length_replicate] at this
  rx_ := (h.own i v (Nat.le_refl _) e).2
  ll := hl
  sn := fun t u et hr => by
    have := (List.getElem?_eq_some_iff.1 et).1
    rw [hl] at this
    omega
theorem Ox.below {i q n : Nat} {x : Value} (h : Ox S0 w0 gl vs mk i q n cs ρ w va ls vw lw x) (hb : Below w.heap.size w w') : Ox S0 w0 gl vs mk i q n cs (rx ρ w 0) w' va ls vw lw x where
  b := h.b.below hb
  ox := h.ox.below hb
  rx_ := fun k hk => by rw [rx_old (h.ox.lt k hk)]; exact h.rx_ k hk
  ll := h.ll
  sn := h.sn
theorem Ox.pushA {i q n : Nat} {x : Value} (h : Ox S0 w0 gl vs mk i q n cs ρ w va ls vw lw x) (hq : q < 40) (hg : Grow w w' va va') (ho : OwnM 1 w' va' (ls.length + 1) (ls ++ [x])) : Ox S0 w0 gl vs mk i (q + 1) n cs (rx ρ w 1) w' va' (ls ++ [x]) vw lw x := by
  have hd : ls.length / 40 = i := by rw [h.ll]; omega
  have hw : Wr ρ 1 w w' := Wr.grow hg h.b.ra
  constructor
  case b => exact h.b.pushA hg ho (by rw [hd]; exact h.ox.mkV) (fun k hk => ⟨h.ox.lt k hk, by rw [hd]; exact h.rx_ k hk⟩)
  case ox => exact h.ox.kept hw.size (fun g hg' => hw.block g (h.ox.lt g hg') (by rw [h.rx_ g hg']; omega))
  case rx_ => exact fun k hk => by rw [rx_old (h.ox.lt k hk)]; exact h.rx_ k hk
  case ll => rw [List.length_append, h.ll]; rfl
  case sn =>
    intro t u e hr
    rw [List.getElem?_append] at e
    split at e
    · exact h.sn t u e hr
    · obtain ⟨a, c, e1, _, _⟩ := h.ox.shape
      have ht := (List.getElem?_eq_some_iff.1 e).1
      simp at ht
      rw [show t - ls.length = 0 by omega] at e
      obtain rfl : x = u := Option.some.inj e
      exact ⟨a, n, c, e1, Nat.le_refl _⟩
theorem Ox.pushW {i q n : Nat} {x : Value} (h : Ox S0 w0 gl vs mk i q n cs ρ w va ls vw lw x) (hg : Grow w w' vw vw') (ho : OwnM 1 w' vw' (lw + 1) (whs (lw + 1))) : Ox S0 w0 gl vs mk i q n cs (rx ρ w 2) w' va ls vw' (lw + 1) x := by
  have hw : Wr ρ 2 w w' := Wr.grow hg h.b.rw_
  constructor
  case b => exact h.b.pushW hg ho
  case ox => exact h.ox.kept hw.size (fun g hg' => hw.block g (h.ox.lt g hg') (by rw [h.rx_ g hg']; omega))
  case rx_ => exact fun k hk => by rw [rx_old (h.ox.lt k hk)]; exact h.rx_ k hk
  case ll => exact h.ll
  case sn => exact h.sn
theorem Ox.grow {i q n : Nat} {x x' : Value} (h : Ox S0 w0 gl vs mk i q n cs ρ w va ls vw lw x) (hg : Grow w w' x x') (ho : OwnM 1 w' x' (n + 1) (List.replicate (n + 1) (mk i))) : Ox S0 w0 gl vs mk i q (n + 1) cs (rx ρ w (3 + i)) w' va ls vw lw x' := by
  have hw : Wr ρ (3 + i) w w' := Wr.grow hg h.rx_
  have hs := hw.size
  constructor
  case b =>
    constructor
    case kp => exact keep_wr h.b.kp h.b.lo hw (by omega)
    case lo => exact fun k h1 h2 => by rw [rx_old (Nat.lt_of_lt_of_le h1 h.b.kp.size)]; exact h.b.lo k h1 h2
    case gr => exact rangeAt_heap h.b.gr (hw.block gl h.b.lg (by rw [h.b.rg]; omega))
    case rg => rw [rx_old h.b.lg]; exact h.b.rg
    case lg => exact Nat.lt_of_lt_of_le h.b.lg hs
    case own =>
      intro j v hj ej
      obtain ⟨a', b'⟩ := h.b.own j v hj ej
      exact ⟨a'.kept hs (fun g' hg' => hw.block g' (a'.lt g' hg') (by rw [b' g' hg']; omega)), fun k hk => by rw [rx_old (a'.lt k hk)]; exact b' k hk⟩
    case oa => exact h.b.oa.kept hs (fun g' hg' => hw.block g' (h.b.oa.lt g' hg') (by rw [h.b.ra g' hg']; omega))
    case ra => exact fun k hk => by rw [rx_old (h.b.oa.lt k hk)]; exact h.b.ra k hk
    case ow => exact h.b.ow.kept hs (fun g' hg' => hw.block g' (h.b.ow.lt g' hg') (by rw [h.b.rw_ g' hg']; omega))
    case rw_ => exact fun k hk => by rw [rx_old (h.b.ow.lt k hk)]; exact h.b.rw_ k hk
    case mrk =>
      intro t u e
      obtain ⟨hM, b⟩ := h.b.mrk t u e
      refine ⟨?_, fun k hk => ⟨Nat.lt_of_lt_of_le (b k hk).1 hs, by rw [rx_old (b k hk).1]; exact (b k hk).2⟩⟩
      by_cases ht : t / 40 = i
      · obtain ⟨a0, m0, c0, e0, hm0⟩ := h.sn t u e ht
        obtain ⟨a, m, c, e1, hm, hc⟩ := hM
        rw [e0] at e1
        injection e1 with e1 e2 e3
        subst e1 e2 e3
        refine ⟨a0, m0, c0, e0, hm, fun j hj => ?_⟩
        obtain ⟨g, ea, h3, h4⟩ := hc j hj
        have keep : w'.heap[g]? = w.heap[g]? → ∃ g', a0 = some ⟨g', 0, none⟩ ∧ g' < w'.heap.size ∧ w'.cell? ⟨g', j, none⟩ = some (mk (t / 40)) := fun e' =>
          ⟨g, ea, Nat.lt_of_lt_of_le h3 hs, (World.cell?_of_block (a := ⟨g, j, none⟩) e').trans h4⟩
        by_cases hv : x.ownBlock = some g
        · rcases hg.alt with e4 | ⟨_, e4⟩
          · obtain ⟨g1, c1, f1, f2, f3⟩ := ho.cell (show (List.replicate (n + 1) (mk i))[j]? = some (mk i) by rw [List.getElem?_replicate, if_pos (by omega)])
            rw [hv] at e4
            have hg1 : g1 = g := by rw [f1] at e4; injection e4
            subst hg1
            rw [ht]
            exact ⟨_, ea, f3, f2⟩
          · exact keep (e4 g h3)
        · exact keep (hg.old g h3 hv)
      · exact hM.kept hs (fun k hk hl => hw.block k hl (by rw [(b k hk).2]; omega))
  case ox => exact ho
  case rx_ => exact Wr.own hg h.rx_ h.ox.lt
  case ll => exact h.ll
  case sn =>
    intro t u e hr
    obtain ⟨a, m, c, e1, e2⟩ := h.sn t u e hr
    exact ⟨a, m, c, e1, by omega⟩
end
end Wz
end Go.Proofs.YtdbbemcddhgbcaaGreatDoor
