import Derived.Test.YtjcapdkibbjmiaaGreatDoorPkO3
import Derived.Test.YtjcapdkibbjmiaaGreatDoorPkSP4
namespace Go.Proofs.YtjcapdkibbjmiaaGreatDoor
open Go.RowKit
theorem run_append_S {P : Program} (w : World) (base : Nat) (t tx ty e : TypeId) (i : TypeInfo) (z : Value) (ht : P.underlying t = some (.slice e)) (hi : P.info? e = some i) (hz : i.zero = some z)
    (hsize : i.size = 1) (hzs : z.cells.size = 1) (v : Value) (cs : List Value) (hown : Own w base v cs) (x : Value) (n : Nat) (news : List Value) (hs : Src P 1 tx x n news w)
    (hbytes : (cs.length + n) * i.bytes ≤ 140737488355328) (h63 : cs.length + n ≤ maxLen) (hbase : base ≤ w.heap.size) (hpos : v = .slice none 0 0 → 0 < n) :
    ∃ v' w', (Builtin.append_ #[t, tx] ty #[v, x]).run P w = .ok v' w' ∧ Own w' base v' (cs ++ news) ∧ w.grownBy w' v.ownBlock ∧ (v'.ownBlock = v.ownBlock ∨ (v'.ownBlock = some w.heap.size ∧ ∀ k, k < w.heap.size → w'.heap[k]? = w.heap[k]?)) := by
  have hn : news.length = n := by simpa using hs.newsLen
  have h63' : cs.length + n ≤ 9223372036854775807 := by simp only [maxLen] at h63; omega
  -- the arm that grows
  have grow : ∀ (b : Option Addr) (old : Nat), old < cs.length + n → v = .slice b cs.length old → (Builtin.firstCells 1 cs.length (.slice b cs.length old)).run P w.drew = .ok cs.toArray w.drew →
      ∃ v' w', (Builtin.append_ #[t, tx] ty #[v, x]).run P w = .ok v' w' ∧ Own w' base v' (cs ++ news) ∧ w.grownBy w' v.ownBlock ∧ (v'.ownBlock = v.ownBlock ∨ (v'.ownBlock = some w.heap.size ∧ ∀ k, k < w.heap.size → w'.heap[k]? = w.heap[k]?)) := by
    intro b old ho hv hold
    have hr := run_append_grow_src (P := P) w t tx ty e i z ht hi hz b cs.length old cs (by rw [hsize]; exact hold) x n news (by rw [hsize]; exact hs) ho (by omega) (growslice_fits ho hbytes)
    have hge := grownCap_ge w (cs.length + n) old e
    have hcm : grownCap w (cs.length + n) old e ≤ maxLen := grownCap_le_maxLen w (cs.length + n) old e h63
    have hnew : (w.drew.alloc (.cells ((cs ++ news).toArray ++ Builtin.zeroCells z.cells (grownCap w (cs.length + n) old e - (cs.length + n))) e)).heap[w.heap.size]? = some (.cells ((cs ++ news).toArray ++ Builtin.zeroCells z.cells (grownCap w (cs.length + n) old e - (cs.length + n))) e (0, 0)) := heap_alloc_new w.drew _
    refine ⟨.slice (some ⟨w.heap.size, 0, none⟩) (cs.length + n) (grownCap w (cs.length + n) old e), w.drew.alloc (.cells ((cs ++ news).toArray ++ Builtin.zeroCells z.cells (grownCap w (cs.length + n) old e - (cs.length + n))) e), by rw [hv]; exact hr, .inr ⟨w.heap.size, grownCap w (cs.length + n) old e, by rw [List.length_append, hn], hbase, by rw [List.length_append, hn]; exact hge, hcm, ?_, ?_, ?_⟩, ⟨rfl, rfl, rfl, by rw [size_alloc]; exact Nat.le_succ w.heap.size, fun k hk _ => Below.heap_alloc w.drew _ k hk⟩, .inr ⟨rfl, fun k hk => Below.heap_alloc w.drew _ k hk⟩⟩
    · intro j u hj
      rw [cell_of_row _ _ _ _ _ _ hnew, Nat.zero_add]
      have hj' : j < (cs ++ news).length := (List.getElem?_eq_some_iff.1 hj).1
      rw [Array.getElem?_append_left (by simpa using hj')]
      simpa using hj
    · refine there_of_row hnew 0 _ ?_
      simp only [Array.size_append, List.size_toArray, size_zeroCells, hzs, List.length_append, hn]
      omega
    · rw [size_alloc]; exact Nat.lt_succ_self _
  rcases hown with ⟨rfl, rfl⟩ | ⟨g, cap, rfl, h1, h2, h3, h4, h5, h6⟩
  · exact grow none 0 (by have := hpos rfl; simp; omega) rfl (run_firstCells_none w.drew 1 0 0 0)
  · by_cases hroom : cs.length + n ≤ cap
    · have hr := run_append_room_src (P := P) w t tx ty e i ht hi g 0 cs.length cap x n news (by rw [hsize]; exact hs) hroom
        (fun j hj => by rw [hsize, Nat.mul_one]; exact by have := (h5 (cs.length + j) (by omega)).1; simpa [Nat.add_assoc] using this)
        (fun j hj => by rw [hsize, Nat.mul_one]; exact by have := (h5 (cs.length + j) (by omega)).2; simpa [Nat.add_assoc] using this)
      rw [hsize, Nat.mul_one, Nat.zero_add] at hr
      have ht' : w.there g cs.length news.length := fun j hj => by have := h5 (cs.length + j) (by omega); simpa using this
      refine ⟨_, _, hr, .inr ⟨g, cap, by rw [List.length_append, hn], h1, by rw [List.length_append, hn]; exact hroom, h3, ?_, World.there_setCells h5 _ _ _, ?_⟩, ?_, .inl rfl⟩
      · intro j u hj
        by_cases hjl : j < cs.length
        · rw [List.getElem?_append_left hjl] at hj
          exact World.rangeAt_setCells_apart h4 g cs.length news (.inr (.inl (by omega))) j u hj
        · rw [List.getElem?_append_right (by omega)] at hj
          have := World.rangeAt_setCells_same w g cs.length news ht' (j - cs.length) u hj
          rwa [show cs.length + (j - cs.length) = 0 + j from by omega] at this
      · have := (But.setCells news cs.length (But.refl g w)).size; omega
      · have hb := But.setCells news cs.length (But.refl g w)
        exact ⟨hb.os, hb.tape, hb.output, hb.size, fun k hk hne => hb.block k hk (fun e => hne (by rw [e]; rfl))⟩
    · refine grow (some ⟨g, 0, none⟩) cap (by omega) rfl ?_
      exact run_firstCells_some w.drew 1 cs.length ⟨g, 0, none⟩ cs.length cap cs (by simp) (fun j u hj => by rw [Addr.add_mid]; exact h4 j u hj)
structure Grow (w w' : World) (v v' : Value) : Prop where
  os : w'.os = w.os
  tape : w'.tape = w.tape
  output : w'.output = w.output
  size : w.heap.size ≤ w'.heap.size
  old : ∀ k, k < w.heap.size → v.ownBlock ≠ some k → w'.heap[k]? = w.heap[k]?
  alt : v'.ownBlock = v.ownBlock ∨ ((∀ k, v'.ownBlock = some k → w.heap.size ≤ k) ∧ ∀ k, k < w.heap.size → w'.heap[k]? = w.heap[k]?)
theorem Grow.keep {w w' : World} {v v' : Value} (h : Grow w w' v v') : Keep (fun k => v.ownBlock = some k) w w' := ⟨h.os, h.tape, h.output, h.size, h.old⟩
theorem append_one (t e : TypeId) (z : Value) (by_ : Nat) (hb24 : by_ ≤ 24) (hu : Tryz.prog.underlying t = some (.slice e)) (hinfo : (Tryz.prog.info? e).map (fun i => (i.zero, i.size, i.bytes)) = some (some z, 1, by_)) (hzs : z.cells.size = 1)
    (w : World) (base : Nat) (v : Value) (cs : List Value) (x : Value) (hx : x.oneCell' = true) (hown : Own w base v cs) (hlen : cs.length ≤ 2000000) (hbase : base ≤ w.heap.size) :
    ∃ v' w', (Builtin.append_ #[t, t] t #[v, .slice (some ⟨w.heap.size, 0, none⟩) 1 1]).run Tryz.prog (w.alloc (.cells #[x] e)) = .ok v' w' ∧ Own w' base v' (cs ++ [x]) ∧ Grow w w' v v' := by
  obtain ⟨i0, hi, hz0, hz1, hz2⟩ := info_parts hinfo
  have hsrc : Src Tryz.prog 1 t (.slice (some ⟨w.heap.size, 0, none⟩) 1 1) 1 [x] (w.alloc (.cells #[x] e)) :=
    Src.ofSlice _ hu ⟨w.heap.size, 0, none⟩ 1 1 [x] (by simp) (fun j u hj => by
      rw [Addr.add_mid, cell_of_row _ _ _ _ _ _ (heap_alloc_new w _), Nat.zero_add]; simpa using hj) (fun u hu => by simp at hu; subst hu; exact hx)
  obtain ⟨v', w', h1, h2, h3, h4⟩ := run_append_S (P := Tryz.prog) (w.alloc (.cells #[x] e)) base t t t e i0 z hu hi hz0 hz1 hzs v cs (hown.alloc _) _ 1 [x] hsrc
    (by rw [hz2]; exact Nat.le_trans (Nat.mul_le_mul (show cs.length + 1 ≤ 2000001 by omega) hb24) (by decide)) (by rw [maxLen]; omega) (by rw [size_alloc]; omega) (fun _ => by omega)
  have hs := h3.size
  rw [size_alloc] at hs
  refine ⟨v', w', h1, h2, ⟨h3.os, h3.tape, h3.output, by omega, fun k hk hne => (h3.block k (by rw [size_alloc]; omega) (Ne.symm hne)).trans (Below.heap_alloc w _ k hk), ?_⟩⟩
  rcases h4 with h4 | ⟨h4, h5⟩
  · exact .inl h4
  · refine .inr ⟨fun k hk => ?_, fun k hk => (h5 k (by rw [size_alloc]; omega)).trans (Below.heap_alloc w _ k hk)⟩
    rw [h4, size_alloc] at hk
    injection hk with hk
    omega
def mrk (i : Nat) : List UInt8 := [109, 97, 114, 107, UInt8.ofNat i, 0]
end Go.Proofs.YtjcapdkibbjmiaaGreatDoor

namespace Go.Proofs.YtjcapdkibbjmiaaGreatDoor
open Go.RowKit
abbrev Mu := Nat → Option (Nat × Nat)
end Go.Proofs.YtjcapdkibbjmiaaGreatDoor

namespace Go.Proofs.YtjcapdkibbjmiaaGreatDoor
open Go.RowKit
def OwnM (m : Nat) (w : World) (v : Value) (n : Nat) (cs : List Value) : Prop :=
  (v = .slice none 0 0 ∧ n = 0 ∧ cs = []) ∨
  ∃ g cap, v = .slice (some ⟨g, 0, none⟩) n cap ∧ n ≤ cap ∧ cap ≤ maxLen ∧ cs.length = n * m ∧ w.rangeAt g 0 cs ∧ w.there g 0 (cap * m) ∧ g < w.heap.size
theorem OwnM.nil (m : Nat) (w : World) : OwnM m w (.slice none 0 0) 0 [] := .inl ⟨rfl, rfl, rfl⟩
theorem OwnM.len {m : Nat} {w : World} {v : Value} {n : Nat} {cs : List Value} (h : OwnM m w v n cs) : cs.length = n * m := by
  rcases h with ⟨_, rfl, rfl⟩ | ⟨_, _, _, _, _, h, _⟩
  · simp
  · exact h
theorem OwnM.lt {m : Nat} {w : World} {v : Value} {n : Nat} {cs : List Value} (h : OwnM m w v n cs) : ∀ k, v.ownBlock = some k → k < w.heap.size := by
  rcases h with ⟨rfl, _⟩ | ⟨g, _, rfl, _, _, _, _, _, h⟩
  · intro k hk; cases hk
  · intro k hk; cases hk; exact h
theorem OwnM.kept {m : Nat} {w w' : World} {v : Value} {n : Nat} {cs : List Value} (h : OwnM m w v n cs) (hs : w.heap.size ≤ w'.heap.size) (hb : ∀ g, v.ownBlock = some g → w'.heap[g]? = w.heap[g]?) : OwnM m w' v n cs := by
  rcases h with h | ⟨g, cap, rfl, h2, h3, h0, h4, h5, h6⟩
  · exact .inl h
  · exact .inr ⟨g, cap, rfl, h2, h3, h0, rangeAt_heap h4 (hb g rfl), there_heap h5 (hb g rfl), by omega⟩
theorem OwnM.below {m : Nat} {w w' : World} {v : Value} {n : Nat} {cs : List Value} (h : OwnM m w v n cs) (hb : Below w.heap.size w w') : OwnM m w' v n cs :=
  h.kept hb.size fun g hg => hb.block g (h.lt g hg)
theorem OwnM.drew {m : Nat} {w : World} {v : Value} {n : Nat} {cs : List Value} (h : OwnM m w v n cs) : OwnM m w.drew v n cs := h
theorem OwnM.alloc {m : Nat} {w : World} {v : Value} {n : Nat} {cs : List Value} (h : OwnM m w v n cs) (o : Obj) : OwnM m (w.alloc o) v n cs := h.below ((Below.refl _ _).alloc (Nat.le_refl _) _)
theorem OwnM.keep {m : Nat} {S : Nat → Prop} {w w' : World} {v : Value} {n : Nat} {cs : List Value} (h : OwnM m w v n cs) (hb : Keep S w w') (hne : ∀ k, v.ownBlock = some k → ¬ S k) : OwnM m w' v n cs :=
  h.kept hb.size fun g hg => hb.block g (h.lt g hg) (hne g hg)
theorem OwnM.shape {m : Nat} {w : World} {v : Value} {n : Nat} {cs : List Value} (h : OwnM m w v n cs) : ∃ a cap, v = .slice a n cap ∧ n ≤ cap ∧ cap ≤ 9223372036854775807 := by
  rcases h with ⟨rfl, rfl, _⟩ | ⟨g, cap, rfl, h2, h3, _⟩
  · exact ⟨none, 0, rfl, Nat.le_refl _, by omega⟩
  · exact ⟨_, cap, rfl, h2, by simp only [maxLen] at h3; omega⟩
theorem OwnM.cell {m : Nat} {w : World} {v : Value} {n : Nat} {cs : List Value} (h : OwnM m w v n cs) {j : Nat} {u : Value} (hu : cs[j]? = some u) : ∃ g cap, v = .slice (some ⟨g, 0, none⟩) n cap ∧ w.cell? ⟨g, j, none⟩ = some u ∧ g < w.heap.size := by
  rcases h with ⟨_, _, rfl⟩ | ⟨g, cap, rfl, _, _, _, h4, _, h6⟩
  · simp at hu
  · refine ⟨g, cap, rfl, ?_, h6⟩
    have := h4 j u hu
    rwa [Nat.zero_add] at this
theorem run_append_M {P : Program} {m : Nat} (w : World) (t tx ty e : TypeId) (i : TypeInfo) (z : Value) (ht : P.underlying t = some (.slice e)) (hi : P.info? e = some i) (hz : i.zero = some z)
    (hsize : i.size = m) (hzs : z.cells.size = m) (v : Value) (n0 : Nat) (cs : List Value) (hown : OwnM m w v n0 cs) (x : Value) (n : Nat) (news : List Value) (hs : Src P m tx x n news w)
    (hbytes : (n0 + n) * i.bytes ≤ 140737488355328) (h63 : n0 + n ≤ maxLen) (hpos : v = .slice none 0 0 → 0 < n) :
    ∃ v' w', (Builtin.append_ #[t, tx] ty #[v, x]).run P w = .ok v' w' ∧ OwnM m w' v' (n0 + n) (cs ++ news) ∧ Grow w w' v v' := by
  have hn : news.length = n * m := hs.newsLen
  have hcl := hown.len
  have h63' : n0 + n ≤ 9223372036854775807 := by simp only [maxLen] at h63; omega
  have grow : ∀ (b : Option Addr) (old : Nat), old < n0 + n → v = .slice b n0 old → (Builtin.firstCells m n0 (.slice b n0 old)).run P w.drew = .ok cs.toArray w.drew →
      ∃ v' w', (Builtin.append_ #[t, tx] ty #[v, x]).run P w = .ok v' w' ∧ OwnM m w' v' (n0 + n) (cs ++ news) ∧ Grow w w' v v' := by
    intro b old ho hv hold
    have hr := run_append_grow_src (P := P) w t tx ty e i z ht hi hz b n0 old cs (by rw [hsize]; exact hold) x n news (by rw [hsize]; exact hs) ho (by omega) (growslice_fits ho hbytes)
    have hge := grownCap_ge w (n0 + n) old e
    have hcm : grownCap w (n0 + n) old e ≤ maxLen := grownCap_le_maxLen w (n0 + n) old e h63
    have hnew : (w.drew.alloc (.cells ((cs ++ news).toArray ++ Builtin.zeroCells z.cells (grownCap w (n0 + n) old e - (n0 + n))) e)).heap[w.heap.size]? = some (.cells ((cs ++ news).toArray ++ Builtin.zeroCells z.cells (grownCap w (n0 + n) old e - (n0 + n))) e (0, 0)) := heap_alloc_new w.drew _
    refine ⟨.slice (some ⟨w.heap.size, 0, none⟩) (n0 + n) (grownCap w (n0 + n) old e), w.drew.alloc (.cells ((cs ++ news).toArray ++ Builtin.zeroCells z.cells (grownCap w (n0 + n) old e - (n0 + n))) e), by rw [hv]; exact hr, .inr ⟨w.heap.size, grownCap w (n0 + n) old e, rfl, hge, hcm, ?_, ?_, ?_, ?_⟩, ⟨rfl, rfl, rfl, by rw [size_alloc]; exact Nat.le_succ w.heap.size, fun k hk _ => Below.heap_alloc w.drew _ k hk, .inr ⟨fun k hk => ?_, fun k hk => Below.heap_alloc w.drew _ k hk⟩⟩⟩
    · rw [List.length_append, hn, hcl, Nat.add_mul]
    · intro j u hj
      rw [cell_of_row _ _ _ _ _ _ hnew, Nat.zero_add]
      have hj' : j < (cs ++ news).length := (List.getElem?_eq_some_iff.1 hj).1
      rw [Array.getElem?_append_left (by simpa using hj')]
      simpa using hj
    · refine there_of_row hnew 0 _ ?_
      simp only [Array.size_append, List.size_toArray, size_zeroCells, hzs, List.length_append, hn, hcl]
      rw [← Nat.add_mul, ← Nat.add_mul]
      exact Nat.le_of_eq (by rw [Nat.zero_add]; congr 1; omega)
    · rw [size_alloc]; exact Nat.lt_succ_self _
    · have hk : some w.heap.size = some k := hk
      injection hk with hk
      omega
  rcases hown with ⟨rfl, rfl, rfl⟩ | ⟨g, cap, rfl, h2, h3, h0, h4, h5, h6⟩
  · exact grow none 0 (by have := hpos rfl; omega) rfl (run_firstCells_none w.drew m 0 0 0)
  · by_cases hroom : n0 + n ≤ cap
    · have hle : n0 * m + n * m ≤ cap * m := by rw [← Nat.add_mul]; exact Nat.mul_le_mul_right _ hroom
      have hr := run_append_room_src (P := P) w t tx ty e i ht hi g 0 n0 cap x n news (by rw [hsize]; exact hs) hroom
        (fun j hj => by rw [hsize]; exact by have := (h5 (n0 * m + j) (by omega)).1; simpa [Nat.add_assoc] using this)
        (fun j hj => by rw [hsize]; exact by have := (h5 (n0 * m + j) (by omega)).2; simpa [Nat.add_assoc] using this)
      rw [hsize, Nat.zero_add] at hr
      have ht' : w.there g (n0 * m) news.length := fun j hj => by have := h5 (n0 * m + j) (by omega); simpa using this
      refine ⟨_, _, hr, .inr ⟨g, cap, rfl, hroom, h3, ?_, ?_, World.there_setCells h5 _ _ _, ?_⟩, ?_⟩
      · rw [List.length_append, hn, h0, Nat.add_mul]
      · intro j u hj
        by_cases hjl : j < cs.length
        · rw [List.getElem?_append_left hjl] at hj
          exact World.rangeAt_setCells_apart h4 g (n0 * m) news (.inr (.inl (by omega))) j u hj
        · rw [List.getElem?_append_right (by omega)] at hj
          have := World.rangeAt_setCells_same w g (n0 * m) news ht' (j - cs.length) u hj
          rwa [show n0 * m + (j - cs.length) = 0 + j from by omega] at this
      · have := (But.setCells news (n0 * m) (But.refl g w)).size; omega
      · have hb := But.setCells news (n0 * m) (But.refl g w)
        exact ⟨hb.os, hb.tape, hb.output, hb.size, fun k hk hne => hb.block k hk (fun e => hne (by rw [e]; rfl)), .inl rfl⟩
    · refine grow (some ⟨g, 0, none⟩) cap (by omega) rfl ?_
      exact run_firstCells_some w.drew m n0 ⟨g, 0, none⟩ n0 cap cs h0 (fun j u hj => by rw [Addr.add_mid]; exact h4 j u hj)
end Go.Proofs.YtjcapdkibbjmiaaGreatDoor

namespace Go.Proofs.YtjcapdkibbjmiaaGreatDoor
open Go.RowKit Go.Shelf
theorem append_oneL {m : Nat} (t e : TypeId) (z : Value) (by_ : Nat) (hu : Tryz.prog.underlying t = some (.slice e)) (hinfo : (Tryz.prog.info? e).map (fun i => (i.zero, i.size, i.bytes)) = some (some z, m, by_)) (hzs : z.cells.size = m)
    (w : World) (v : Value) (n0 : Nat) (cs : List Value) (xs : List Value) (hm : xs.length = m) (h1 : ∀ u ∈ xs, u.oneCell' = true) (hown : OwnM m w v n0 cs) (hb : (n0 + 1) * by_ ≤ 140737488355328) (hlen : n0 + 1 ≤ maxLen) :
    ∃ v' w', (Builtin.append_ #[t, t] t #[v, .slice (some ⟨w.heap.size, 0, none⟩) 1 1]).run Tryz.prog (w.alloc (.cells xs.toArray e)) = .ok v' w' ∧ OwnM m w' v' (n0 + 1) (cs ++ xs) ∧ Grow w w' v v' := by
  obtain ⟨i0, hi, hz0, hz1, hz2⟩ := info_parts hinfo
  have hsrc : Src Tryz.prog m t (.slice (some ⟨w.heap.size, 0, none⟩) 1 1) 1 xs (w.alloc (.cells xs.toArray e)) :=
    Src.ofSlice _ hu ⟨w.heap.size, 0, none⟩ 1 1 xs (by rw [hm, Nat.one_mul]) (fun j u hj => by
      rw [Addr.add_mid, cell_of_row _ _ _ _ _ _ (heap_alloc_new w _), Nat.zero_add]; simpa using hj) h1
  obtain ⟨v', w', a1, a2, a3⟩ := run_append_M (P := Tryz.prog) (w.alloc (.cells xs.toArray e)) t t t e i0 z hu hi hz0 hz1 hzs v n0 cs (hown.alloc _) _ 1 xs hsrc
    (by rw [hz2]; exact hb) hlen (fun _ => by omega)
  have hs := a3.size
  rw [size_alloc] at hs
  refine ⟨v', w', a1, a2, ⟨a3.os, a3.tape, a3.output, by omega, fun k hk hne => (a3.old k (by rw [size_alloc]; omega) hne).trans (Below.heap_alloc w _ k hk), ?_⟩⟩
  rcases a3.alt with h4 | ⟨h4, h5⟩
  · exact .inl h4
  · refine .inr ⟨fun k hk => ?_, fun k hk => (h5 k (by rw [size_alloc]; omega)).trans (Below.heap_alloc w _ k hk)⟩
    have := h4 k hk
    rw [size_alloc] at this
    omega
def prs (l : List (Nat × Nat)) : List Value := l.flatMap fun q => [.int .i64 (q.1 : Int), .int .i64 (q.2 : Int)]
theorem prs_append (l m : List (Nat × Nat)) : prs (l ++ m) = prs l ++ prs m := List.flatMap_append
theorem prs_get : ∀ {l : List (Nat × Nat)} {j : Nat} {q : Nat × Nat}, l[j]? = some q → (prs l)[j * 2]? = some (.int .i64 (q.1 : Int)) ∧ (prs l)[j * 2 + 1]? = some (.int .i64 (q.2 : Int))
  | [], j, q, h => by simp at h
  | a :: l, 0, q, h => by
    obtain rfl : a = q := by simpa using h
    exact ⟨rfl, rfl⟩
  | a :: l, j + 1, q, h => by
    have := prs_get (l := l) (j := j) (by simpa using h)
    rw [show (j + 1) * 2 = j * 2 + 2 from by omega]
    exact this
abbrev OwnP (w : World) (v : Value) (l : List (Nat × Nat)) : Prop := OwnM 2 w v l.length (prs l)
theorem infoSp8 : (Tryz.prog.info? 60).map (fun i => (i.zero, i.size, i.bytes)) = some (some (.agg #[.int .i64 0, .int .i64 0]), 2, 16) := by kernel_rfl
theorem append_pair (w : World) (v : Value) (l : List (Nat × Nat)) (x y : Nat) (h : OwnP w v l) (hl : l.length ≤ 1099511627776) :
    ∃ v' w', (Builtin.append_ #[47, 47] 47 #[v, .slice (some ⟨w.heap.size, 0, none⟩) 1 1]).run Tryz.prog (w.alloc (.cells #[.int .i64 (x : Int), .int .i64 (y : Int)] 60)) = .ok v' w' ∧ OwnP w' v' (l ++ [(x, y)]) ∧ Grow w w' v v' := by
  obtain ⟨v', w', h1, h2, h3⟩ := append_oneL 47 60 (.agg #[.int .i64 0, .int .i64 0]) 16 Tryz.underlying47 infoSp8 rfl w v l.length (prs l) [.int .i64 (x : Int), .int .i64 (y : Int)] rfl (fun u hu => by
    simp only [List.mem_cons, List.not_mem_nil, or_false] at hu
    rcases hu with rfl | rfl <;> rfl) h (by omega) (by rw [maxLen]; omega)
  refine ⟨v', w', h1, ?_, h3⟩
  unfold OwnP
  rw [prs_append, List.length_append]; exact h2
structure Col (W : World) (gb : Nat) (t : TypeId) (v : Value) (L : List (Nat × Nat)) : Prop where
  box : Boxed W gb t v
  own : OwnP W v L
  ne : v.ownBlock ≠ some gb
def Col.F (gb : Nat) (v : Value) : Nat → Prop := fun k => k = gb ∨ v.ownBlock = some k
theorem Col.keep {W W' : World} {gb : Nat} {t : TypeId} {v : Value} {L : List (Nat × Nat)} {S : Nat → Prop} (h : Col W gb t v L) (hk : Keep S W W') (hs : ∀ k, Col.F gb v k → ¬ S k) : Col W' gb t v L :=
  ⟨h.box.keepF hk (hs _ (.inl rfl)), h.own.keep hk fun k e => hs k (.inr e), h.ne⟩
theorem Col.lt {W : World} {gb : Nat} {t : TypeId} {v : Value} {L : List (Nat × Nat)} (h : Col W gb t v L) : ∀ k, Col.F gb v k → k < W.heap.size := by
  rintro k (rfl | e)
  · exact h.box.lt
  · exact h.own.lt k e
theorem Col.push {W w' : World} {gb : Nat} {t : TypeId} {v v' : Value} {L L' : List (Nat × Nat)} (h : Col W gb t v L) (h1 : OwnP w' v' L') (g : Grow W w' v v') :
    Boxed w' gb t v ∧ Col (w'.setCell ⟨gb, 0, none⟩ v') gb t v' L' ∧ Mvs (Col.F gb v) W (w'.setCell ⟨gb, 0, none⟩ v') (Col.F gb v') := by
  have b1 := h.box.keepF g.keep h.ne
  have hne : v'.ownBlock ≠ some gb := fun e => by
    rcases g.alt with q | ⟨q, _⟩
    · exact h.ne (by rw [← q]; exact e)
    · have := q gb e; have := h.box.lt; omega
  refine ⟨b1, ⟨b1.set v', ?_, hne⟩, ?_, ?_⟩
  · exact h1.keep (Keep.ofSet (S := fun k => k = gb) w' gb 0 v' rfl) fun k hk e => hne (e ▸ hk)
  · exact (g.keep.mono (T := Col.F gb v) fun k _ e => .inr e).trans (Keep.ofSet (S := fun k => k = gb) w' gb 0 v' rfl) fun k _ e => .inl e
  · rintro k (e | e)
    · exact .inl (.inl e)
    · rcases g.alt with q | ⟨q, _⟩
      · exact .inl (.inr (by rw [← q]; exact e))
      · exact .inr (q k e)
end Go.Proofs.YtjcapdkibbjmiaaGreatDoor

namespace Go.Proofs.YtjcapdkibbjmiaaGreatDoor
open Go.RowKit Go.Shelf
theorem OwnM.set {m : Nat} {w : World} {g n c : Nat} {cs : List Value} (h : OwnM m w (.slice (some ⟨g, 0, none⟩) n c) n cs) {j : Nat} (hj : j < cs.length) (u : Value) :
    OwnM m (w.setCell ⟨g, j, none⟩ u) (.slice (some ⟨g, 0, none⟩) n c) n (cs.set j u) ∧ (∃ y, w.cell? ⟨g, j, none⟩ = some y) ∧ w.frozen? ⟨g, j, none⟩ = false := by
  rcases h with ⟨h, _⟩ | ⟨g', cap', h, h2, h3, h0, h4, h5, h6⟩
  · cases h
  injection h with e1 e2 e3
  injection e1 with e1
  injection e1 with e1
  subst e1 e3
  have ht := h5 j (by have := Nat.mul_le_mul_right m h2; omega)
  rw [Nat.zero_add] at ht
  obtain ⟨y, hy⟩ := Option.isSome_iff_exists.1 ht.1
  refine ⟨.inr ⟨g, c, rfl, h2, h3, by rw [List.length_set]; exact h0, ?_, ?_, by simpa [World.setCell] using h6⟩, ⟨y, hy⟩, ht.2⟩
  · intro k u' hk
    rw [List.getElem?_set] at hk
    rw [Nat.zero_add]
    split at hk
    · next e =>
      subst e
      (try split at hk) <;> first | (rw [World.cell?_setCell_same _ _ _ (by rw [hy]; try rfl)]; exact hk) | cases hk
    · next e =>
      rw [World.cell?_setCell_other _ _ _ _ (by simp; try exact fun e' => e e'.symm)]
      have := h4 k u' hk
      rwa [Nat.zero_add] at this
  · intro k hk
    have := h5 k hk
    rw [World.frozen?_setCell]
    refine ⟨?_, this.2⟩
    by_cases e : j = 0 + k
    · rw [← e, World.cell?_setCell_same _ _ _ (by rw [hy]; try rfl)]; rfl
    · rw [World.cell?_setCell_other _ _ _ _ (by simp; try exact fun e' => e (by omega))]; exact this.1
structure Wr (ρ : Nat → Nat) (r : Nat) (w w' : World) : Prop where
  os : w'.os = w.os
  tape : w'.tape = w.tape
  output : w'.output = w.output
  size : w.heap.size ≤ w'.heap.size
  block : ∀ k, k < w.heap.size → ρ k ≠ r → w'.heap[k]? = w.heap[k]?
def rx (ρ : Nat → Nat) (w : World) (r : Nat) : Nat → Nat := fun k => if k < w.heap.size then ρ k else r
theorem rx_old {ρ : Nat → Nat} {w : World} {r k : Nat} (h : k < w.heap.size) : rx ρ w r k = ρ k := if_pos h
theorem rx_new {ρ : Nat → Nat} {w : World} {r k : Nat} (h : w.heap.size ≤ k) : rx ρ w r k = r := if_neg (by omega)
theorem Wr.grow {ρ : Nat → Nat} {r : Nat} {w w' : World} {v v' : Value} (hg : Grow w w' v v') (hr : ∀ k, v.ownBlock = some k → ρ k = r) : Wr ρ r w w' :=
  ⟨hg.os, hg.tape, hg.output, hg.size, fun k hk hne => hg.old k hk (fun e => hne (hr k e))⟩
theorem Wr.setCell {ρ : Nat → Nat} {r : Nat} {w w' : World} (h : Wr ρ r w w') {g : Nat} (hg : g < w.heap.size → ρ g = r) (o : Nat) (u : Value) : Wr ρ r w (w'.setCell ⟨g, o, none⟩ u) :=
  ⟨h.os, h.tape, h.output, by simpa [World.setCell] using h.size, fun k hk hne => (heap_setCell_other w' ⟨g, o, none⟩ k u (fun e => hne (by subst e; exact hg hk))).trans (h.block k hk hne)⟩
theorem Wr.refl (ρ : Nat → Nat) (r : Nat) (w : World) : Wr ρ r w w := ⟨rfl, rfl, rfl, Nat.le_refl _, fun _ _ _ => rfl⟩
theorem Wr.below {ρ : Nat → Nat} {r : Nat} {w w' : World} (h : Below w.heap.size w w') : Wr ρ r w w' := ⟨h.os, h.tape, h.output, h.size, fun k hk _ => h.block k hk⟩
theorem Wr.own {ρ : Nat → Nat} {r : Nat} {w w' : World} {v v' : Value} (hg : Grow w w' v v') (hr : ∀ k, v.ownBlock = some k → ρ k = r) (hl : ∀ k, v.ownBlock = some k → k < w.heap.size) : ∀ k, v'.ownBlock = some k → rx ρ w r k = r := fun k e => by
  rcases hg.alt with e1 | ⟨e1, _⟩
  · rw [e1] at e; rw [rx_old (hl k e)]; exact hr k e
  · exact rx_new (e1 k e)
end Go.Proofs.YtjcapdkibbjmiaaGreatDoor
