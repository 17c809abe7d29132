import Derived.Test.YtblmaokonhdjaaaGreatDoorPkO52
import Derived.Test.YtblmaokonhdjaaaGreatDoorPkSP5
import Derived.Test.YtblmaokonhdjaaaGreatDoorPkRX1
import Derived.Deep.RegionHeld3
namespace Go.Proofs.YtblmaokonhdjaaaGreatDoor
open Go.RowKit
/-- the slice v of n elements of m cells each owns the cells cs in a row of its own -/
def OwnM (m : Nat) (w : World) (v : Value) (n : Nat) (cs : List Value) : Prop :=
  (v = .slice none 0 0 ∧ n = 0 ∧ cs = []) ∨
  ∃ g cap, v = .slice (some ⟨g, 0, none⟩) n cap ∧ n ≤ cap ∧ cap ≤ maxLen ∧ cs.length = n * m ∧ w.rangeAt g 0 cs ∧ w.there g 0 (cap * m) ∧ g < w.heap.size
theorem OwnM.nil (m : Nat) (w : World) : OwnM m w (.slice none 0 0) 0 [] := .inl ⟨rfl, rfl, rfl⟩
theorem OwnM.len {m : Nat} {w : World} {v : Value} {n : Nat} {cs : List Value} (h : OwnM m w v n cs) : cs.length = n * m := by
  rcases h with ⟨_, rfl, rfl⟩ | ⟨_, _, _, _, _, h, _⟩
  · simp
  · exact h
theorem OwnM.lt {m : Nat} {w : World} {v : Value} {n : Nat} {cs : List Value} (h : OwnM m w v n cs) : ∀ k, v.ownBlock = some k → k < w.heap.size := by
  rcases h with ⟨rfl, _⟩ | ⟨g, _, rfl, _, _, _, _, _, h⟩
  · intro k hk; cases hk
  · intro k hk; cases hk; exact h
theorem OwnM.kept {m : Nat} {w w' : World} {v : Value} {n : Nat} {cs : List Value} (h : OwnM m w v n cs) (hs : w.heap.size ≤ w'.heap.size) (hb : ∀ g, v.ownBlock = some g → w'.heap[g]? = w.heap[g]?) : OwnM m w' v n cs := by
  rcases h with h | ⟨g, cap, rfl, h2, h3, h0, h4, h5, h6⟩
  · exact .inl h
  · exact .inr ⟨g, cap, rfl, h2, h3, h0, rangeAt_heap h4 (hb g rfl), there_heap h5 (hb g rfl), by omega⟩
theorem OwnM.below {m : Nat} {w w' : World} {v : Value} {n : Nat} {cs : List Value} (h : OwnM m w v n cs) (hb : Below w.heap.size w w') : OwnM m w' v n cs :=
  h.kept hb.size fun g hg => hb.block g (h.lt g hg)
theorem OwnM.drew {m : Nat} {w : World} {v : Value} {n : Nat} {cs : List Value} (h : OwnM m w v n cs) : OwnM m w.drew v n cs := h
theorem OwnM.drewN {m : Nat} {w : World} {v : Value} {n : Nat} {cs : List Value} (h : OwnM m w v n cs) (k : Nat) : OwnM m (w.drewN k) v n cs := h
theorem OwnM.alloc {m : Nat} {w : World} {v : Value} {n : Nat} {cs : List Value} (h : OwnM m w v n cs) (o : Obj) : OwnM m (w.alloc o) v n cs := h.below ((Below.refl _ _).alloc (Nat.le_refl _) _)
theorem OwnM.keep {m : Nat} {S : Nat → Prop} {w w' : World} {v : Value} {n : Nat} {cs : List Value} (h : OwnM m w v n cs) (hb : Keep S w w') (hne : ∀ k, v.ownBlock = some k → ¬ S k) : OwnM m w' v n cs :=
  h.kept hb.size fun g hg => hb.block g (h.lt g hg) (hne g hg)
theorem OwnM.shape {m : Nat} {w : World} {v : Value} {n : Nat} {cs : List Value} (h : OwnM m w v n cs) : ∃ a cap, v = .slice a n cap ∧ n ≤ cap ∧ cap ≤ 9223372036854775807 := by
  rcases h with ⟨rfl, rfl, _⟩ | ⟨g, cap, rfl, h2, h3, _⟩
  · exact ⟨none, 0, rfl, Nat.le_refl _, by omega⟩
  · exact ⟨_, cap, rfl, h2, by simp only [maxLen] at h3; omega⟩
/-- a cell of it -/
theorem OwnM.cell {m : Nat} {w : World} {v : Value} {n : Nat} {cs : List Value} (h : OwnM m w v n cs) {j : Nat} {u : Value} (hu : cs[j]? = some u) : ∃ g cap, v = .slice (some ⟨g, 0, none⟩) n cap ∧ w.cell? ⟨g, j, none⟩ = some u ∧ g < w.heap.size := by
  rcases h with ⟨_, _, rfl⟩ | ⟨g, cap, rfl, _, _, _, h4, _, h6⟩
  · simp at hu
  · refine ⟨g, cap, rfl, ?_, h6⟩
    have := h4 j u hu
    rwa [Nat.zero_add] at this
/-- a beginning of it -/
theorem OwnM.cut {m : Nat} {w : World} {g n c : Nat} {cs : List Value} (h : OwnM m w (.slice (some ⟨g, 0, none⟩) n c) n cs) {k : Nat} (hk : k ≤ n) : OwnM m w (.slice (some ⟨g, 0, none⟩) k c) k (cs.take (k * m)) := by
  rcases h with ⟨h, _⟩ | ⟨g', cap', h, h2, h3, h0, h4, h5, h6⟩
  · cases h
  · injection h with e1 e2 e3
    injection e1 with e1
    injection e1 with e1
    subst e1 e3
    refine .inr ⟨g, c, rfl, by omega, h3, ?_, fun j v hv => h4 j v ?_, h5, h6⟩
    · rw [List.length_take, h0]
      exact Nat.min_eq_left (Nat.mul_le_mul_right _ hk)
    · rw [List.getElem?_take] at hv
      split at hv
      · exact hv
      · cases hv
/-- APPEND onto it, from whatever source -/
theorem run_append_M {P : Program} {m : Nat} (w : World) (t tx ty e : TypeId) (i : TypeInfo) (z : Value) (ht : P.underlying t = some (.slice e)) (hi : P.info? e = some i) (hz : i.zero = some z)
    (hsize : i.size = m) (hzs : z.cells.size = m) (v : Value) (n0 : Nat) (cs : List Value) (hown : OwnM m w v n0 cs) (x : Value) (n : Nat) (news : List Value) (hs : Src P m tx x n news w)
    (hbytes : (n0 + n) * i.bytes ≤ 140737488355328) (h63 : n0 + n ≤ maxLen) (hpos : v = .slice none 0 0 → 0 < n) :
    ∃ v' w', (Builtin.append_ #[t, tx] ty #[v, x]).run P w = .ok v' w' ∧ OwnM m w' v' (n0 + n) (cs ++ news) ∧ Grow w w' v v' := by
  have hn : news.length = n * m := hs.newsLen
  have hcl := hown.len
  have h63' : n0 + n ≤ 9223372036854775807 := by simp only [maxLen] at h63; omega
  have grow : ∀ (b : Option Addr) (old : Nat), old < n0 + n → v = .slice b n0 old → (Builtin.firstCells m n0 (.slice b n0 old)).run P w.drew = .ok cs.toArray w.drew →
      ∃ v' w', (Builtin.append_ #[t, tx] ty #[v, x]).run P w = .ok v' w' ∧ OwnM m w' v' (n0 + n) (cs ++ news) ∧ Grow w w' v v' := by
    intro b old ho hv hold
    have hr := run_append_grow_src (P := P) w t tx ty e i z ht hi hz b n0 old cs (by rw [hsize]; exact hold) x n news (by rw [hsize]; exact hs) ho (by omega) (growslice_fits ho hbytes)
    have hge := grownCap_ge w (n0 + n) old e
    have hcm : grownCap w (n0 + n) old e ≤ maxLen := grownCap_le_maxLen w (n0 + n) old e h63
    have hnew : (w.drew.alloc (.cells ((cs ++ news).toArray ++ Builtin.zeroCells z.cells (grownCap w (n0 + n) old e - (n0 + n))) e)).heap[w.heap.size]? = some (.cells ((cs ++ news).toArray ++ Builtin.zeroCells z.cells (grownCap w (n0 + n) old e - (n0 + n))) e (0, 0)) := heap_alloc_new w.drew _
    refine ⟨.slice (some ⟨w.heap.size, 0, none⟩) (n0 + n) (grownCap w (n0 + n) old e), w.drew.alloc (.cells ((cs ++ news).toArray ++ Builtin.zeroCells z.cells (grownCap w (n0 + n) old e - (n0 + n))) e), by rw [hv]; exact hr, .inr ⟨w.heap.size, grownCap w (n0 + n) old e, rfl, hge, hcm, ?_, ?_, ?_, ?_⟩, ⟨rfl, rfl, rfl, by rw [size_alloc]; exact Nat.le_succ w.heap.size, fun k hk _ => Below.heap_alloc w.drew _ k hk, .inr ⟨fun k hk => ?_, fun k hk => Below.heap_alloc w.drew _ k hk⟩⟩⟩
    · rw [List.length_append, hn, hcl, Nat.add_mul]
    · intro j u hj
      rw [cell_of_row _ _ _ _ _ _ hnew, Nat.zero_add]
      have hj' : j < (cs ++ news).length := (List.getElem?_eq_some_iff.1 hj).1
      rw [Array.getElem?_append_left (by simpa using hj')]
      simpa using hj
    · refine there_of_row hnew 0 _ ?_
      simp only [Array.size_append, List.size_toArray, size_zeroCells, hzs, List.length_append, hn, hcl]
      rw [← Nat.add_mul, ← Nat.add_mul]
      exact Nat.le_of_eq (by rw [Nat.zero_add]; congr 1; omega)
    · rw [size_alloc]; exact Nat.lt_succ_self _
    · have hk : some w.heap.size = some k := hk
      injection hk with hk
      omega
  rcases hown with ⟨rfl, rfl, rfl⟩ | ⟨g, cap, rfl, h2, h3, h0, h4, h5, h6⟩
  · exact grow none 0 (by have := hpos rfl; omega) rfl (run_firstCells_none w.drew m 0 0 0)
  · by_cases hroom : n0 + n ≤ cap
    · have hle : n0 * m + n * m ≤ cap * m := by rw [← Nat.add_mul]; exact Nat.mul_le_mul_right _ hroom
      have hr := run_append_room_src (P := P) w t tx ty e i ht hi g 0 n0 cap x n news (by rw [hsize]; exact hs) hroom
        (fun j hj => by rw [hsize]; exact by have := (h5 (n0 * m + j) (by omega)).1; simpa [Nat.add_assoc] using this)
        (fun j hj => by rw [hsize]; exact by have := (h5 (n0 * m + j) (by omega)).2; simpa [Nat.add_assoc] using this)
      rw [hsize, Nat.zero_add] at hr
      have ht' : w.there g (n0 * m) news.length := fun j hj => by have := h5 (n0 * m + j) (by omega); simpa using this
      refine ⟨_, _, hr, .inr ⟨g, cap, rfl, hroom, h3, ?_, ?_, World.there_setCells h5 _ _ _, ?_⟩, ?_⟩
      · rw [List.length_append, hn, h0, Nat.add_mul]
      · intro j u hj
        by_cases hjl : j < cs.length
        · rw [List.getElem?_append_left hjl] at hj
          exact World.rangeAt_setCells_apart h4 g (n0 * m) news (.inr (.inl (by omega))) j u hj
        · rw [List.getElem?_append_right (by omega)] at hj
          have := World.rangeAt_setCells_same w g (n0 * m) news ht' (j - cs.length) u hj
          rwa [show n0 * m + (j - cs.length) = 0 + j from by omega] at this
      · have := (But.setCells news (n0 * m) (But.refl g w)).size; omega
      · have hb := But.setCells news (n0 * m) (But.refl g w)
        exact ⟨hb.os, hb.tape, hb.output, hb.size, fun k hk hne => hb.block k hk (fun e => hne (by rw [e]; rfl)), .inl rfl⟩
    · refine grow (some ⟨g, 0, none⟩) cap (by omega) rfl ?_
      exact run_firstCells_some w.drew m n0 ⟨g, 0, none⟩ n0 cap cs h0 (fun j u hj => by rw [Addr.add_mid]; exact h4 j u hj)
/-- append of one element that lies in a row of its own -/
theorem append_oneM {m : Nat} (t e : TypeId) (z : Value) (by_ : Nat) (hb64 : by_ ≤ 64) (hu : Tryz.prog.underlying t = some (.slice e)) (hinfo : (Tryz.prog.info? e).map (fun i => (i.zero, i.size, i.bytes)) = some (some z, m, by_)) (hzs : z.cells.size = m)
    (w : World) (v : Value) (n0 : Nat) (cs : List Value) (xs : List Value) (hm : xs.length = m) (h1 : ∀ u ∈ xs, u.oneCell' = true) (hown : OwnM m w v n0 cs) (hlen : n0 ≤ 2000000) :
    ∃ v' w', (Builtin.append_ #[t, t] t #[v, .slice (some ⟨w.heap.size, 0, none⟩) 1 1]).run Tryz.prog (w.alloc (.cells xs.toArray e)) = .ok v' w' ∧ OwnM m w' v' (n0 + 1) (cs ++ xs) ∧ Grow w w' v v' := by
  obtain ⟨i0, hi, hz0, hz1, hz2⟩ := info_parts hinfo
  have hsrc : Src Tryz.prog m t (.slice (some ⟨w.heap.size, 0, none⟩) 1 1) 1 xs (w.alloc (.cells xs.toArray e)) :=
    Src.ofSlice _ hu ⟨w.heap.size, 0, none⟩ 1 1 xs (by rw [hm, Nat.one_mul]) (fun j u hj => by
      rw [Addr.add_mid, cell_of_row _ _ _ _ _ _ (heap_alloc_new w _), Nat.zero_add]; simpa using hj) h1
  obtain ⟨v', w', a1, a2, a3⟩ := run_append_M (P := Tryz.prog) (w.alloc (.cells xs.toArray e)) t t t e i0 z hu hi hz0 hz1 hzs v n0 cs (hown.alloc _) _ 1 xs hsrc
    (by rw [hz2]; exact Nat.le_trans (Nat.mul_le_mul (show n0 + 1 ≤ 2000001 by omega) hb64) (by decide)) (by rw [maxLen]; omega) (fun _ => by omega)
  have hs := a3.size
  rw [size_alloc] at hs
  refine ⟨v', w', a1, a2, ⟨a3.os, a3.tape, a3.output, by omega, fun k hk hne => (a3.old k (by rw [size_alloc]; omega) hne).trans (Below.heap_alloc w _ k hk), ?_⟩⟩
  rcases a3.alt with h4 | ⟨h4, h5⟩
  · exact .inl h4
  · refine .inr ⟨fun k hk => ?_, fun k hk => (h5 k (by rw [size_alloc]; omega)).trans (Below.heap_alloc w _ k hk)⟩
    have := h4 k hk
    rw [size_alloc] at this
    omega
end Go.Proofs.YtblmaokonhdjaaaGreatDoor

namespace Go.Proofs.YtblmaokonhdjaaaGreatDoor
open Go.RowKit Go.Shelf
/-- append of one element that lies in a row of its own, to a list of whatever length -/
theorem append_oneL {m : Nat} (t e : TypeId) (z : Value) (by_ : Nat) (hu : Tryz.prog.underlying t = some (.slice e)) (hinfo : (Tryz.prog.info? e).map (fun i => (i.zero, i.size, i.bytes)) = some (some z, m, by_)) (hzs : z.cells.size = m)
    (w : World) (v : Value) (n0 : Nat) (cs : List Value) (xs : List Value) (hm : xs.length = m) (h1 : ∀ u ∈ xs, u.oneCell' = true) (hown : OwnM m w v n0 cs) (hb : (n0 + 1) * by_ ≤ 140737488355328) (hlen : n0 + 1 ≤ maxLen) :
    ∃ v' w', (Builtin.append_ #[t, t] t #[v, .slice (some ⟨w.heap.size, 0, none⟩) 1 1]).run Tryz.prog (w.alloc (.cells xs.toArray e)) = .ok v' w' ∧ OwnM m w' v' (n0 + 1) (cs ++ xs) ∧ Grow w w' v v' := by
  obtain ⟨i0, hi, hz0, hz1, hz2⟩ := info_parts hinfo
  have hsrc : Src Tryz.prog m t (.slice (some ⟨w.heap.size, 0, none⟩) 1 1) 1 xs (w.alloc (.cells xs.toArray e)) :=
    Src.ofSlice _ hu ⟨w.heap.size, 0, none⟩ 1 1 xs (by rw [hm, Nat.one_mul]) (fun j u hj => by
      rw [Addr.add_mid, cell_of_row _ _ _ _ _ _ (heap_alloc_new w _), Nat.zero_add]; simpa using hj) h1
  obtain ⟨v', w', a1, a2, a3⟩ := run_append_M (P := Tryz.prog) (w.alloc (.cells xs.toArray e)) t t t e i0 z hu hi hz0 hz1 hzs v n0 cs (hown.alloc _) _ 1 xs hsrc
    (by rw [hz2]; exact hb) hlen (fun _ => by omega)
  have hs := a3.size
  rw [size_alloc] at hs
  refine ⟨v', w', a1, a2, ⟨a3.os, a3.tape, a3.output, by omega, fun k hk hne => (a3.old k (by rw [size_alloc]; omega) hne).trans (Below.heap_alloc w _ k hk), ?_⟩⟩
  rcases a3.alt with h4 | ⟨h4, h5⟩
  · exact .inl h4
  · refine .inr ⟨fun k hk => ?_, fun k hk => (h5 k (by rw [size_alloc]; omega)).trans (Below.heap_alloc w _ k hk)⟩
    have := h4 k hk
    rw [size_alloc] at this
    omega
/-- pairs of numbers, as cells -/
def prs (l : List (Nat × Nat)) : List Value := l.flatMap fun q => [.int .i64 (q.1 : Int), .int .i64 (q.2 : Int)]
theorem prs_len (l : List (Nat × Nat)) : (prs l).length = l.length * 2 := by
  induction l with
  | nil => rfl
  | cons q l ih => rw [prs, List.flatMap_cons, List.length_append, ← prs, ih]; simp; omega
theorem prs_append (l m : List (Nat × Nat)) : prs (l ++ m) = prs l ++ prs m := List.flatMap_append
theorem prs_get : ∀ {l : List (Nat × Nat)} {j : Nat} {q : Nat × Nat}, l[j]? = some q → (prs l)[j * 2]? = some (.int .i64 (q.1 : Int)) ∧ (prs l)[j * 2 + 1]? = some (.int .i64 (q.2 : Int))
  | [], j, q, h => by simp at h
  | a :: l, 0, q, h => by
    obtain rfl : a = q := by simpa using h
    exact ⟨rfl, rfl⟩
  | a :: l, j + 1, q, h => by
    have := prs_get (l := l) (j := j) (by simpa using h)
    rw [show (j + 1) * 2 = j * 2 + 2 from by omega]
    exact this
/-- a list of pairs that is one's own -/
abbrev OwnP (w : World) (v : Value) (l : List (Nat × Nat)) : Prop := OwnM 2 w v l.length (prs l)
theorem infoSp8 : (Tryz.prog.info? 50).map (fun i => (i.zero, i.size, i.bytes)) = some (some (.agg #[.int .i64 0, .int .i64 0]), 2, 16) := by kernel_rfl
theorem append_pair (w : World) (v : Value) (l : List (Nat × Nat)) (x y : Nat) (h : OwnP w v l) (hl : l.length ≤ 1099511627776) :
    ∃ v' w', (Builtin.append_ #[75, 75] 75 #[v, .slice (some ⟨w.heap.size, 0, none⟩) 1 1]).run Tryz.prog (w.alloc (.cells #[.int .i64 (x : Int), .int .i64 (y : Int)] 50)) = .ok v' w' ∧ OwnP w' v' (l ++ [(x, y)]) ∧ Grow w w' v v' := by
  obtain ⟨v', w', h1, h2, h3⟩ := append_oneL 75 50 (.agg #[.int .i64 0, .int .i64 0]) 16 Tryz.underlying75 infoSp8 rfl w v l.length (prs l) [.int .i64 (x : Int), .int .i64 (y : Int)] rfl (fun u hu => by
    simp only [List.mem_cons, List.not_mem_nil, or_false] at hu
    rcases hu with rfl | rfl <;> rfl) h (by omega) (by rw [maxLen]; omega)
  refine ⟨v', w', h1, ?_, h3⟩
  unfold OwnP
  rw [prs_append, List.length_append]; exact h2
/-- a variable that holds a list of pairs of its own, t the list's type -/
structure Col (W : World) (gb : Nat) (t : TypeId) (v : Value) (L : List (Nat × Nat)) : Prop where
  box : Boxed W gb t v
  own : OwnP W v L
  ne : v.ownBlock ≠ some gb
/-- its blocks -/
def Col.F (gb : Nat) (v : Value) : Nat → Prop := fun k => k = gb ∨ v.ownBlock = some k
theorem Col.keep {W W' : World} {gb : Nat} {t : TypeId} {v : Value} {L : List (Nat × Nat)} {S : Nat → Prop} (h : Col W gb t v L) (hk : Keep S W W') (hs : ∀ k, Col.F gb v k → ¬ S k) : Col W' gb t v L :=
  ⟨h.box.keepF hk (hs _ (.inl rfl)), h.own.keep hk fun k e => hs k (.inr e), h.ne⟩
theorem Col.lt {W : World} {gb : Nat} {t : TypeId} {v : Value} {L : List (Nat × Nat)} (h : Col W gb t v L) : ∀ k, Col.F gb v k → k < W.heap.size := by
  rintro k (rfl | e)
  · exact h.box.lt
  · exact h.own.lt k e
theorem Col.below {W W' : World} {gb : Nat} {t : TypeId} {v : Value} {L : List (Nat × Nat)} (h : Col W gb t v L) (hk : Below W.heap.size W W') : Col W' gb t v L := h.keep (Keep.ofBelow (S := fun _ => False) hk) fun _ _ e => e
/-- the list is longer by one: what the store leaves -/
theorem Col.push {W w' : World} {gb : Nat} {t : TypeId} {v v' : Value} {L L' : List (Nat × Nat)} (h : Col W gb t v L) (h1 : OwnP w' v' L') (g : Grow W w' v v') :
    Boxed w' gb t v ∧ Col (w'.setCell ⟨gb, 0, none⟩ v') gb t v' L' ∧ Mvs (Col.F gb v) W (w'.setCell ⟨gb, 0, none⟩ v') (Col.F gb v') := by
  have b1 := h.box.keepF g.keep h.ne
  have hne : v'.ownBlock ≠ some gb := fun e => by
    rcases g.alt with q | ⟨q, _⟩
    · exact h.ne (by rw [← q]; exact e)
    · have := q gb e; have := h.box.lt; omega
  refine ⟨b1, ⟨b1.set v', ?_, hne⟩, ?_, ?_⟩
  · exact h1.keep (Keep.ofSet (S := fun k => k = gb) w' gb 0 v' rfl) fun k hk e => hne (e ▸ hk)
  · exact (g.keep.mono (T := Col.F gb v) fun k _ e => .inr e).trans (Keep.ofSet (S := fun k => k = gb) w' gb 0 v' rfl) fun k _ e => .inl e
  · rintro k (e | e)
    · exact .inl (.inl e)
    · rcases g.alt with q | ⟨q, _⟩
      · exact .inl (.inr (by rw [← q]; exact e))
      · exact .inr (q k e)
end Go.Proofs.YtblmaokonhdjaaaGreatDoor

namespace Go.Proofs.YtblmaokonhdjaaaGreatDoor
open Go.RowKit Go.Shelf
/-- so far turned round: k from each end -/
def Tnd (L M : List (Nat × Nat)) (i : Nat) : Prop := M.length = L.length ∧ ∀ k, k < L.length → M[k]? = if k < i ∨ L.length ≤ k + i then L[L.length - 1 - k]? else L[k]?
theorem Tnd.start (L : List (Nat × Nat)) : Tnd L L 0 := ⟨rfl, fun k hk => by rw [if_neg (by omega)]⟩
theorem Tnd.done {L M : List (Nat × Nat)} {i : Nat} (h : Tnd L M i) (hi : L.length ≤ 2 * i + 1) : M = L.reverse := by
  refine List.ext_getElem? fun k => ?_
  by_cases hk : k < L.length
  · rw [h.2 k hk, List.getElem?_reverse hk]
    by_cases h2 : k < i ∨ L.length ≤ k + i
    · rw [if_pos h2]
    · rw [if_neg h2, show L.length - 1 - k = k by omega]
  · rw [List.getElem?_eq_none (by rw [h.1]; omega), List.getElem?_eq_none (by rw [List.length_reverse]; omega)]
theorem Tnd.step {L M : List (Nat × Nat)} {i : Nat} (h : Tnd L M i) (hi : 2 * i + 1 < L.length) {p q : Nat × Nat} (hp : M[i]? = some p) (hq : M[L.length - 1 - i]? = some q) : Tnd L ((M.set i q).set (L.length - 1 - i) p) (i + 1) := by
  have h1 := h.2 i (by omega)
  have h2 := h.2 (L.length - 1 - i) (by omega)
  rw [if_neg (by omega), hp] at h1
  rw [if_neg (by omega), hq] at h2
  refine ⟨by rw [List.length_set, List.length_set, h.1], fun k hk => ?_⟩
  by_cases e1 : k = L.length - 1 - i
  · rw [if_pos (by omega), e1, List.getElem?_set_self (by rw [List.length_set, h.1]; omega), h1, show L.length - 1 - (L.length - 1 - i) = i by omega]
  · rw [List.getElem?_set_ne (by omega)]
    by_cases e2 : k = i
    · rw [if_pos (by omega), e2, List.getElem?_set_self (by rw [h.1]; omega), h2]
    · rw [List.getElem?_set_ne (by omega), h.2 k hk]
      by_cases e3 : k < i ∨ L.length ≤ k + i
      · rw [if_pos e3, if_pos (by omega)]
      · rw [if_neg e3, if_neg (by omega)]
/-- a pair is written over -/
theorem prs_set : ∀ (l : List (Nat × Nat)) (j : Nat) (x y : Nat), prs (l.set j (x, y)) = ((prs l).set (j * 2) (.int .i64 (x : Int))).set (j * 2 + 1) (.int .i64 (y : Int))
  | [], j, x, y => by simp [prs]
  | a :: l, 0, x, y => rfl
  | a :: l, j + 1, x, y => by
    have ih := prs_set l j x y
    rw [show (j + 1) * 2 = j * 2 + 1 + 1 from by omega]
    show _ :: _ :: prs (l.set j (x, y)) = _
    rw [ih]; rfl
theorem OwnM.setC {w : World} {g n c m : Nat} {cs : List Value} (h : OwnM m w (.slice (some ⟨g, 0, none⟩) n c) n cs) (j : Nat) (v : Value) (hj : j < cs.length) : OwnM m (w.setCell ⟨g, j, none⟩ v) (.slice (some ⟨g, 0, none⟩) n c) n (cs.set j v) := by
  rcases h with ⟨h, _⟩ | ⟨g', cap', h, h2, h3, h0, h4, h5, h6⟩
  · cases h
  · injection h with e1 e2 e3
    injection e1 with e1
    injection e1 with e1
    subst e1 e3
    refine .inr ⟨g, c, rfl, h2, h3, by rw [List.length_set]; exact h0, fun k u hk => ?_, fun k hk => ?_, by rw [show (w.setCell ⟨g, j, none⟩ v).heap.size = w.heap.size from by simp [World.setCell]]; exact h6⟩
    · rw [Nat.zero_add]
      by_cases e : k = j
      · subst e
        rw [List.getElem?_set_self hj] at hk
        injection hk with hk
        subst hk
        have := h4 k (cs[k]'hj) (by simp)
        rw [Nat.zero_add] at this
        exact World.cell?_setCell_same' _ _ _ (by rw [this]; rfl)
      · rw [List.getElem?_set_ne (by omega)] at hk
        have := h4 k u hk
        rw [Nat.zero_add] at this
        rw [World.cell?_setCell_other w _ _ _ (fun q => e (by injection q with _ q; exact q.symm))]
        exact this
    · have := h5 k hk
      refine ⟨?_, ?_⟩
      · by_cases e : 0 + k = j
        · rw [e] at this ⊢
          rw [World.cell?_setCell_same' w ⟨g, j, none⟩ v this.1]; rfl
        · rw [World.cell?_setCell_other w _ _ _ (fun q => e (by injection q with _ q; exact q.symm))]
          exact this.1
      · rw [World.frozen?_setCell]; exact this.2
end Go.Proofs.YtblmaokonhdjaaaGreatDoor

namespace Go.Proofs.YtblmaokonhdjaaaGreatDoor
open Go.RowKit Go.Shelf
theorem getD_of {l : List (Nat × Nat)} {k : Nat} (h : k < l.length) : ∃ x y, l[k]? = some (x, y) := ⟨(l[k]'h).1, (l[k]'h).2, by rw [List.getElem?_eq_getElem h]⟩
end Go.Proofs.YtblmaokonhdjaaaGreatDoor

namespace Go.Proofs.YtblmaokonhdjaaaGreatDoor
open Go.RowKit
/-- a region in a round is left at its end alone -/
def OnlyN (Q : Exit → Act → World → Prop) : Exit → Act → World → Prop
  | .normal, a, w => Q .normal a w
  | _, _, _ => False
theorem OnlyN.out {Q : Exit → Act → World → Prop} : ¬ LetsOut (OnlyN Q) := fun ⟨_, _, h⟩ => h
theorem oper_in {l n : Nat} {P : Program} {o : Oper} {a : Act} {w : World} {K : Act → World → Prop} {Q : Exit → Act → World → Prop} (hd : ∀ c, o.op ≠ .defer c)
    (h : o.wp P a w K (OnlyN Q)) : o.wpIn (Fence.wide.inRound l) n P a w K Q := by
  refine ⟨fun _ _ => trivial, ?_⟩
  have e : o.semAt (Fence.wide.inRound l).round a.eval = execOp a.eval o := Oper.semAt_eq _ _ _ hd
  rw [e]
  unfold Oper.wp at h
  generalize (execOp a.eval o).run P w = r at *
  cases r with
  | ok x w' =>
    cases x <;> simp only [Oper.upon, Oper.uponIn] at h ⊢
    case value v => exact h
    case skip => exact h
    case defer d => exact h
    case enter f args =>
      refine ⟨fun h => (by cases h), CallsIn.inRound l ((callsIn_wide.2 h).mono fun e w'' he => ?_)⟩
      cases e with
      | returned v => exact he
      | panicked c => exact he.elim
      | outgrown => exact (OnlyN.out he).elim
    case row row args =>
      refine ⟨fun h => (by cases h), fun c cs _ => ?_⟩
      obtain ⟨v, w'', hv, hs⟩ := h c cs
      exact ⟨v, w'', hv, stepsIn_wide.2 hs⟩
  | halt x w' =>
    cases x <;> simp only [Oper.upon, Oper.uponIn] at h ⊢
    exact h.elim
theorem wpOp_in {l n : Nat} {P : Program} {ops : Array Oper} {i : Nat} {a : Act} {w : World} {K : Act → World → Prop} {Q : Exit → Act → World → Prop} (hd : ∀ (j : Nat) (o : Oper) c, ops[j]? = some o → o.op ≠ .defer c)
    (h : wpOp P ops (OnlyN Q) i K a w) : wpOpIn (Fence.wide.inRound l) n P ops Q i K a w := by
  unfold wpOp at h
  unfold wpOpIn
  cases ho : ops[i]? with
  | none => rw [ho] at h; exact h
  | some o =>
    simp only [ho] at h ⊢
    split
    · rename_i hw
      simp only [hw, if_true] at h
      rcases h with h | ⟨_, h⟩
      · exact oper_in (fun c => hd i o c ho) h
      · exact (OnlyN.out h).elim
    · rename_i hw
      simp only [hw] at h
      exact ⟨fun _ _ => trivial, h⟩
theorem wpAny_in {l n : Nat} {P : Program} {ops : Array Oper} {md : Region.Mode} {Q : Exit → Act → World → Prop} (hd : ∀ (j : Nat) (o : Oper) c, ops[j]? = some o → o.op ≠ .defer c) :
    ∀ (fuel : Nat) (listed : Array Bool) (a : Act) (w : World), wpAny P md ops (OnlyN Q) fuel listed a w → wpAnyIn (Fence.wide.inRound l) n P md ops Q fuel listed a w
  | 0, _, _, _, h => h
  | fuel + 1, _, _, _, h => ⟨h.1, fun i hi => wpOp_in hd (wpOp_mono (fun a w h => wpAny_in hd fuel _ a w h) (h.2 i hi))⟩
/-- a region that draws, in a round -/
theorem round_held {l n id : Nat} {P : Program} {ops : Array Oper} {Q : Exit → Act → World → Prop} {S : World → Prop} {a : Act} {w : World} (hm : P.follows .mixedOrders = true)
    (hd : ∀ (j : Nat) (o : Oper) c, ops[j]? = some o → o.op ≠ .defer c) (hS : S w.drew)
    (h : S w.drew → wpAnyH P .any ops (OnlyN Q) S ops.size (Array.replicate ops.size false) a w.drew) : (Code.region id ops true).wpIn (Fence.wide.inRound l) n P Q a w :=
  wpIn_region_any hm (wpAny_in hd _ _ _ _ (wpAny_of_held _ _ _ _ (h hS)))
theorem noDefer {ops : Array Oper} (h : (ops.toList.all fun o => match o.op with | .defer _ => false | _ => true) = true) : ∀ (j : Nat) (o : Oper) c, ops[j]? = some o → o.op ≠ .defer c := fun j o c hj he => by
  have hm : o ∈ ops.toList := by
    rw [Array.mem_toList_iff]
    exact Array.mem_of_getElem? hj
  have := List.all_eq_true.1 h o hm
  rw [he] at this
  cases this
theorem wpListIn_append_run {F : Fence} {n : Nat} {P : Program} {ops : Array Oper} {rest : List Oper} {o : Oper} {a : Act} {w : World} {Q : Exit → Act → World → Prop}
    (hg : o.guard = none) (s x : Operand) (t : TypeId) (hop : o.op = Op.call { callee := Callee.builtin Builtin.append, args := #[s, x], argTypes := #[t, t] })
    (v1 v2 v' : Value) (w' : World) (hs : a.eval s = v1) (hx : a.eval x = v2) (hrun : (Builtin.append_ #[t, t] o.type #[v1, v2]).run P w = .ok v' w') (hK : wpListIn F n P ops Q rest (a.put o.dst v') w') :
    wpListIn F n P ops Q (o :: rest) a w := by
  refine wpListIn_plain hg fun K hK' => ?_
  unfold Oper.wpIn
  refine ⟨?_, ?_⟩
  · simp [Oper.about, hop, resolve, Target.leads, Sem.run_pure]
  · rw [Oper.semAt_plain F _ _ (by rw [hop]; intro c hc'; cases hc')]
    simp [execOp, hop, resolve, invoke, builtin, hs, hx, hrun, Result.andThen]
    exact hK' _ _ hK
end Go.Proofs.YtblmaokonhdjaaaGreatDoor
