import Derived.Test.YtmldibbbfmnckaaDoorCO52
import Derived.Test.YtmldibbbfmnckaaDoorCFR5
import Derived.Test.YtmldibbbfmnckaaDoorCFN4
import Derived.Test.YtmldibbbfmnckaaDoorCO28
namespace Go.Proofs.YtmldibbbfmnckaaDoor
open Go.RowKit
/-- the slice v of n elements of m cells each owns the cells cs in a row of its own -/
def OwnM (m : Nat) (w : World) (v : Value) (n : Nat) (cs : List Value) : Prop :=
  (v = .slice none 0 0 ∧ n = 0 ∧ cs = []) ∨
  ∃ g cap, v = .slice (some ⟨g, 0, none⟩) n cap ∧ n ≤ cap ∧ cap ≤ maxLen ∧ cs.length = n * m ∧ w.rangeAt g 0 cs ∧ w.there g 0 (cap * m) ∧ g < w.heap.size
theorem OwnM.nil (m : Nat) (w : World) : OwnM m w (.slice none 0 0) 0 [] := .inl ⟨rfl, rfl, rfl⟩
theorem OwnM.len {m : Nat} {w : World} {v : Value} {n : Nat} {cs : List Value} (h : OwnM m w v n cs) : cs.length = n * m := by
  rcases h with ⟨_, rfl, rfl⟩ | ⟨_, _, _, _, _, h, _⟩
  · simp
  · exact h
theorem OwnM.lt {m : Nat} {w : World} {v : Value} {n : Nat} {cs : List Value} (h : OwnM m w v n cs) : ∀ k, v.ownBlock = some k → k < w.heap.size := by
  rcases h with ⟨rfl, _⟩ | ⟨g, _, rfl, _, _, _, _, _, h⟩
  · intro k hk; cases hk
  · intro k hk; cases hk; exact h
theorem OwnM.kept {m : Nat} {w w' : World} {v : Value} {n : Nat} {cs : List Value} (h : OwnM m w v n cs) (hs : w.heap.size ≤ w'.heap.size) (hb : ∀ g, v.ownBlock = some g → w'.heap[g]? = w.heap[g]?) : OwnM m w' v n cs := by
  rcases h with h | ⟨g, cap, rfl, h2, h3, h0, h4, h5, h6⟩
  · exact .inl h
  · exact .inr ⟨g, cap, rfl, h2, h3, h0, rangeAt_heap h4 (hb g rfl), there_heap h5 (hb g rfl), by omega⟩
theorem OwnM.below {m : Nat} {w w' : World} {v : Value} {n : Nat} {cs : List Value} (h : OwnM m w v n cs) (hb : Below w.heap.size w w') : OwnM m w' v n cs :=
  h.kept hb.size fun g hg => hb.block g (h.lt g hg)
theorem OwnM.drew {m : Nat} {w : World} {v : Value} {n : Nat} {cs : List Value} (h : OwnM m w v n cs) : OwnM m w.drew v n cs := h
theorem OwnM.drewN {m : Nat} {w : World} {v : Value} {n : Nat} {cs : List Value} (h : OwnM m w v n cs) (k : Nat) : OwnM m (w.drewN k) v n cs := h
theorem OwnM.alloc {m : Nat} {w : World} {v : Value} {n : Nat} {cs : List Value} (h : OwnM m w v n cs) (o : Obj) : OwnM m (w.alloc o) v n cs := h.below ((Below.refl _ _).alloc (Nat.le_refl _) _)
theorem OwnM.keep {m : Nat} {S : Nat → Prop} {w w' : World} {v : Value} {n : Nat} {cs : List Value} (h : OwnM m w v n cs) (hb : Keep S w w') (hne : ∀ k, v.ownBlock = some k → ¬ S k) : OwnM m w' v n cs :=
  h.kept hb.size fun g hg => hb.block g (h.lt g hg) (hne g hg)
theorem OwnM.shape {m : Nat} {w : World} {v : Value} {n : Nat} {cs : List Value} (h : OwnM m w v n cs) : ∃ a cap, v = .slice a n cap ∧ n ≤ cap ∧ cap ≤ 9223372036854775807 := by
  rcases h with ⟨rfl, rfl, _⟩ | ⟨g, cap, rfl, h2, h3, _⟩
  · exact ⟨none, 0, rfl, Nat.le_refl _, by omega⟩
  · exact ⟨_, cap, rfl, h2, by simp only [maxLen] at h3; omega⟩
/-- a cell of it -/
theorem OwnM.cell {m : Nat} {w : World} {v : Value} {n : Nat} {cs : List Value} (h : OwnM m w v n cs) {j : Nat} {u : Value} (hu : cs[j]? = some u) : ∃ g cap, v = .slice (some ⟨g, 0, none⟩) n cap ∧ w.cell? ⟨g, j, none⟩ = some u ∧ g < w.heap.size := by
  rcases h with ⟨_, _, rfl⟩ | ⟨g, cap, rfl, _, _, _, h4, _, h6⟩
  · simp at hu
  · refine ⟨g, cap, rfl, ?_, h6⟩
    have := h4 j u hu
    rwa [Nat.zero_add] at this
/-- a beginning of it -/
theorem OwnM.cut {m : Nat} {w : World} {g n c : Nat} {cs : List Value} (h : OwnM m w (.slice (some ⟨g, 0, none⟩) n c) n cs) {k : Nat} (hk : k ≤ n) : OwnM m w (.slice (some ⟨g, 0, none⟩) k c) k (cs.take (k * m)) := by
  rcases h with ⟨h, _⟩ | ⟨g', cap', h, h2, h3, h0, h4, h5, h6⟩
  · cases h
  · injection h with e1 e2 e3
    injection e1 with e1
    injection e1 with e1
    subst e1 e3
    refine .inr ⟨g, c, rfl, by omega, h3, ?_, fun j v hv => h4 j v ?_, h5, h6⟩
    · rw [List.length_take, h0]
      exact Nat.min_eq_left (Nat.mul_le_mul_right _ hk)
    · rw [List.getElem?_take] at hv
      split at hv
      · exact hv
      · cases hv
/-- APPEND onto it, from whatever source -/
theorem run_append_M {P : Program} {m : Nat} (w : World) (t tx ty e : TypeId) (i : TypeInfo) (z : Value) (ht : P.underlying t = some (.slice e)) (hi : P.info? e = some i) (hz : i.zero = some z)
    (hsize : i.size = m) (hzs : z.cells.size = m) (v : Value) (n0 : Nat) (cs : List Value) (hown : OwnM m w v n0 cs) (x : Value) (n : Nat) (news : List Value) (hs : Src P m tx x n news w)
    (hbytes : (n0 + n) * i.bytes ≤ 140737488355328) (h63 : n0 + n ≤ maxLen) (hpos : v = .slice none 0 0 → 0 < n) :
    ∃ v' w', (Builtin.append_ #[t, tx] ty #[v, x]).run P w = .ok v' w' ∧ OwnM m w' v' (n0 + n) (cs ++ news) ∧ Grow w w' v v' := by
  have hn : news.length = n * m := hs.newsLen
  have hcl := hown.len
  have h63' : n0 + n ≤ 9223372036854775807 := by simp only [maxLen] at h63; omega
  have grow : ∀ (b : Option Addr) (old : Nat), old < n0 + n → v = .slice b n0 old → (Builtin.firstCells m n0 (.slice b n0 old)).run P w.drew = .ok cs.toArray w.drew →
      ∃ v' w', (Builtin.append_ #[t, tx] ty #[v, x]).run P w = .ok v' w' ∧ OwnM m w' v' (n0 + n) (cs ++ news) ∧ Grow w w' v v' := by
    intro b old ho hv hold
    have hr := run_append_grow_src (P := P) w t tx ty e i z ht hi hz b n0 old cs (by rw [hsize]; exact hold) x n news (by rw [hsize]; exact hs) ho (by omega) (growslice_fits ho hbytes)
    have hge := grownCap_ge w (n0 + n) old e
    have hcm : grownCap w (n0 + n) old e ≤ maxLen := grownCap_le_maxLen w (n0 + n) old e h63
    have hnew : (w.drew.alloc (.cells ((cs ++ news).toArray ++ Builtin.zeroCells z.cells (grownCap w (n0 + n) old e - (n0 + n))) e)).heap[w.heap.size]? = some (.cells ((cs ++ news).toArray ++ Builtin.zeroCells z.cells (grownCap w (n0 + n) old e - (n0 + n))) e (0, 0)) := heap_alloc_new w.drew _
    refine ⟨.slice (some ⟨w.heap.size, 0, none⟩) (n0 + n) (grownCap w (n0 + n) old e), w.drew.alloc (.cells ((cs ++ news).toArray ++ Builtin.zeroCells z.cells (grownCap w (n0 + n) old e - (n0 + n))) e), by rw [hv]; exact hr, .inr ⟨w.heap.size, grownCap w (n0 + n) old e, rfl, hge, hcm, ?_, ?_, ?_, ?_⟩, ⟨rfl, rfl, rfl, by rw [size_alloc]; exact Nat.le_succ w.heap.size, fun k hk _ => Below.heap_alloc w.drew _ k hk, .inr ⟨fun k hk => ?_, fun k hk => Below.heap_alloc w.drew _ k hk⟩⟩⟩
    · rw [List.length_append, hn, hcl, Nat.add_mul]
    · intro j u hj
      rw [cell_of_row _ _ _ _ _ _ hnew, Nat.zero_add]
      have hj' : j < (cs ++ news).length := (List.getElem?_eq_some_iff.1 hj).1
      rw [Array.getElem?_append_left (by simpa using hj')]
      simpa using hj
    · refine there_of_row hnew 0 _ ?_
      simp only [Array.size_append, List.size_toArray, size_zeroCells, hzs, List.length_append, hn, hcl]
      rw [← Nat.add_mul, ← Nat.add_mul]
      exact Nat.le_of_eq (by rw [Nat.zero_add]; congr 1; omega)
    · rw [size_alloc]; exact Nat.lt_succ_self _
    · have hk : some w.heap.size = some k := hk
      injection hk with hk
      omega
  rcases hown with ⟨rfl, rfl, rfl⟩ | ⟨g, cap, rfl, h2, h3, h0, h4, h5, h6⟩
  · exact grow none 0 (by have := hpos rfl; omega) rfl (run_firstCells_none w.drew m 0 0 0)
  · by_cases hroom : n0 + n ≤ cap
    · have hle : n0 * m + n * m ≤ cap * m := by rw [← Nat.add_mul]; exact Nat.mul_le_mul_right _ hroom
      have hr := run_append_room_src (P := P) w t tx ty e i ht hi g 0 n0 cap x n news (by rw [hsize]; exact hs) hroom
        (fun j hj => by rw [hsize]; exact by have := (h5 (n0 * m + j) (by omega)).1; simpa [Nat.add_assoc] using this)
        (fun j hj => by rw [hsize]; exact by have := (h5 (n0 * m + j) (by omega)).2; simpa [Nat.add_assoc] using this)
      rw [hsize, Nat.zero_add] at hr
      have ht' : w.there g (n0 * m) news.length := fun j hj => by have := h5 (n0 * m + j) (by omega); simpa using this
      refine ⟨_, _, hr, .inr ⟨g, cap, rfl, hroom, h3, ?_, ?_, World.there_setCells h5 _ _ _, ?_⟩, ?_⟩
      · rw [List.length_append, hn, h0, Nat.add_mul]
      · intro j u hj
        by_cases hjl : j < cs.length
        · rw [List.getElem?_append_left hjl] at hj
          exact World.rangeAt_setCells_apart h4 g (n0 * m) news (.inr (.inl (by omega))) j u hj
        · rw [List.getElem?_append_right (by omega)] at hj
          have := World.rangeAt_setCells_same w g (n0 * m) news ht' (j - cs.length) u hj
          rwa [show n0 * m + (j - cs.length) = 0 + j from by omega] at this
      · have := (But.setCells news (n0 * m) (But.refl g w)).size; omega
      · have hb := But.setCells news (n0 * m) (But.refl g w)
        exact ⟨hb.os, hb.tape, hb.output, hb.size, fun k hk hne => hb.block k hk (fun e => hne (by rw [e]; rfl)), .inl rfl⟩
    · refine grow (some ⟨g, 0, none⟩) cap (by omega) rfl ?_
      exact run_firstCells_some w.drew m n0 ⟨g, 0, none⟩ n0 cap cs h0 (fun j u hj => by rw [Addr.add_mid]; exact h4 j u hj)
/-- append of one element that lies in a row of its own -/
theorem append_oneM {m : Nat} (t e : TypeId) (z : Value) (by_ : Nat) (hb64 : by_ ≤ 64) (hu : Tryd.prog.underlying t = some (.slice e)) (hinfo : (Tryd.prog.info? e).map (fun i => (i.zero, i.size, i.bytes)) = some (some z, m, by_)) (hzs : z.cells.size = m)
    (w : World) (v : Value) (n0 : Nat) (cs : List Value) (xs : List Value) (hm : xs.length = m) (h1 : ∀ u ∈ xs, u.oneCell' = true) (hown : OwnM m w v n0 cs) (hlen : n0 ≤ 2000000) :
    ∃ v' w', (Builtin.append_ #[t, t] t #[v, .slice (some ⟨w.heap.size, 0, none⟩) 1 1]).run Tryd.prog (w.alloc (.cells xs.toArray e)) = .ok v' w' ∧ OwnM m w' v' (n0 + 1) (cs ++ xs) ∧ Grow w w' v v' := by
  obtain ⟨i0, hi, hz0, hz1, hz2⟩ := info_parts hinfo
  have hsrc : Src Tryd.prog m t (.slice (some ⟨w.heap.size, 0, none⟩) 1 1) 1 xs (w.alloc (.cells xs.toArray e)) :=
    Src.ofSlice _ hu ⟨w.heap.size, 0, none⟩ 1 1 xs (by rw [hm, Nat.one_mul]) (fun j u hj => by
      rw [Addr.add_mid, cell_of_row _ _ _ _ _ _ (heap_alloc_new w _), Nat.zero_add]; simpa using hj) h1
  obtain ⟨v', w', a1, a2, a3⟩ := run_append_M (P := Tryd.prog) (w.alloc (.cells xs.toArray e)) t t t e i0 z hu hi hz0 hz1 hzs v n0 cs (hown.alloc _) _ 1 xs hsrc
    (by rw [hz2]; exact Nat.le_trans (Nat.mul_le_mul (show n0 + 1 ≤ 2000001 by omega) hb64) (by decide)) (by rw [maxLen]; omega) (fun _ => by omega)
  have hs := a3.size
  rw [size_alloc] at hs
  refine ⟨v', w', a1, a2, ⟨a3.os, a3.tape, a3.output, by omega, fun k hk hne => (a3.old k (by rw [size_alloc]; omega) hne).trans (Below.heap_alloc w _ k hk), ?_⟩⟩
  rcases a3.alt with h4 | ⟨h4, h5⟩
  · exact .inl h4
  · refine .inr ⟨fun k hk => ?_, fun k hk => (h5 k (by rw [size_alloc]; omega)).trans (Below.heap_alloc w _ k hk)⟩
    have := h4 k hk
    rw [size_alloc] at this
    omega
end Go.Proofs.YtmldibbbfmnckaaDoor

namespace Go.Proofs.YtmldibbbfmnckaaDoor
open Go.RowKit
/-- spans, as cells -/
def spcs (l : List (Nat × Nat)) : List Value := l.flatMap fun q => [.int .i64 (q.1 : Int), .int .i64 ((q.1 + q.2 : Nat) : Int)]
theorem spcs_len (l : List (Nat × Nat)) : (spcs l).length = l.length * 2 := by
  induction l with
  | nil => rfl
  | cons q l ih => rw [spcs, List.flatMap_cons, List.length_append, ← spcs, ih]; simp; omega
theorem spcs_append (l m : List (Nat × Nat)) : spcs (l ++ m) = spcs l ++ spcs m := List.flatMap_append
theorem spcs_get : ∀ {l : List (Nat × Nat)} {j : Nat} {q : Nat × Nat}, l[j]? = some q → (spcs l)[j * 2]? = some (.int .i64 (q.1 : Int)) ∧ (spcs l)[j * 2 + 1]? = some (.int .i64 ((q.1 + q.2 : Nat) : Int))
  | [], j, q, h => by simp at h
  | a :: l, 0, q, h => by
    obtain rfl : a = q := by simpa using h
    exact ⟨rfl, rfl⟩
  | a :: l, j + 1, q, h => by
    have := spcs_get (l := l) (j := j) (by simpa using h)
    rw [show (j + 1) * 2 = j * 2 + 2 from by omega]
    exact this
/-- a list of spans that is one's own, new from B on -/
def Sps (w : World) (B : Nat) (v : Value) (l : List (Nat × Nat)) : Prop := OwnM 2 w v l.length (spcs l) ∧ ∀ k, v.ownBlock = some k → B ≤ k
theorem infoSp2 : (Tryd.prog.info? 75).map (fun i => (i.zero, i.size, i.bytes)) = some (some (.agg #[.int .i64 0, .int .i64 0]), 2, 16) := by kernel_rfl
theorem append_span (w : World) (v : Value) (l : List (Nat × Nat)) (q : Nat × Nat) (B : Nat) (h : Sps w B v l) (hB : B ≤ w.heap.size) (hl : l.length ≤ 2000000) :
    ∃ v' w', (Builtin.append_ #[88, 88] 88 #[v, .slice (some ⟨w.heap.size, 0, none⟩) 1 1]).run Tryd.prog (w.alloc (.cells #[.int .i64 (q.1 : Int), .int .i64 ((q.1 + q.2 : Nat) : Int)] 75)) = .ok v' w' ∧ Sps w' B v' (l ++ [q]) ∧ Below B w w' := by
  obtain ⟨v', w', h1, h2, h3⟩ := append_oneM 88 75 (.agg #[.int .i64 0, .int .i64 0]) 16 (by omega) Tryd.underlying88 infoSp2 rfl w v l.length (spcs l) [.int .i64 (q.1 : Int), .int .i64 ((q.1 + q.2 : Nat) : Int)] rfl (fun u hu => by
    simp only [List.mem_cons, List.not_mem_nil, or_false] at hu
    rcases hu with rfl | rfl <;> rfl) h.1 hl
  refine ⟨v', w', h1, ⟨?_, fun k hk => ?_⟩, ⟨h3.os, h3.tape, h3.output, h3.size, fun k hk => h3.old k (by omega) fun e => ?_⟩⟩
  · rw [spcs_append, List.length_append]; exact h2
  · rcases h3.alt with e | ⟨e, _⟩
    · exact h.2 k (e ▸ hk)
    · exact Nat.le_trans hB (e k hk)
  · have := h.2 k e; omega
theorem grow_stop {f n b e : Nat} (h : ¬ (b % (2 * n) = 0 ∧ b + 2 * n ≤ e)) : Cut.grow f n b e = n := by
  cases f with
  | zero => rfl
  | succ f => rw [Cut.grow, if_neg h]
theorem grow_on {f n b e : Nat} (h : b % (2 * n) = 0 ∧ b + 2 * n ≤ e) : Cut.grow (f + 1) n b e = Cut.grow f (2 * n) b e := by rw [Cut.grow, if_pos h]
set_option maxRecDepth 100000 in
set_option maxHeartbeats 4000000 in
theorem rCut_any (b e : Nat) (he : e ≤ 1099511627776) (hbe : b ≤ e) (w : World) :
    Calls Tryd.prog 50 #[.int .i64 (b : Int), .int .i64 (e : Int)] w fun r w' => ∃ v, r = .returned v ∧ Sps w' w.heap.size v (Cut.cut b e) ∧ Below w.heap.size w w' := by
  obtain ⟨K, hK⟩ : ∃ K, Hid (Cut.cut b e = K) := ⟨_, rfl⟩
  rw [hK.out]
  have hK81 : Hid (K.length ≤ 81) := by unfold Hid; rw [← hK.out]; exact Cut.cut_len he hbe
  go_enter Tryd.func50, Tryd.ntmps50
  go_wp2
  go_loopw [0, 5] (fun xb v w' => ∃ (x : Nat) (l : List (Nat × Nat)), xb = .int .i64 (x : Int) ∧ x ≤ e ∧ Hid (l ++ Cut.cut x e = K) ∧ Hid (Sps w' w.heap.size v l) ∧ Hid (Below w.heap.size w w')) (fun xb _ _ => e - (intOf xb).toNat)
  case atStart => exact ⟨b, [], rfl, hbe, hK, ⟨OwnM.nil 2 w, fun k hk => by cases hk⟩, Below.refl _ _⟩
  case round =>
    obtain ⟨x, l, rfl, hx, hl, hS, hB⟩ := hrel
    by_cases hxe : x < e
    · have c0 : (x : Int) < (e : Int) := by omega
      obtain ⟨g1, g2, g3, g4, g5⟩ := Cut.grow_facts he hxe
      have hcc := Cut.cut_cons he hxe
      have hl' : Hid (l ++ [(x, Cut.grow 40 1 x e)] ++ Cut.cut (x + Cut.grow 40 1 x e) e = K) := by
        unfold Hid; rw [← hl.out, hcc, List.append_assoc]; rfl
      have hll : l.length ≤ 81 := by have := hK81.out; rw [← hl.out, List.length_append] at this; omega
      obtain ⟨G, hG⟩ : ∃ G, Hid (Cut.grow 40 1 x e = G) := ⟨_, rfl⟩
      rw [hG.out] at hl' g3 g4
      clear hcc hl g1 g2 g5
      obtain ⟨sa, sc, rfl, _, _⟩ := hS.out.1.shape
      go_wp2
      go_loopw [6] (fun nv w' => ∃ (k N : Nat), nv = .int .i64 (N : Int) ∧ 1 ≤ N ∧ N ≤ 1099511627776 ∧ Hid (2 ^ k = N) ∧ Hid (Cut.grow (40 - k) N x e = G) ∧ w' = wr) (fun nv _ => 2199023255552 - (intOf nv).toNat)
      case atStart => exact ⟨0, 1, rfl, Nat.le_refl _, by omega, rfl, hG, rfl⟩
      case round =>
        obtain ⟨k, N, rfl, hN1, hN2, hkN, hGk, rfl⟩ := hrel
        by_cases hcond : x % (2 * N) = 0 ∧ x + 2 * N ≤ e
        · have d0 : (N : Int) < 1099511627776 := by omega
          have hk40 : k < 40 := by
            rcases Nat.lt_or_ge k 40 with h | h
            · exact h
            · have h1 := Nat.pow_le_pow_right (n := 2) (by omega) h
              rw [hkN.out, show (2 : Nat) ^ 40 = 1099511627776 from by decide] at h1
              omega
          have em : Int.tmod (x : Int) (2 * (N : Int)) = 0 := by
            rw [Int.tmod_eq_emod_of_nonneg (by omega), show 2 * (N : Int) = ((2 * N : Nat) : Int) from by omega, ← Int.natCast_emod, hcond.1]
            rfl
          have hz : ¬ (2 * (N : Int)) = 0 := by omega
          have d2 : (x : Int) + 2 * (N : Int) ≤ (e : Int) := by omega
          have hG2 : Hid (Cut.grow (40 - (k + 1)) (2 * N) x e = G) := by
            unfold Hid
            have := hGk.out
            rw [show 40 - k = 40 - (k + 1) + 1 from by omega, grow_on hcond] at this
            exact this
          have hkN2 : Hid (2 ^ (k + 1) = 2 * N) := by unfold Hid; rw [Cut.pow_double, hkN.out]
          have hc2 := hcond.2
          clear hcond
          go_wp2
          exact ⟨⟨k + 1, 2 * N, by go_num, by omega, by omega, hkN2, hG2, trivial⟩, by simp [intOf]; omega⟩
        · obtain rfl : N = G := by rw [← hGk.out]; exact (grow_stop hcond).symm
          obtain ⟨v3, w3, hap, S3, b3⟩ := append_span wr _ l (x, N) w.heap.size hS.out hB.out.size (by omega)
          obtain ⟨ta, tc, rfl, _, _⟩ := S3.1.shape
          rw [List.length_append] at hap S3
          have HS3 := hid S3
          have HB3 := hid (hB.out.trans b3)
          rw [show ((x + N : Nat) : Int) = (x : Int) + (N : Int) from by omega] at hap
          clear S3 b3 hS hB hGk hG hkN
          by_cases d0 : (N : Int) < 1099511627776
          · by_cases hmod : x % (2 * N) = 0
            · have d2 : ¬ (x : Int) + 2 * (N : Int) ≤ (e : Int) := by omega
              have em : Int.tmod (x : Int) (2 * (N : Int)) = 0 := by
                rw [Int.tmod_eq_emod_of_nonneg (by omega), show 2 * (N : Int) = ((2 * N : Nat) : Int) from by omega, ← Int.natCast_emod, hmod]
                rfl
              have hz : ¬ (2 * (N : Int)) = 0 := by omega
              clear hcond hmod
              go_wp2_with (at_builtin; go_must (refine Lib.wpList_append_run _ rfl _ _ 88 88 rfl _ _ rfl rfl _ _ hap ?_))
              exact ⟨⟨x + N, l ++ [(x, N)], rfl, g3, hl', HS3, HB3⟩, by simp [intOf]; omega⟩
            · obtain ⟨M, hM⟩ : ∃ M : Nat, x % (2 * N) = M := ⟨_, rfl⟩
              have em : Int.tmod (x : Int) (2 * (N : Int)) = (M : Int) := by
                rw [Int.tmod_eq_emod_of_nonneg (by omega), show 2 * (N : Int) = ((2 * N : Nat) : Int) from by omega, ← Int.natCast_emod, hM]
              have hM2 : ((M : Int) == 0) = false := by simp; omega
              have hMl : M < 2 * N := by rw [← hM]; exact Nat.mod_lt _ (by omega)
              have hMw : IntKind.i64.wrap (M : Int) = (M : Int) := wrap_small _ (by omega) (by omega)
              have hz : ¬ (2 * (N : Int)) = 0 := by omega
              clear hcond hmod hM
              go_wp2_with (at_builtin; go_must (refine Lib.wpList_append_run _ rfl _ _ 88 88 rfl _ _ rfl rfl _ _ hap ?_))
              exact ⟨⟨x + N, l ++ [(x, N)], rfl, g3, hl', HS3, HB3⟩, by simp [intOf]; omega⟩
          · clear hcond
            go_wp2_with (at_builtin; go_must (refine Lib.wpList_append_run _ rfl _ _ 88 88 rfl _ _ rfl rfl _ _ hap ?_))
            exact ⟨⟨x + N, l ++ [(x, N)], rfl, g3, hl', HS3, HB3⟩, by simp [intOf]; omega⟩
    · obtain rfl : x = e := by omega
      have c0 : ¬ (x : Int) < (x : Int) := by omega
      have eK := hid (show K = l by rw [← hl.out, Cut.cut_nil, List.append_nil])
      go_wp2
      go_ret
      exact ⟨_, rfl, by rw [eK.out]; exact hS.out, hB.out⟩
end Go.Proofs.YtmldibbbfmnckaaDoor

namespace Go.Proofs.YtmldibbbfmnckaaDoor
open Go.RowKit

/-- append([]string(nil), l...): a list of one's own with l's texts -/
theorem append_at (w : World) (a : Option Addr) (cap : Nat) (L : List (List UInt8)) (hA : At w a L) (hlen : L.length ≤ 8796093022208) :
    ∃ v' w', (Builtin.append_ #[24, 24] 24 #[.slice none 0 0, .slice a L.length cap]).run Tryd.prog w = .ok v' w' ∧ Own w' w.heap.size v' (svs L) ∧ Below w.heap.size w w' := by
  obtain ⟨i0, hi, hz0, hz1, hz2⟩ := info_parts infoS
  by_cases h0 : L.length = 0
  · obtain rfl : L = [] := List.length_eq_zero_iff.1 h0
    refine ⟨_, w, append_zero w _ ?_, Own.nil _ _, Below.refl _ _⟩
    cases a with
    | none => exact Src.ofNil w Tryd.underlying24 cap
    | some x => exact Src.ofSlice w Tryd.underlying24 x 0 cap [] (by simp) (fun j u hj => by simp at hj) (fun u hu => by simp at hu)
  · obtain ⟨x, rfl⟩ := hA.pos (by omega)
    have hsrc : Src Tryd.prog 1 24 (.slice (some x) L.length cap) L.length (svs L) w :=
      Src.ofSlice w Tryd.underlying24 x L.length cap (svs L) (by rw [svs_length, Nat.mul_one]) (fun j u hj => by
        rw [svs, List.getElem?_map] at hj
        cases hp : L[j]? with
        | none => rw [hp] at hj; cases hj
        | some p =>
          rw [hp] at hj
          obtain rfl := Option.some.inj hj
          obtain ⟨y, e, _, hc⟩ := hA j p hp
          cases e
          exact hc) (fun u hu => svs_one hu)
    obtain ⟨v', w', h1, h2, h3, h4⟩ := run_append_O (P := Tryd.prog) w w.heap.size 24 24 24 9 i0 (.string ⟨#[]⟩) Tryd.underlying24 hi hz0 hz1 rfl (.slice none 0 0) (svs []) (Own.nil _ _) _ L.length (svs L) hsrc
      (by rw [svs_length, hz2]; simp; omega) (by rw [svs_length, maxLen]; simp; omega) (Nat.le_refl _) (fun _ => by omega)
    exact ⟨v', w', h1, by simpa [svs] using h2, Below.ofGrown h3 (Own.nil w w.heap.size).ge (Nat.le_refl _)⟩
end Go.Proofs.YtmldibbbfmnckaaDoor
