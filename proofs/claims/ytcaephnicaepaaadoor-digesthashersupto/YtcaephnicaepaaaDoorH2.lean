import Derived.Test.YtcaephnicaepaaaDoorH1
namespace Go.Proofs.YtcaephnicaepaaaDoor
open Go.RowKit

theorem infoP : (Tryd.prog.info? 32).map (fun i => (i.zero, i.size, i.bytes)) = some (some (.pointer none), 1, 8) := by kernel_rfl
/-- append(list, x): one cell -/
theorem append_cell {T E : TypeId} {z : Value} {q : Nat} (hu : Tryd.prog.underlying T = some (.slice E)) (hin : (Tryd.prog.info? E).map (fun i => (i.zero, i.size, i.bytes)) = some (some z, 1, q)) (hzs : z.cells.size = 1) (hq : q ≤ 16)
    (w : World) (base g n c : Nat) (cs : List Value) (x : Value) (hx : x.oneCell' = true) (hown : Own w base (.slice (some ⟨g, 0, none⟩) n c) cs) (hn : n ≤ 8) (hbase : base ≤ w.heap.size) :
    ∃ g' c' w', (Builtin.append_ #[T, T] T #[.slice (some ⟨g, 0, none⟩) n c, .slice (some ⟨w.heap.size, 0, none⟩) 1 1]).run Tryd.prog (w.alloc (.cells #[x] E)) = .ok (.slice (some ⟨g', 0, none⟩) (n + 1) c') w' ∧
      Own w' base (.slice (some ⟨g', 0, none⟩) (n + 1) c') (cs ++ [x]) ∧ (g' = g ∨ w.heap.size < g') ∧ But g w w' := by
  obtain ⟨i0, hi, hz0, hz1, hz2⟩ := info_parts hin
  have hl : cs.length = n := by
    rcases hown with ⟨h, _⟩ | ⟨g', cap', h, _⟩
    · cases h
    · injection h with _ e _; exact e.symm
  have hsrc : Src Tryd.prog 1 T (.slice (some ⟨w.heap.size, 0, none⟩) 1 1) 1 [x] (w.alloc (.cells #[x] E)) :=
    Src.ofSlice _ hu ⟨w.heap.size, 0, none⟩ 1 1 [x] (by simp) (fun j u hj => by
      rw [Addr.add_mid, cell_of_row _ _ _ _ _ _ (heap_alloc_new w _), Nat.zero_add]; simpa using hj) (fun u hu => by simp at hu; subst hu; exact hx)
  obtain ⟨v', w', h1, h2, h3, h4⟩ := run_append_O (P := Tryd.prog) (w.alloc (.cells #[x] E)) base T T T E i0 z hu hi hz0 hz1 hzs _ cs (hown.alloc _) _ 1 [x] hsrc
    (by rw [hz2, hl]; have : (n + 1) * q ≤ 9 * 16 := Nat.mul_le_mul (by omega) hq; omega) (by rw [maxLen]; omega) (by rw [size_alloc]; omega) (fun h => by cases h)
  have hB : But g w w' := by
    refine But.trans (w1 := w.alloc (.cells #[x] E)) (But.ofBelow ((Below.refl _ _).alloc (Nat.le_refl _) _)) ⟨h3.os, h3.tape, h3.output, h3.size, fun k hk hne => h3.block k hk (fun e => hne (by simpa [Value.ownBlock] using e))⟩
  rcases h2 with ⟨_, h⟩ | ⟨g', c', rfl, h⟩
  · simp at h
  · have e : (cs ++ [x]).length = n + 1 := by simp [hl]
    rw [e] at h1 h4
    refine ⟨g', c', w', h1, .inr ⟨g', c', by rw [e], h⟩, ?_, hB⟩
    rcases h4 with h4 | h4
    · exact .inl (by simpa [Value.ownBlock] using h4)
    · refine .inr ?_
      have : g' = (w.alloc (.cells #[x] E)).heap.size := by simpa [Value.ownBlock] using h4
      rw [this, size_alloc]; omega

theorem mem_push {b M : Nat} {bs : List Nat} (h : b ∈ bs ++ [M]) : b ∈ bs ∨ b = M := by simpa using h
/-- a hasher more, and its text -/
theorem Hs.push {w : World} {base gh ch gt ct n m M : Nat} {bs : List Nat} {ts : List ByteArray} {t : ByteArray} (h : Hs w base gh ch gt ct n bs ts m) (hn : n < 8) (hM : Has M t.data.toList w) (hMb : base ≤ M) (hMn : M ∉ bs) (hMh : gh ≠ M) (hMt : gt ≠ M)
    (hbase : base ≤ w.heap.size) (ht : t.size ≤ m) :
    ∃ gh' ch' w4 gt' ct' w5, (Builtin.append_ #[42, 42] 42 #[.slice (some ⟨gh, 0, none⟩) n ch, .slice (some ⟨w.heap.size, 0, none⟩) 1 1]).run Tryd.prog (w.alloc (.cells #[.pointer (some ⟨M, 0, none⟩)] 32)) = .ok (.slice (some ⟨gh', 0, none⟩) (n + 1) ch') w4 ∧
      (Builtin.append_ #[29, 29] 29 #[.slice (some ⟨gt, 0, none⟩) n ct, .slice (some ⟨w4.heap.size, 0, none⟩) 1 1]).run Tryd.prog (w4.alloc (.cells #[.string t] 9)) = .ok (.slice (some ⟨gt', 0, none⟩) (n + 1) ct') w5 ∧
      (∀ r t, ts[r]? = some t → w4.cell? ⟨gt, r, none⟩ = some (.string t)) ∧ Hs w5 base gh' ch' gt' ct' (n + 1) (bs ++ [M]) (ts ++ [t]) m ∧ Below base w w5 := by
  obtain ⟨gh', ch', w4, a1, a2, a3, a4⟩ := append_cell Tryd.underlying42 infoP rfl (by omega) w base gh n ch (pvs bs) (.pointer (some ⟨M, 0, none⟩)) rfl h.ownh (by omega) hbase
  have o4 : Own w4 base (.slice (some ⟨gt, 0, none⟩) n ct) (tvs ts) := h.ownt.but a4 (fun e => h.ne (by simpa [Value.ownBlock] using e.symm))
  have s4 := a4.size
  obtain ⟨gt', ct', w5, b1, b2, b3, b4⟩ := append_cell Tryd.underlying29 infoS rfl (by omega) w4 base gt n ct (tvs ts) (.string t) rfl o4 (by omega) (by omega)
  have lh := h.ownh.blockLt
  have lt := h.ownt.blockLt
  have lM := hM.lt
  have lh' := a2.blockLt
  have n1 : gt ≠ gh' := by
    rcases a3 with rfl | a3
    · exact fun e => h.ne e.symm
    · omega
  refine ⟨gh', ch', w4, gt', ct', w5, a1, b1, fun r t hr => (o4.cell (k := r) (x := .string t) (by simp [tvs, hr])).1, ?_, (a4.below lh.1 hbase).trans (b4.below lt.1 (by omega))⟩
  refine ⟨?_, ?_, ?_, ?_, by omega, by omega, ?_, ?_, ?_, ?_, ?_, ?_, ?_⟩
  · have := a2.but b4 (fun e => n1 (by simpa [Value.ownBlock] using e.symm))
    simpa [pvs] using this
  · simpa [tvs] using b2
  · simp [h.lenb]
  · simp [h.lent]
  · rw [List.nodup_append]
    exact ⟨h.nodup, by simp, fun a ha b hb => by simp at hb; subst hb; exact fun e => hMn (e ▸ ha)⟩
  · intro b hb
    rcases mem_push hb with hb | rfl
    · exact h.ge b hb
    · exact hMb
  · intro x hx
    rcases List.mem_append.1 hx with hx | hx
    · exact h.small x hx
    · simp at hx; subst hx; exact ht
  · intro j b x h1 h2
    have hh : Has b x.data.toList w ∧ (b ∈ bs ∨ b = M) := by
      by_cases hj : j < n
      · rw [List.getElem?_append_left (by rw [h.lenb]; exact hj)] at h1
        rw [List.getElem?_append_left (by rw [h.lent]; exact hj)] at h2
        exact ⟨h.has j b x h1 h2, .inl (List.mem_of_getElem? h1)⟩
      · rw [List.getElem?_append_right (by rw [h.lenb]; omega), h.lenb] at h1
        rw [List.getElem?_append_right (by rw [h.lent]; omega), h.lent] at h2
        have hj0 : j - n = 0 := by
          have := (List.getElem?_eq_some_iff.1 h1).1
          simp at this; omega
        rw [hj0] at h1 h2
        cases h1; cases h2
        exact ⟨hM, .inr rfl⟩
    have e1 : b ≠ gh := by
      rcases hh.2 with hb | rfl
      · exact fun e => h.nh (e ▸ hb)
      · exact hMh.symm
    have e2 : b ≠ gt := by
      rcases hh.2 with hb | rfl
      · exact fun e => h.nt (e ▸ hb)
      · exact hMt.symm
    exact (hh.1.but a4 e1).but b4 e2
  · rcases b3 with rfl | b3
    · exact fun e => n1 e.symm
    · omega
  · intro hb
    rcases a3 with rfl | a3
    · rcases mem_push hb with hb | hb
      · exact h.nh hb
      · exact hMh hb
    · rcases mem_push hb with hb | hb
      · have := h.lt _ hb; omega
      · omega
  · intro hb
    rcases b3 with rfl | b3
    · rcases mem_push hb with hb | hb
      · exact h.nt hb
      · exact hMt hb
    · rcases mem_push hb with hb | hb
      · have := h.lt _ hb; omega
      · omega
theorem own_one (w : World) (base : Nat) (x : Value) (t : TypeId) (hb : base ≤ w.heap.size) : Own (w.alloc (.cells #[x] t)) base (.slice (some ⟨w.heap.size, 0, none⟩) 1 1) [x] := by
  refine .inr ⟨w.heap.size, 1, rfl, hb, by simp, by rw [maxLen]; omega, fun j v hj => ?_, there_of_row (heap_alloc_new w _) 0 1 (by simp), by rw [size_alloc]; omega⟩
  rw [cell_of_row _ _ _ _ _ _ (heap_alloc_new w _), Nat.zero_add]
  simpa using hj
/-- the first hasher and its text -/
theorem Hs.start (w : World) (base b : Nat) (tp ts : TypeId) (hh : Has b [] w) (hb : base ≤ b) : Hs ((w.alloc (.cells #[.pointer (some ⟨b, 0, none⟩)] tp)).alloc (.cells #[.string ⟨#[]⟩] ts)) base w.heap.size 1 (w.heap.size + 1) 1 1 [b] [⟨#[]⟩] 0 := by
  have lb := hh.lt
  have o1 := own_one w base (.pointer (some ⟨b, 0, none⟩)) tp (by omega)
  have o2 := own_one (w.alloc (.cells #[.pointer (some ⟨b, 0, none⟩)] tp)) base (.string ⟨#[]⟩) ts (by rw [size_alloc]; omega)
  rw [size_alloc] at o2
  refine ⟨o1.alloc _, o2, rfl, rfl, by omega, by omega, by simp, fun c hc => ?_, fun t ht => ?_, fun j c t h1 h2 => ?_, by omega, ?_, ?_⟩
  · simp at hc; omega
  · simp at ht; subst ht; rw [emptySize]; omega
  · obtain ⟨rfl, rfl⟩ : c = b ∧ t = ⟨#[]⟩ := by
      match j, h1, h2 with
      | 0, h1, h2 => cases h1; cases h2; exact ⟨rfl, rfl⟩
    refine (hh.below ((Below.refl w.heap.size w).alloc (Nat.le_refl _) _) lb).below (B := w.heap.size) ((Below.refl _ _).alloc (by rw [size_alloc]; omega) _) lb
  · simp; omega
  · simp; omega
theorem But.cell {b : Nat} {w w' : World} (h : But b w w') {g o : Nat} (hg : g < w.heap.size) (hne : g ≠ b) : w'.cell? ⟨g, o, none⟩ = w.cell? ⟨g, o, none⟩ := World.cell?_of_block (h.block g hg hne)
theorem But.frozen {b : Nat} {w w' : World} (h : But b w w') {g o : Nat} (hg : g < w.heap.size) (hne : g ≠ b) : w'.frozen? ⟨g, o, none⟩ = w.frozen? ⟨g, o, none⟩ := World.frozen?_of_block (h.block g hg hne)
theorem undrew {w w' : World} (h : Below w.drew.heap.size w.drew w') : Below w.heap.size w w' := ⟨h.os, h.tape, h.output, h.size, h.block⟩
/-- a list of steps, wherever it lies -/
def SlcO (w : World) (v : Value) (n : Nat) : Prop :=
  ∃ (a : Option Addr) (cap : Nat), v = .slice a n cap ∧ ∀ j, j < n → ∃ (x : Addr) (kd on : Int) (s : ByteArray), a = some x ∧ x.block < w.heap.size ∧ w.cell? (x.add (j * 3)) = some (.int .i64 kd) ∧ w.cell? (x.add (j * 3 + 1)) = some (.int .i64 on) ∧ w.cell? (x.add (j * 3 + 2)) = some (.string s) ∧ -9223372036854775808 ≤ on ∧ on ≤ 9223372036854775807 ∧ s.size ≤ 1048576
end Go.Proofs.YtcaephnicaepaaaDoor
