import Derived.Test.YtcaephnicaepaaaDoorB2
namespace Go.Proofs.YtcaephnicaepaaaDoor
open Go.RowKit

def pvs (bs : List Nat) : List Value := bs.map fun b => .pointer (some ⟨b, 0, none⟩)
def tvs (ts : List ByteArray) : List Value := ts.map fun t => .string t
theorem pvs_length (bs : List Nat) : (pvs bs).length = bs.length := List.length_map _
theorem tvs_length (ts : List ByteArray) : (tvs ts).length = ts.length := List.length_map _

/-- some hashers in a list of their own, and what each was handed -/
structure Hs (w : World) (base gh ch gt ct n : Nat) (bs : List Nat) (ts : List ByteArray) (m : Nat) : Prop where
  ownh : Own w base (.slice (some ⟨gh, 0, none⟩) n ch) (pvs bs)
  ownt : Own w base (.slice (some ⟨gt, 0, none⟩) n ct) (tvs ts)
  lenb : bs.length = n
  lent : ts.length = n
  pos : 0 < n
  most : n ≤ 8
  nodup : bs.Nodup
  ge : ∀ b ∈ bs, base ≤ b
  small : ∀ t ∈ ts, t.size ≤ m
  has : ∀ (j b : Nat) (t : ByteArray), bs[j]? = some b → ts[j]? = some t → Has b t.data.toList w
  ne : gh ≠ gt
  nh : gh ∉ bs
  nt : gt ∉ bs

theorem Own.blockLt {w : World} {base g n c : Nat} {cs : List Value} (h : Own w base (.slice (some ⟨g, 0, none⟩) n c) cs) : base ≤ g ∧ g < w.heap.size := by
  rcases h with ⟨h, _⟩ | ⟨g', cap', h, h1, _, _, _, _, h6⟩
  · cases h
  · injection h with e1 e2 e3
    injection e1 with e1
    injection e1 with e1
    subst e1
    exact ⟨h1, h6⟩
theorem Hs.lt {w : World} {base gh ch gt ct n m : Nat} {bs : List Nat} {ts : List ByteArray} (h : Hs w base gh ch gt ct n bs ts m) : ∀ b ∈ bs, b < w.heap.size := fun b hb => by
  obtain ⟨j, hj⟩ := List.getElem?_of_mem hb
  have hl := (List.getElem?_eq_some_iff.1 hj).1
  exact (h.has j b _ hj (List.getElem?_eq_getElem (show j < ts.length by rw [h.lent, ← h.lenb]; exact hl))).lt
theorem Hs.below {w w' : World} {base gh ch gt ct n m B : Nat} {bs : List Nat} {ts : List ByteArray} (h : Hs w base gh ch gt ct n bs ts m) (hb : Below B w w') (hB : w.heap.size ≤ B) : Hs w' base gh ch gt ct n bs ts m :=
  { h with
    ownh := h.ownh.below hb hB
    ownt := h.ownt.below hb hB
    has := fun j b t h1 h2 => (h.has j b t h1 h2).below hb (Nat.lt_of_lt_of_le (h.lt b (List.mem_of_getElem? h1)) hB) }
theorem Hs.heap {w w' : World} {base gh ch gt ct n m : Nat} {bs : List Nat} {ts : List ByteArray} (h : Hs w base gh ch gt ct n bs ts m) (he : w'.heap = w.heap) : Hs w' base gh ch gt ct n bs ts m :=
  { h with
    ownh := h.ownh.kept (by rw [he]; exact Nat.le_refl _) (fun g _ => by rw [he])
    ownt := h.ownt.kept (by rw [he]; exact Nat.le_refl _) (fun g _ => by rw [he])
    has := fun j b t h1 h2 => by obtain ⟨st, rest, a, b⟩ := h.has j b t h1 h2; exact ⟨st, rest, a, by rw [he]; exact b⟩ }
theorem Hs.more {w : World} {base gh ch gt ct n m m' : Nat} {bs : List Nat} {ts : List ByteArray} (h : Hs w base gh ch gt ct n bs ts m) (hm : m ≤ m') : Hs w base gh ch gt ct n bs ts m' :=
  { h with small := fun t ht => Nat.le_trans (h.small t ht) hm }
/-- what stands at a place -/
theorem Hs.at {w : World} {base gh ch gt ct n m : Nat} {bs : List Nat} {ts : List ByteArray} (h : Hs w base gh ch gt ct n bs ts m) (r : Nat) (hr : r < n) :
    ∃ b t, bs[r]? = some b ∧ ts[r]? = some t ∧ w.cell? ⟨gh, r, none⟩ = some (.pointer (some ⟨b, 0, none⟩)) ∧ w.cell? ⟨gt, r, none⟩ = some (.string t) ∧ w.frozen? ⟨gt, r, none⟩ = false ∧ Has b t.data.toList w ∧ t.size ≤ m ∧ base ≤ b ∧ b < w.heap.size := by
  have hr1 : r < bs.length := by rw [h.lenb]; exact hr
  have hr2 : r < ts.length := by rw [h.lent]; exact hr
  have h1 : bs[r]? = some bs[r] := List.getElem?_eq_getElem hr1
  have h2 : ts[r]? = some ts[r] := List.getElem?_eq_getElem hr2
  have c1 := h.ownh.cell (k := r) (x := .pointer (some ⟨bs[r], 0, none⟩)) (by simp [pvs, h1])
  have c2 := h.ownt.cell (k := r) (x := .string ts[r]) (by simp [tvs, h2])
  exact ⟨bs[r], ts[r], h1, h2, c1.1, c2.1, c2.2, h.has r _ _ h1 h2, h.small _ (List.mem_of_getElem? h2), h.ge _ (List.mem_of_getElem? h1), h.lt _ (List.mem_of_getElem? h1)⟩

theorem Own.asN {w : World} {base g c n n' : Nat} {cs : List Value} (h : Own w base (.slice (some ⟨g, 0, none⟩) n c) cs) (e : n = n') : Own w base (.slice (some ⟨g, 0, none⟩) n' c) cs := e ▸ h
theorem nodup_get {bs : List Nat} (h : bs.Nodup) {i j b : Nat} (hi : bs[i]? = some b) (hj : bs[j]? = some b) : i = j := by
  obtain ⟨a1, a2⟩ := List.getElem?_eq_some_iff.1 hi
  obtain ⟨b1, b2⟩ := List.getElem?_eq_some_iff.1 hj
  exact (List.getElem_inj h).1 (a2.trans b2.symm)
/-- one hasher was written, and its text -/
theorem Hs.write {w w' : World} {base gh ch gt ct n m r b : Nat} {bs : List Nat} {ts : List ByteArray} {t s : ByteArray} (h : Hs w base gh ch gt ct n bs ts m) (hb : bs[r]? = some b) (ht : ts[r]? = some t)
    (hw : But b w w') (hh : Has b (t.data.toList ++ s.data.toList) w') (hs : s.size ≤ 1048576) : Hs (w'.setCell ⟨gt, r, none⟩ (.string (t ++ s))) base gh ch gt ct n bs (ts.set r (t ++ s)) (m + 1048576) := by
  have hr : r < ts.length := (List.getElem?_eq_some_iff.1 ht).1
  have hbm := List.mem_of_getElem? hb
  have ne1 : gh ≠ b := fun e => h.nh (e ▸ hbm)
  have ne2 : gt ≠ b := fun e => h.nt (e ▸ hbm)
  have o1 : Own w' base (.slice (some ⟨gh, 0, none⟩) n ch) (pvs bs) := h.ownh.but hw (fun e => ne1 (by simpa [Value.ownBlock] using e))
  have o2 : Own w' base (.slice (some ⟨gt, 0, none⟩) n ct) (tvs ts) := h.ownt.but hw (fun e => ne2 (by simpa [Value.ownBlock] using e))
  have hB : But gt w' (w'.setCell ⟨gt, r, none⟩ (.string (t ++ s))) := (But.refl gt w').setCell r _
  have o3 := (o2.asN (n' := (tvs ts).length) (by rw [tvs_length, h.lent])).set r (by rw [tvs_length]; exact hr) (.string (t ++ s))
  have e3 : (tvs ts).set r (.string (t ++ s)) = tvs (ts.set r (t ++ s)) := by simp [tvs, List.map_set]
  rw [e3] at o3
  refine { h with ownh := o1.but hB (fun e => h.ne (by simpa [Value.ownBlock] using e)), ownt := o3.asN (by rw [tvs_length, List.length_set, h.lent]), lent := by rw [List.length_set, h.lent], small := fun x hx => ?_, has := fun j c x h1 h2 => ?_ }
  · rcases List.mem_or_eq_of_mem_set hx with hx | rfl
    · have := h.small x hx; omega
    · have := h.small t (List.mem_of_getElem? ht); rw [app_size]; omega
  · have hcm := List.mem_of_getElem? h1
    refine Has.but ?_ hB (fun e => h.nt (e ▸ hcm))
    rw [List.getElem?_set] at h2
    by_cases e : r = j
    · subst e
      rw [if_pos rfl, if_pos hr] at h2
      cases h2
      obtain rfl : b = c := Option.some.inj (hb.symm.trans h1)
      have : (t ++ s).data.toList = t.data.toList ++ s.data.toList := by rw [ByteArray.data_append, Array.toList_append]
      rw [this]; exact hh
    · rw [if_neg e] at h2
      exact (h.has j c x h1 h2).but hw (fun e' => e (nodup_get h.nodup hb (e' ▸ h1)))
end Go.Proofs.YtcaephnicaepaaaDoor
