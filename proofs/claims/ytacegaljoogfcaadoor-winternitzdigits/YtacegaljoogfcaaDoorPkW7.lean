import Derived.Test.YtacegaljoogfcaaDoorPkW6
namespace Go.Proofs.YtacegaljoogfcaaDoor
open Go.RowKit

theorem hid {p : Prop} (h : p) : Hid p := h
theorem sv_data (l : List UInt8) : (ByteArray.mk l.toArray).data.toList = l := by simp
theorem sv_size (l : List UInt8) : (ByteArray.mk l.toArray).size = l.length := by rw [← data_length, sv_data]
theorem write_sv (b : Nat) (t l : List UInt8) (hlen : t.length + l.length < 2305843009213693952) (w : World) (T : Tabs w) (hb2 : 2 ≤ b) (hb : Has b t w) :
    Calls Tryd.prog 11 #[.pointer (some ⟨b, 0, none⟩), sv l] w fun e w' => e = .returned (.tuple #[]) ∧ Has b (t ++ l) w' ∧ But b w w' := by
  have := write_any b t ⟨l.toArray⟩ (by rw [sv_size]; exact hlen) w T hb2 hb
  rwa [sv_data] at this
theorem Has.lt {b : Nat} {t : List UInt8} {w : World} (h : Has b t w) : b < w.heap.size := by
  obtain ⟨st, rest, _, hh⟩ := h
  exact lt_of_heap hh
theorem Has.below {b B : Nat} {t : List UInt8} {w w' : World} (h : Has b t w) (hb : Below B w w') (hB : b < B) : Has b t w' := by
  obtain ⟨st, rest, h1, hh⟩ := h
  exact ⟨st, rest, h1, (hb.block b hB).trans hh⟩
theorem Has.but {b c : Nat} {t : List UInt8} {w w' : World} (h : Has b t w) (hb : But c w w') (hne : b ≠ c) : Has b t w' := by
  have hl := h.lt
  obtain ⟨st, rest, h1, hh⟩ := h
  exact ⟨st, rest, h1, (hb.block b hl hne).trans hh⟩

theorem new_hasher (w1 : World) (Z C : Array Value) : ((w1.alloc (.cells Z 34)).setRow w1.heap.size C).heap[w1.heap.size]? = some (.cells C 34 (0, 0)) ∧
    Below w1.heap.size w1 ((w1.alloc (.cells Z 34)).setRow w1.heap.size C) :=
  ⟨setRow_heap _ _ _ _ _ _ (heap_alloc_new w1 _), Below.setRow ((Below.refl _ _).alloc (Nat.le_refl _) _) (Nat.le_refl _) _⟩

set_option maxRecDepth 100000 in
set_option maxHeartbeats 400000 in
theorem hsum_any (b : Nat) (t : List UInt8) (hlen : t.length < 2305843009213693800) (w : World) (T : Tabs w) (hb : Has b t w) :
    Calls Tryd.prog 12 #[.pointer (some ⟨b, 0, none⟩)] w fun e w' => e = .returned (sv (Sha.sha t)) ∧ Below w.heap.size w w' := by
  obtain ⟨st, rest, hs, hh⟩ := hb
  have HH : Hid _ := hh
  have HS : Hid _ := hs
  have hl := hs.len
  have hT := T.lt
  clear hh hs
  have hz := zero60
  go_enter Tryd.func12, Tryd.ntmps12
  go_wp2_with (first
    | (go_at_call 16; refine (copied_any b _ st rest hl _ HH.out).mono ?_; rintro e w1 ⟨rfl, hw1⟩)
    | (with_reducible show wpList _ _ _ (Oper.mk _ (Op.store 34 _ _) _ _ _ _ :: _) _ _; go_must (refine wpList_store_row rfl 34 _ _ rfl w1.heap.size _ rfl rfl 34 _ (heap_alloc_new w1 _) (size73 hl) (by rw [List.size_toArray, List.size_toArray, hcells_length hl, hcells_length (by simp [r0])]) (hcells_one _ _ _) ?_); go_must (obtain ⟨hh2, hw2⟩ := new_hasher w1 (hcells z0 r0 0).toArray (hcells st rest t.length).toArray; have hM := hw1.size; replace hw2 := hw1.trans (hw2.mono hM); generalize (w1.alloc (Obj.cells (hcells z0 r0 0).toArray 34)).setRow w1.heap.size (hcells st rest t.length).toArray = w2 at *; generalize w1.heap.size = M at *; clear hw1; have d72 := hcells_taken hh2 hl; have T2 := T.below hw2 hT; have Hh2 := hid hh2; clear hh2))
    | (go_at_call 17; refine (filling_any _ (by omega) _).mono ?_; rintro e w3 ⟨rfl, hw3⟩)
    | (go_at_call 11; refine (write_sv M t (Sha.filling t.length) (by have := Sha.filling_mod t.length; omega) _ (T2.below hw3 T2.lt) (by omega) (Has.below ⟨st, rest, HS.out, Hh2.out⟩ hw3 (lt_of_heap Hh2.out))).mono ?_; rintro e w4 ⟨rfl, ⟨st4, rest4, hs4, hh4⟩, hw4⟩; have Hs4 := hid hs4; have Hh4 := hid hh4; clear hs4 hh4)
    | (with_reducible show wpList _ _ _ (Oper.mk _ (Op.load 31 _) _ _ _ _ :: _) _ _; go_must (refine wpList_load_mid rfl 31 _ rfl M 0 rfl _ _ (hcells_state Hh4.out) Tryd.underlying31 rfl (size8 _) ?_))
    | (go_at_call 18; refine (wordBytes_any st4 Hs4.out.ok _).mono ?_; rintro e w5 ⟨rfl, hw5⟩))
  go_ret
  refine ⟨?_, ?_⟩
  · show Ending.returned (sv st4.bytes) = _
    rw [Hs4.out.sum]
  · have hlt := lt_of_heap Hh2.out
    have b2 := hw3.size
    have b4 := hw4.size
    have b1 := hw2.size
    exact ((hw2.trans (hw3.mono (by omega))).trans (hw4.below hM (by omega))).trans (hw5.mono (by omega))

/-- texts in a row of cells -/
def Texts (w : World) (g o : Nat) (ps : List (List UInt8)) : Prop := ∀ j p, ps[j]? = some p → w.cell? ⟨g, o + j, none⟩ = some (sv p)
def total (ps : List (List UInt8)) : Nat := ps.flatten.length
theorem take_flatten (ps : List (List UInt8)) (k : Nat) (h : k < ps.length) : (ps.take (k + 1)).flatten = (ps.take k).flatten ++ ps[k] := by
  rw [List.take_succ_eq_append_getElem h, List.flatten_append, List.flatten_cons, List.flatten_nil, List.append_nil]
theorem total_take (ps : List (List UInt8)) (k : Nat) (h : k < ps.length) : (ps.take k).flatten.length + ps[k].length ≤ total ps := by
  have e : ps.flatten = (ps.take (k + 1)).flatten ++ (ps.drop (k + 1)).flatten := by rw [← List.flatten_append, List.take_append_drop]
  rw [total, e, take_flatten ps k h]; simp

set_option maxRecDepth 100000 in
set_option maxHeartbeats 400000 in
theorem sum_none (w : World) (T : Tabs w) :
    Calls Tryd.prog 7 #[.slice none 0 0] w fun e w' => e = .returned (sv (Sha.sha [])) ∧ Below w.heap.size w w' := by
  have hz := zero60
  have hT := T.lt
  go_enter Tryd.func7, Tryd.ntmps7
  go_wp2
  refine wp_loop_rounds 1 ?_
  rw [rounds_succ]
  go_wp2_with (go_at_call 12; refine (hsum_any w.heap.size [] (by simp) _ (T.below ((Below.refl _ _).alloc (Nat.le_refl _) _) hT) ⟨z0, r0, Sha.HS.none, heap_alloc_new w _⟩).mono ?_; rintro e w5 ⟨rfl, hw5⟩)
  go_ret
  refine ⟨rfl, ?_⟩
  exact ((Below.refl _ _).alloc (Nat.le_refl _) _).trans (hw5.mono (by rw [size_alloc]; omega))

set_option maxRecDepth 100000 in
set_option maxHeartbeats 400000 in
theorem sum_any (g o cap : Nat) (ps : List (List UInt8)) (hlen : total ps < 2305843009213693800) (hps : ps.length ≤ maxLen) (w : World) (T : Tabs w) (hg : g < w.heap.size) (hp : Texts w g o ps) :
    Calls Tryd.prog 7 #[.slice (some ⟨g, o, none⟩) ps.length cap] w fun e w' => e = .returned (sv (Sha.sha ps.flatten)) ∧ Below w.heap.size w w' := by
  have hz := zero60
  have hT := T.lt
  unfold maxLen at hps
  have Hp := hid hp
  clear hp
  go_enter Tryd.func7, Tryd.ntmps7
  go_wp2
  go_loopw [8] (fun i w' => ∃ k : Nat, k ≤ ps.length ∧ i = .int .i64 k ∧ Has w.heap.size (ps.take k).flatten w' ∧ But w.heap.size (w.alloc (Obj.cells (hcells z0 r0 0).toArray 34)) w') (fun i _ => ps.length - (intOf i).toNat)
  case atStart => exact ⟨0, by omega, rfl, ⟨z0, r0, Sha.HS.none, heap_alloc_new w _⟩, But.refl _ _⟩
  case round =>
    obtain ⟨k, hk, rfl, hh, hbut⟩ := hrel
    have hbl : Below w.heap.size w wr := ((Below.refl _ _).alloc (Nat.le_refl _) _).trans (hbut.below (Nat.le_refl _) (by rw [size_alloc]; omega))
    have T2 := T.below hbl hT
    by_cases hlt : k < ps.length
    · have hlt' : (k : Int) < (ps.length : Int) := by omega
      have cp : wr.cell? ⟨g, o + k, none⟩ = some (sv ps[k]) := (hbl.cell (p := ⟨g, o + k, none⟩) hg).trans (Hp.out k _ (List.getElem?_eq_getElem hlt))
      have hpl := total_take ps k hlt
      have tf := hid (take_flatten ps k hlt)
      generalize ps[k] = p at *
      generalize (ps.take k).flatten = t at *
      go_wp2_with (go_at_call 11; refine (write_sv w.heap.size t p (by omega) _ T2 (by omega) hh).mono ?_; rintro e w4 ⟨rfl, hh4, hw4⟩)
      exact ⟨⟨k + 1, by omega, by go_num, by rw [tf.out]; exact hh4, hbut.trans hw4⟩, by simp [intOf]; omega⟩
    · obtain rfl : k = ps.length := by omega
      go_wp2_with (go_at_call 12; refine (hsum_any w.heap.size (ps.take ps.length).flatten (by rw [List.take_length]; exact hlen) _ T2 hh).mono ?_; rintro e w5 ⟨rfl, hw5⟩)
      go_ret
      refine ⟨by rw [← List.take_length (l := ps)]; rfl, ?_⟩
      exact hbl.trans (hw5.mono hbl.size)
end Go.Proofs.YtacegaljoogfcaaDoor
