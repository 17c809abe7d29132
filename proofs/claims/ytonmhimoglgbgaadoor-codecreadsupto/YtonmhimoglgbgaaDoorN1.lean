import Derived.Test.YtonmhimoglgbgaaDoorJ5
namespace Go.Proofs.YtonmhimoglgbgaaDoor
open Go.RowKit Cod

/-- a Reader: what is left, how much was taken, what was wrong (0: nothing) -/
structure RS where
  rest : List UInt8
  taken : Nat
  err : Int
def RS.step {α : Type} (st : RS) (x : Rd α) : RS :=
  if st.err = 0 then (match x with
    | .bad e => ⟨st.rest, st.taken, (e : Int)⟩
    | .good _ r => ⟨r, st.taken + (st.rest.length - r.length), 0⟩) else st
def RS.val {α : Type} (st : RS) (d : α) (x : Rd α) : α :=
  if st.err = 0 then (match x with
    | .bad _ => d
    | .good v _ => v) else d
def RS.wrong (st : RS) : Value := if st.err = 0 then .nilIface else flt st.err (st.taken : Int)
/-- it lies in block b -/
def Rdr (w : World) (b : Nat) (st : RS) : Prop :=
  w.heap[b]? = some (.cells #[sv st.rest, .int .i64 (st.taken : Int), st.wrong] 74 (0, 0)) ∧ st.taken + st.rest.length ≤ 9223372036854775807
theorem Rdr.lt {w : World} {b : Nat} {st : RS} (h : Rdr w b st) : b < w.heap.size := lt_of_heap h.1
theorem Rdr.keep {S : Nat → Prop} {w w' : World} {b : Nat} {st : RS} (h : Rdr w b st) (hb : Keep S w w') (hne : ¬ S b) : Rdr w' b st := ⟨(hb.block b h.lt hne).trans h.1, h.2⟩
theorem Rdr.below {w w' : World} {b : Nat} {st : RS} (h : Rdr w b st) (hb : Below w.heap.size w w') : Rdr w' b st := ⟨(hb.block b h.lt).trans h.1, h.2⟩
theorem row3_set (w : World) (b i : Nat) (x y z u : Value) (t : TypeId) (cs : Array Value) (hc : #[x, y, z].setIfInBounds i u = cs) (h : w.heap[b]? = some (.cells #[x, y, z] t (0, 0))) : (w.setCell ⟨b, i, none⟩ u).heap[b]? = some (.cells cs t (0, 0)) := by
  rw [heap_setCell_same _ _ _ _ _ _ h, hc]
theorem step_bad {α : Type} {st : RS} {x : Rd α} (h : st.err ≠ 0) : st.step x = st := by unfold RS.step; exact if_neg h
theorem val_bad {α : Type} {st : RS} {d : α} {x : Rd α} (h : st.err ≠ 0) : st.val d x = d := by unfold RS.val; exact if_neg h
theorem RS.eta (st : RS) (h : st.err = 0) : st = ⟨st.rest, st.taken, 0⟩ := by cases st; simp at h; rw [h]

set_option maxRecDepth 100000 in
theorem newReader_any (s : ByteArray) (hs : s.size ≤ maxLen) (w : World) :
    Calls Tryd.prog 9 #[.string s] w fun r w' => r = .returned (.pointer (some ⟨w.heap.size, 0, none⟩)) ∧ Rdr w' w.heap.size ⟨s.data.toList, 0, 0⟩ ∧ Below w.heap.size w w' ∧ w'.heap.size = w.heap.size + 1 := by
  go_enter Tryd.func9, Tryd.ntmps9
  go_wp2
  go_ret
  refine ⟨rfl, ⟨?_, ?_⟩, (Below.refl _ _).alloc (Nat.le_refl _) _, size_alloc _ _⟩
  · rw [sv_of]; exact heap_alloc_new w _
  · unfold maxLen at hs; rw [data_length]; simp; omega

set_option maxRecDepth 100000 in
set_option maxHeartbeats 400000 in
theorem left_any (b : Nat) (st : RS) (w : World) (h : Rdr w b st) :
    Calls Tryd.prog 12 #[.pointer (some ⟨b, 0, none⟩)] w fun r w' => r = .returned (.int .i64 (st.rest.length : Int)) ∧ w' = w := by
  have hz := sv_size st.rest
  have c0 : w.cell? ⟨b, 0, none⟩ = some (.string ⟨st.rest.toArray⟩) := by rw [cell_of_row _ _ _ _ _ _ h.1]; rfl
  rw [← hz]
  generalize ByteArray.mk st.rest.toArray = rb at *
  have H := hid h
  clear h hz
  go_enter Tryd.func12, Tryd.ntmps12
  go_wp2
  go_ret
  exact ⟨rfl, rfl⟩

/-- what Done says -/
def RS.done (st : RS) : Int := if st.err = 0 then (if st.rest.length = 0 then 0 else 24) else st.err
set_option maxRecDepth 100000 in
set_option maxHeartbeats 1000000 in
theorem rDone_any (b : Nat) (st : RS) (w : World) (T : Lay w) (h : Rdr w b st) :
    Calls Tryd.prog 11 #[.pointer (some ⟨b, 0, none⟩)] w fun r w' => r = .returned (.tuple #[.int .i64 st.done, .int .i64 (st.taken : Int)]) ∧ Below w.heap.size w w' := by
  have hT := T.lt
  have bw : Below w.heap.size w (w.alloc (.cells #[.int .i64 0, .int .i64 0] 70)) := (Below.refl _ _).alloc (Nat.le_refl _) _
  have W1 := h.below bw
  have T1 := hid (T.below bw hT)
  have hrow := heap_alloc_new w (.cells #[.int .i64 0, .int .i64 0] 70)
  have hsz := size_alloc w (.cells #[.int .i64 0, .int .i64 0] 70)
  have BW := hid bw
  clear h T bw
  by_cases he : st.err = 0
  · have c2 : (w.alloc (.cells #[.int .i64 0, .int .i64 0] 70)).cell? ⟨b, 2, none⟩ = some .nilIface := by rw [cell_of_row _ _ _ _ _ _ W1.1, RS.wrong, if_pos he]; rfl
    have c1 : (w.alloc (.cells #[.int .i64 0, .int .i64 0] 70)).cell? ⟨b, 1, none⟩ = some (.int .i64 (st.taken : Int)) := by rw [cell_of_row _ _ _ _ _ _ W1.1]; rfl
    have c0 : (w.alloc (.cells #[.int .i64 0, .int .i64 0] 70)).cell? ⟨b, 0, none⟩ = some (.string ⟨st.rest.toArray⟩) := by rw [cell_of_row _ _ _ _ _ _ W1.1]; rfl
    have hz := sv_size st.rest
    rw [RS.done, if_pos he, ← hz]
    generalize ByteArray.mk st.rest.toArray = rb at *
    clear W1 hz hrow
    by_cases h0 : rb.size = 0
    · rw [if_pos h0]
      have b0 : ¬ (0 : Int) < (rb.size : Int) := by omega
      have Hh := hid h0
      clear h0
      go_enter Tryd.func11, Tryd.ntmps11
      go_wp2_with (go_at_call 33; refine (as_nil _ _).mono ?_; rintro e w' ⟨rfl, hw'⟩; rw [hw']; clear hw' w')
      go_quiet (fail)
      go_wp2
      go_ret2
      exact ⟨rfl, below_drewN BW.out _⟩
    · rw [if_neg h0]
      have b0 : (0 : Int) < (rb.size : Int) := by omega
      go_enter Tryd.func11, Tryd.ntmps11
      go_wp2_with (go_at_call 33; refine (as_nil _ _).mono ?_; rintro e w' ⟨rfl, hw'⟩; rw [hw']; clear hw' w')
      go_quiet (fail)
      go_wp2
      go_ret2
      exact ⟨rfl, below_drewN BW.out _⟩
  · have c2 : (w.alloc (.cells #[.int .i64 0, .int .i64 0] 70)).cell? ⟨b, 2, none⟩ = some (.iface 70 (.agg #[.int .i64 st.err, .int .i64 (st.taken : Int)])) := by rw [cell_of_row _ _ _ _ _ _ W1.1, RS.wrong, if_neg he]; rfl
    rw [RS.done, if_neg he]
    generalize st.err = f at *
    generalize (st.taken : Int) = tk at *
    have HR := hid hrow
    clear W1 hrow
    go_enter Tryd.func11, Tryd.ntmps11
    go_wp2_with (go_at_call 33; fail)
    go_at_call 33
    refine (as_hit f tk w.heap.size _ _ _ T1.out HR.out).mono ?_
    rintro e w2 ⟨rfl, h1, h2⟩
    have d0 : w2.cell? ⟨w.heap.size, 0, none⟩ = some (.int .i64 f) := by rw [cell_of_row _ _ _ _ _ _ h1]; rfl
    have d1 : w2.cell? ⟨w.heap.size, 1, none⟩ = some (.int .i64 tk) := by rw [cell_of_row _ _ _ _ _ _ h1]; rfl
    have B2 := hid (BW.out.trans (h2.below (Nat.le_refl _) (by omega)))
    clear h1 h2 c2
    go_wp2
    go_quiet (fail)
    go_wp2
    go_ret2
    exact ⟨rfl, below_drewN B2.out _⟩
end Go.Proofs.YtonmhimoglgbgaaDoor
