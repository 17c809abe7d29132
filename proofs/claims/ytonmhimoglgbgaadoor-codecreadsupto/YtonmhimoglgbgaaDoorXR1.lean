import Derived.Test.YtonmhimoglgbgaaDoorQ2
import Derived.Test.YtonmhimoglgbgaaDoorN6
namespace Go.Proofs.YtonmhimoglgbgaaDoor
open Go.RowKit Cod

/-- the document's Reader of s, in block b -/
def XRd (w : World) (b : Nat) (s : ByteArray) (st : RS) : Prop :=
  w.heap[b]? = some (.cells #[.string s, .int .i64 (st.taken : Int), .int .i64 st.err] 80 (0, 0)) ∧ st.rest = s.data.toList.drop st.taken ∧ st.taken ≤ s.size ∧ s.size ≤ 1048576
theorem XRd.lt {w : World} {b : Nat} {s : ByteArray} {st : RS} (h : XRd w b s st) : b < w.heap.size := lt_of_heap h.1
theorem XRd.keep {S : Nat → Prop} {w w' : World} {b : Nat} {s : ByteArray} {st : RS} (h : XRd w b s st) (hb : Keep S w w') (hne : ¬ S b) : XRd w' b s st := ⟨(hb.block b h.lt hne).trans h.1, h.2⟩
theorem XRd.below {w w' : World} {b : Nat} {s : ByteArray} {st : RS} (h : XRd w b s st) (hb : Below w.heap.size w w') : XRd w' b s st := ⟨(hb.block b h.lt).trans h.1, h.2⟩
theorem XRd.len {w : World} {b : Nat} {s : ByteArray} {st : RS} (h : XRd w b s st) : st.rest.length = s.size - st.taken := by
  rw [h.2.1, List.length_drop, data_length]
/-- what a reading leaves is an end of the bytes -/
theorem rest_of {α : Type} {R : List UInt8 → Rd α} (hp : Pf R) {l : List UInt8} {a : Nat} {v : α} {r : List UInt8} (h : R (l.drop a) = .good v r) (ha : a ≤ l.length) : r = l.drop (l.length - r.length) ∧ r.length ≤ l.length - a := by
  obtain ⟨p, hp⟩ := hp.ends _ _ _ h
  have hl := congrArg List.length hp
  rw [List.length_drop, List.length_append] at hl
  refine ⟨?_, by omega⟩
  rw [show l.length - r.length = a + p.length from by omega, ← List.drop_drop, hp, List.drop_left]
/-- a call has come to its end -/
theorem XRd.good {α : Type} {R : List UInt8 → Rd α} (hp : Pf R) {w : World} {b : Nat} {s : ByteArray} {st : RS} (h : XRd w b s st) (he : st.err = 0) {v : α} {r : List UInt8} (hr : R st.rest = .good v r) :
    XRd (w.setCell ⟨b, 1, none⟩ (.int .i64 ((s.size - r.length : Nat) : Int))) b s (st.step (R st.rest)) := by
  obtain ⟨h1, h2, h3, h4⟩ := h
  have hd := data_length s
  have hr' := hr
  rw [h2] at hr'
  obtain ⟨e1, e2⟩ := rest_of hp hr' (by omega)
  rw [hd] at e1 e2
  rw [hr, step_good he]
  have hl : st.rest.length = s.size - st.taken := by rw [h2, List.length_drop, hd]
  have ht : st.taken + (st.rest.length - r.length) = s.size - r.length := by omega
  refine ⟨?_, ?_, ?_, h4⟩
  · rw [ht]
    rw [he] at h1
    exact row3_set _ _ _ _ _ _ _ _ _ rfl h1
  · show r = s.data.toList.drop (st.taken + (st.rest.length - r.length))
    rw [ht]; exact e1
  · show st.taken + (st.rest.length - r.length) ≤ s.size
    omega
/-- something was wrong with a call -/
theorem XRd.bad {α : Type} {x : Rd α} {w : World} {b : Nat} {s : ByteArray} {st : RS} (h : XRd w b s st) (he : st.err = 0) {e : Nat} (hx : x = .bad e) :
    XRd (w.setCell ⟨b, 2, none⟩ (.int .i64 (e : Int))) b s (st.step x) := by
  subst hx
  rw [step_badx he]
  exact ⟨row3_set _ _ _ _ _ _ _ _ _ rfl h.1, h.2⟩
theorem XRd.but1 (w : World) (b i : Nat) (v : Value) : But b w (w.setCell ⟨b, i, none⟩ v) := (But.refl b w).setCell i v
set_option maxRecDepth 100000 in
theorem ends_ok (b : Nat) (x y z : Value) (to_ : Int) (w : World) (h : w.heap[b]? = some (.cells #[x, y, z] 80 (0, 0))) :
    Calls Tryd.prog 83 #[.pointer (some ⟨b, 0, none⟩), .int .i64 to_, .int .i64 0] w fun r w' => r = .returned (.bool true) ∧ w' = w.setCell ⟨b, 1, none⟩ (.int .i64 to_) := by
  have c1 : w.cell? ⟨b, 1, none⟩ = some y := by rw [cell_of_row _ _ _ _ _ _ h]; rfl
  have f1 : w.frozen? ⟨b, 1, none⟩ = false := frozen_of_row _ _ _ _ _ h
  go_enter Tryd.func83, Tryd.ntmps83
  go_wp2
  go_ret
  exact ⟨rfl, rfl⟩
set_option maxRecDepth 100000 in
theorem ends_bad (b e : Nat) (x y z : Value) (to_ : Int) (w : World) (he : 0 < e) (h : w.heap[b]? = some (.cells #[x, y, z] 80 (0, 0))) :
    Calls Tryd.prog 83 #[.pointer (some ⟨b, 0, none⟩), .int .i64 to_, .int .i64 (e : Int)] w fun r w' => r = .returned (.bool false) ∧ w' = w.setCell ⟨b, 2, none⟩ (.int .i64 (e : Int)) := by
  have c1 : w.cell? ⟨b, 2, none⟩ = some z := by rw [cell_of_row _ _ _ _ _ _ h]; rfl
  have f1 : w.frozen? ⟨b, 2, none⟩ = false := frozen_of_row _ _ _ _ _ h
  have he' : ((e : Int) != 0) = true := by simp; omega
  have he2 : ((e : Int) == 0) = false := by simp; omega
  go_enter Tryd.func83, Tryd.ntmps83
  go_wp2
  go_ret
  exact ⟨rfl, rfl⟩
set_option maxRecDepth 100000 in
theorem xNew_any (s : ByteArray) (hs : s.size ≤ 1048576) (w : World) :
    Calls Tryd.prog 13 #[.string s] w fun r w' => r = .returned (.pointer (some ⟨w.heap.size, 0, none⟩)) ∧ XRd w' w.heap.size s ⟨s.data.toList, 0, 0⟩ ∧ Below w.heap.size w w' ∧ w'.heap.size = w.heap.size + 1 := by
  go_enter Tryd.func13, Tryd.ntmps13
  go_wp2
  go_ret
  exact ⟨rfl, ⟨heap_alloc_new w _, rfl, Nat.zero_le _, hs⟩, (Below.refl _ _).alloc (Nat.le_refl _) _, size_alloc _ _⟩
theorem below_same {w w' : World} (h : w'.heap = w.heap) (ho : w'.os = w.os) (ht : w'.tape = w.tape) (hu : w'.output = w.output) : Below w.heap.size w w' := ⟨ho, ht, hu, by rw [h]; exact Nat.le_refl _, fun k _ => by rw [h]⟩
set_option maxRecDepth 100000 in
theorem xLeft_any (b : Nat) (s : ByteArray) (st : RS) (w : World) (h : XRd w b s st) :
    Calls Tryd.prog 48 #[.pointer (some ⟨b, 0, none⟩)] w fun r w' => r = .returned (.int .i64 (st.rest.length : Int)) ∧ Below w.heap.size w w' := by
  have c0 : w.cell? ⟨b, 0, none⟩ = some (.string s) := by rw [cell_of_row _ _ _ _ _ _ h.1]; rfl
  have c1 : w.cell? ⟨b, 1, none⟩ = some (.int .i64 (st.taken : Int)) := by rw [cell_of_row _ _ _ _ _ _ h.1]; rfl
  have hl := h.len
  have h3 := h.2.2.1
  have h4 := h.2.2.2
  have e : (st.rest.length : Int) = (s.size : Int) - (st.taken : Int) := by omega
  rw [e]
  clear e hl h
  generalize st.taken = tk at *
  have x1 : IntKind.i64.wrap ((s.size : Int) - (tk : Int)) = (s.size : Int) - (tk : Int) := by rw [IntKind.wrap_i64]; omega
  go_enter Tryd.func48, Tryd.ntmps48
  go_wp2
  go_quiet (fail)
  go_wp2
  go_ret
  exact ⟨rfl, below_drewN (Below.refl _ _) _⟩
set_option maxRecDepth 100000 in
set_option maxHeartbeats 1000000 in
theorem xDone_any (b : Nat) (s : ByteArray) (st : RS) (w : World) (h : XRd w b s st) :
    Calls Tryd.prog 15 #[.pointer (some ⟨b, 0, none⟩)] w fun r w' => r = .returned (.tuple #[.int .i64 st.done, .int .i64 (st.taken : Int)]) ∧ Below w.heap.size w w' := by
  have c0 : w.cell? ⟨b, 0, none⟩ = some (.string s) := by rw [cell_of_row _ _ _ _ _ _ h.1]; rfl
  have c1 : w.cell? ⟨b, 1, none⟩ = some (.int .i64 (st.taken : Int)) := by rw [cell_of_row _ _ _ _ _ _ h.1]; rfl
  have c2 : w.cell? ⟨b, 2, none⟩ = some (.int .i64 st.err) := by rw [cell_of_row _ _ _ _ _ _ h.1]; rfl
  have hl := h.len
  have h3 := h.2.2.1
  have h4 := h.2.2.2
  rw [RS.done, hl]
  clear hl h
  generalize st.taken = tk at *
  generalize st.err = er at *
  by_cases he : er = 0
  · subst he
    rw [if_pos rfl]
    by_cases h0 : tk < s.size
    · rw [if_neg (by omega)]
      have b0 : (tk : Int) < (s.size : Int) := by omega
      have b1 : decide ((tk : Int) < (s.size : Int)) = true := by simpa using b0
      go_enter Tryd.func15, Tryd.ntmps15
      go_wp2
      go_quiet (fail)
      go_wp2
      go_quiet (fail)
      go_wp2
      go_ret2
      exact ⟨rfl, below_drewN (below_drewN (Below.refl _ _) _) _⟩
    · rw [if_pos (by omega)]
      have b0 : ¬ (tk : Int) < (s.size : Int) := by omega
      have b1 : decide ((tk : Int) < (s.size : Int)) = false := by simpa using b0
      go_enter Tryd.func15, Tryd.ntmps15
      go_wp2
      go_quiet (fail)
      go_wp2
      go_quiet (fail)
      go_wp2
      go_ret2
      exact ⟨rfl, below_drewN (below_drewN (Below.refl _ _) _) _⟩
  · rw [if_neg he]
    have b0 : (er != 0) = true := by simpa using he
    have b1 : (er == 0) = false := by simpa using he
    go_enter Tryd.func15, Tryd.ntmps15
    go_wp2
    go_quiet (fail)
    go_wp2
    go_ret2
    exact ⟨rfl, below_drewN (Below.refl _ _) _⟩
end Go.Proofs.YtonmhimoglgbgaaDoor
