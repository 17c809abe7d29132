import Derived.Test.YtdbbemcddhgbcaaGreatDoorPpR1
import Derived.Test.YtdbbemcddhgbcaaGreatDoorPpNSH
import Derived.Lib.ItoaLen
/- Layer 22: what the world holds; errnoOf; Itoa -/
namespace Go.Proofs.YtdbbemcddhgbcaaGreatDoor
open Go.RowKit Go.Shelf
namespace Nt
/-- the five sentinels' places -/
structure Es where
  f : Addr
  n : Addr
  b : Addr
  m : Addr
  o : Addr
/-- what the world holds -/
structure Nw (w : World) (E : Es) : Prop where
  p : Lib.TabIs Tryz.prog w "internal/strconv.uint64pow10" .u64 Lib.pow10Tab
  vf : w.cell? ⟨0, 0, none⟩ = some (EV E.f)
  vn : w.cell? ⟨1, 0, none⟩ = some (EV E.n)
  vb : w.cell? ⟨2, 0, none⟩ = some (EV E.b)
  vm : w.cell? ⟨3, 0, none⟩ = some (EV E.m)
  vo : w.cell? ⟨4, 0, none⟩ = some (EV E.o)
  of : Ob w E.f
  on : Ob w E.n
  ob : Ob w E.b
  om : Ob w E.m
  oo : Ob w E.o
  vs : ∃ ev, w.cell? ⟨7, 0, none⟩ = some ev ∧ (ev = .nilIface ∨ ∃ te pe, ev = .iface te pe)
  vr : ∃ ev, w.cell? ⟨8, 0, none⟩ = some ev ∧ (ev = .nilIface ∨ ∃ te pe, ev = .iface te pe)
  fn : E.f ≠ E.n
  fb : E.f ≠ E.b
  fm : E.f ≠ E.m
  fo : E.f ≠ E.o
  nb : E.n ≠ E.b
  nm : E.n ≠ E.m
  no : E.n ≠ E.o
  bm : E.b ≠ E.m
  bo : E.b ≠ E.o
  mo : E.m ≠ E.o
theorem gPow : Tryz.prog.globalNamed "internal/strconv.uint64pow10" = some 6 := by kernel_rfl
theorem tabIs_below {w w' : World} {B : Nat} (h : Lib.TabIs Tryz.prog w "internal/strconv.uint64pow10" .u64 Lib.pow10Tab) (hb : Below B w w') (hB : 6 < B) : Lib.TabIs Tryz.prog w' "internal/strconv.uint64pow10" .u64 Lib.pow10Tab := by
  unfold Lib.TabIs World.var? at h ⊢
  rw [gPow] at h ⊢
  simp only [Option.bind_some] at h ⊢
  rw [hb.block _ hB]
  exact h
theorem Nw.below {w w' : World} {E : Es} (h : Nw w E) (hb : Below w.heap.size w w') : Nw w' E where
  p := tabIs_below h.p hb (block_lt_of_cell (h.p.cell gPow 0 (by decide)))
  vf := (hb.cell (p := ⟨0, 0, none⟩) (block_lt_of_cell h.vf)).trans h.vf
  vn := (hb.cell (p := ⟨1, 0, none⟩) (block_lt_of_cell h.vn)).trans h.vn
  vb := (hb.cell (p := ⟨2, 0, none⟩) (block_lt_of_cell h.vb)).trans h.vb
  vm := (hb.cell (p := ⟨3, 0, none⟩) (block_lt_of_cell h.vm)).trans h.vm
  vo := (hb.cell (p := ⟨4, 0, none⟩) (block_lt_of_cell h.vo)).trans h.vo
  of := h.of.below hb
  on := h.on.below hb
  ob := h.ob.below hb
  om := h.om.below hb
  oo := h.oo.below hb
  vs := by obtain ⟨ev, h1, h2⟩ := h.vs; exact ⟨ev, (hb.cell (p := ⟨7, 0, none⟩) (block_lt_of_cell h1)).trans h1, h2⟩
  vr := by obtain ⟨ev, h1, h2⟩ := h.vr; exact ⟨ev, (hb.cell (p := ⟨8, 0, none⟩) (block_lt_of_cell h1)).trans h1, h2⟩
  fn := h.fn
  fb := h.fb
  fm := h.fm
  fo := h.fo
  nb := h.nb
  nm := h.nm
  no := h.no
  bm := h.bm
  bo := h.bo
  mo := h.mo
theorem below_growN (w : World) (k : Nat) (os : Array Obj) : Below w.heap.size w (Go.Sort.grow (w.drewN k) os) :=
  ⟨rfl, rfl, rfl, by show w.heap.size ≤ (w.heap ++ os).size; rw [Array.size_append]; omega, fun j hj => by show (w.heap ++ os)[j]? = _; rw [Array.getElem?_append_left hj]⟩
/-- a number's digits -/
def iT (n : Int) : ByteArray := ⟨(Lib.itoa n).toArray⟩
theorem iT_size (n : Int) (h0 : -9223372036854775808 ≤ n) (h1 : n ≤ 9223372036854775807) : (iT n).size ≤ 21 := by
  unfold iT
  rw [sv_size]
  exact Lib.itoa_length_le n h0 h1
theorem add_str (P : Program) (t : TypeId) (a b : ByteArray) (h : a.size + b.size ≤ 9223372036854775807) (w : World) : (binOp .add t (.string a) (.string b)).run P w = .ok (.string (a ++ b)) w := by
  rw [binOp_string_add, run_string_add_sum w _ _ h]
theorem itoa_any {E : Es} {w : World} (h : Nw w E) (n : Int) (h0 : -9223372036854775808 ≤ n) (h1 : n ≤ 9223372036854775807) : Calls Tryz.prog 53 #[.int .i64 n] w fun r w' => r = .returned (.string (iT n)) ∧ Below w.heap.size w w' :=
  (Tryz.strconv_Itoa n h0 h1 w h.p).mono fun r w' ⟨e, k, os, e'⟩ => ⟨e, by rw [e']; exact below_growN w k os⟩
theorem errnoOf_nil (w : World) : Calls Tryz.prog 32 #[.nilIface] w fun r w' => r = .returned (.int .i64 0) ∧ w' = w := by
  go_enter Tryz.func32, Tryz.ntmps32
  go_wp2
  go_ret
  exact ⟨rfl, rfl⟩
theorem errnoOf_field {E : Es} {w : World} (h : Nw w E) (s : ByteArray) : Calls Tryz.prog 32 #[FV s (EV E.f)] w fun r w' => r = .returned (.int .i64 221) ∧ Below w.heap.size w w' := by
  have H := hid h
  clear h
  have i0 := fun w' (bb : Below w.heap.size w w') => is_one s E.f E.f w' (H.out.below bb).of (H.out.below bb).of
  rw [decide_eq_true rfl] at i0
  have c0 := fun w' (bb : Below w.heap.size w w') => (H.out.below bb).vf
  unfold FV EV at *
  go_enter Tryz.func32, Tryz.ntmps32
  have d0 := c0 w (Below.refl _ _)
  have j0 := i0 w (Below.refl _ _)
  go_wp2_with (go_at_call 51; fail)
  refine j0.mono ?_
  rintro r w1 ⟨rfl, b1⟩
  have B1 := b1
  go_wp2
  go_ret
  exact ⟨rfl, B1⟩
theorem errnoOf_none {E : Es} {w : World} (h : Nw w E) (s : ByteArray) : Calls Tryz.prog 32 #[FV s (EV E.n)] w fun r w' => r = .returned (.int .i64 222) ∧ Below w.heap.size w w' := by
  have H := hid h
  clear h
  have i0 := fun w' (bb : Below w.heap.size w w') => is_one s E.n E.f w' (H.out.below bb).on (H.out.below bb).of
  rw [decide_eq_false (Ne.symm H.out.fn)] at i0
  have c0 := fun w' (bb : Below w.heap.size w w') => (H.out.below bb).vf
  have i1 := fun w' (bb : Below w.heap.size w w') => is_one s E.n E.n w' (H.out.below bb).on (H.out.below bb).on
  rw [decide_eq_true rfl] at i1
  have c1 := fun w' (bb : Below w.heap.size w w') => (H.out.below bb).vn
  unfold FV EV at *
  go_enter Tryz.func32, Tryz.ntmps32
  have d0 := c0 w (Below.refl _ _)
  have j0 := i0 w (Below.refl _ _)
  go_wp2_with (go_at_call 51; fail)
  refine j0.mono ?_
  rintro r w1 ⟨rfl, b1⟩
  have B1 := b1
  have d1 := c1 w1 B1
  have j1 := i1 w1 B1
  go_wp2_with (go_at_call 51; fail)
  refine j1.mono ?_
  rintro r w2 ⟨rfl, b2⟩
  have B2 := B1.trans (b2.mono B1.size)
  go_wp2
  go_ret
  exact ⟨rfl, B2⟩
theorem errnoOf_many {E : Es} {w : World} (h : Nw w E) (s : ByteArray) : Calls Tryz.prog 32 #[FV s (EV E.m)] w fun r w' => r = .returned (.int .i64 224) ∧ Below w.heap.size w w' := by
  have H := hid h
  clear h
  have i0 := fun w' (bb : Below w.heap.size w w') => is_one s E.m E.f w' (H.out.below bb).om (H.out.below bb).of
  rw [decide_eq_false (Ne.symm H.out.fm)] at i0
  have c0 := fun w' (bb : Below w.heap.size w w') => (H.out.below bb).vf
  have i1 := fun w' (bb : Below w.heap.size w w') => is_one s E.m E.n w' (H.out.below bb).om (H.out.below bb).on
  rw [decide_eq_false (Ne.symm H.out.nm)] at i1
  have c1 := fun w' (bb : Below w.heap.size w w') => (H.out.below bb).vn
  have i2 := fun w' (bb : Below w.heap.size w w') => is_one s E.m E.b w' (H.out.below bb).om (H.out.below bb).ob
  rw [decide_eq_false (Ne.symm H.out.bm)] at i2
  have c2 := fun w' (bb : Below w.heap.size w w') => (H.out.below bb).vb
  have i3 := fun w' (bb : Below w.heap.size w w') => is_one s E.m E.m w' (H.out.below bb).om (H.out.below bb).om
  rw [decide_eq_true rfl] at i3
  have c3 := fun w' (bb : Below w.heap.size w w') => (H.out.below bb).vm
  unfold FV EV at *
  go_enter Tryz.func32, Tryz.ntmps32
  have d0 := c0 w (Below.refl _ _)
  have j0 := i0 w (Below.refl _ _)
  go_wp2_with (go_at_call 51; fail)
  refine j0.mono ?_
  rintro r w1 ⟨rfl, b1⟩
  have B1 := b1
  have d1 := c1 w1 B1
  have j1 := i1 w1 B1
  go_wp2_with (go_at_call 51; fail)
  refine j1.mono ?_
  rintro r w2 ⟨rfl, b2⟩
  have B2 := B1.trans (b2.mono B1.size)
  have d2 := c2 w2 B2
  have j2 := i2 w2 B2
  go_wp2_with (go_at_call 51; fail)
  refine j2.mono ?_
  rintro r w3 ⟨rfl, b3⟩
  have B3 := B2.trans (b3.mono B2.size)
  have d3 := c3 w3 B3
  have j3 := i3 w3 B3
  go_wp2_with (go_at_call 51; fail)
  refine j3.mono ?_
  rintro r w4 ⟨rfl, b4⟩
  have B4 := B3.trans (b4.mono B3.size)
  go_wp2
  go_ret
  exact ⟨rfl, B4⟩
theorem errnoOf_form {E : Es} {w : World} (h : Nw w E) (s : ByteArray) : Calls Tryz.prog 32 #[FV s (EV E.o)] w fun r w' => r = .returned (.int .i64 220) ∧ Below w.heap.size w w' := by
  have H := hid h
  clear h
  have i0 := fun w' (bb : Below w.heap.size w w') => is_one s E.o E.f w' (H.out.below bb).oo (H.out.below bb).of
  rw [decide_eq_false (Ne.symm H.out.fo)] at i0
  have c0 := fun w' (bb : Below w.heap.size w w') => (H.out.below bb).vf
  have i1 := fun w' (bb : Below w.heap.size w w') => is_one s E.o E.n w' (H.out.below bb).oo (H.out.below bb).on
  rw [decide_eq_false (Ne.symm H.out.no)] at i1
  have c1 := fun w' (bb : Below w.heap.size w w') => (H.out.below bb).vn
  have i2 := fun w' (bb : Below w.heap.size w w') => is_one s E.o E.b w' (H.out.below bb).oo (H.out.below bb).ob
  rw [decide_eq_false (Ne.symm H.out.bo)] at i2
  have c2 := fun w' (bb : Below w.heap.size w w') => (H.out.below bb).vb
  have i3 := fun w' (bb : Below w.heap.size w w') => is_one s E.o E.m w' (H.out.below bb).oo (H.out.below bb).om
  rw [decide_eq_false (Ne.symm H.out.mo)] at i3
  have c3 := fun w' (bb : Below w.heap.size w w') => (H.out.below bb).vm
  unfold FV EV at *
  go_enter Tryz.func32, Tryz.ntmps32
  have d0 := c0 w (Below.refl _ _)
  have j0 := i0 w (Below.refl _ _)
  go_wp2_with (go_at_call 51; fail)
  refine j0.mono ?_
  rintro r w1 ⟨rfl, b1⟩
  have B1 := b1
  have d1 := c1 w1 B1
  have j1 := i1 w1 B1
  go_wp2_with (go_at_call 51; fail)
  refine j1.mono ?_
  rintro r w2 ⟨rfl, b2⟩
  have B2 := B1.trans (b2.mono B1.size)
  have d2 := c2 w2 B2
  have j2 := i2 w2 B2
  go_wp2_with (go_at_call 51; fail)
  refine j2.mono ?_
  rintro r w3 ⟨rfl, b3⟩
  have B3 := B2.trans (b3.mono B2.size)
  have d3 := c3 w3 B3
  have j3 := i3 w3 B3
  go_wp2_with (go_at_call 51; fail)
  refine j3.mono ?_
  rintro r w4 ⟨rfl, b4⟩
  have B4 := B3.trans (b4.mono B3.size)
  go_wp2
  go_ret
  exact ⟨rfl, B4⟩
theorem errnoOf_bad {E : Es} {w : World} (h : Nw w E) (s : ByteArray) : Calls Tryz.prog 32 #[FV s (EV E.b)] w fun r w' => r = .returned (.int .i64 223) ∧ Below w.heap.size w w' := by
  have H := hid h
  clear h
  have i0 := fun w' (bb : Below w.heap.size w w') => is_one s E.b E.f w' (H.out.below bb).ob (H.out.below bb).of
  rw [decide_eq_false (Ne.symm H.out.fb)] at i0
  have c0 := fun w' (bb : Below w.heap.size w w') => (H.out.below bb).vf
  have i1 := fun w' (bb : Below w.heap.size w w') => is_one s E.b E.n w' (H.out.below bb).ob (H.out.below bb).on
  rw [decide_eq_false (Ne.symm H.out.nb)] at i1
  have c1 := fun w' (bb : Below w.heap.size w w') => (H.out.below bb).vn
  have i2 := fun w' (bb : Below w.heap.size w w') => is_one s E.b E.b w' (H.out.below bb).ob (H.out.below bb).ob
  rw [decide_eq_true rfl] at i2
  have c2 := fun w' (bb : Below w.heap.size w w') => (H.out.below bb).vb
  unfold FV EV at *
  go_enter Tryz.func32, Tryz.ntmps32
  have d0 := c0 w (Below.refl _ _)
  have j0 := i0 w (Below.refl _ _)
  go_wp2_with (go_at_call 51; fail)
  refine j0.mono ?_
  rintro r w1 ⟨rfl, b1⟩
  have B1 := b1
  have d1 := c1 w1 B1
  have j1 := i1 w1 B1
  go_wp2_with (go_at_call 51; fail)
  refine j1.mono ?_
  rintro r w2 ⟨rfl, b2⟩
  have B2 := B1.trans (b2.mono B1.size)
  have d2 := c2 w2 B2
  have j2 := i2 w2 B2
  go_wp2_with (go_at_call 51; fail)
  refine j2.mono ?_
  rintro r w3 ⟨rfl, b3⟩
  have B3 := B2.trans (b3.mono B2.size)
  go_wp2
  go_ret
  exact ⟨rfl, B3⟩
end Nt
end Go.Proofs.YtdbbemcddhgbcaaGreatDoor
