import Derived.Test.YtonmhimoglgbgaaDoorZ6
import Derived.Test.YtonmhimoglgbgaaDoorP1
import Derived.Deep.SlicePairs
namespace Go.Proofs.YtonmhimoglgbgaaDoor
open Go.RowKit Cod

/-- the j-th step lies there -/
structure StAt (W : World) (x : Addr) (j : Nat) (p : Stp) (o kp : Bool) (mm : Int) (s : ByteArray) (lv tv : Value) : Prop where
  blk : x.block < W.heap.size
  c0 : W.cell? (x.add (j * 8)) = some (.bool o)
  c1 : W.cell? (x.add (j * 8 + 1)) = some (.bool kp)
  c2 : W.cell? (x.add (j * 8 + 2)) = some (.int .i64 p.kd)
  c3 : W.cell? (x.add (j * 8 + 3)) = some (.int .i64 p.nn)
  c4 : W.cell? (x.add (j * 8 + 4)) = some (.int .i64 mm)
  c5 : W.cell? (x.add (j * 8 + 5)) = some (.string s)
  c6 : W.cell? (x.add (j * 8 + 6)) = some lv
  c7 : W.cell? (x.add (j * 8 + 7)) = some tv
  n1 : -9223372036854775808 ≤ p.nn
  n2 : p.nn ≤ 9223372036854775807
  hs : s.data.toList = p.s
  hs2 : s.size ≤ 1048576
  hl : SlcI W lv p.l
  hlb : ∀ c ∈ p.l, -9223372036854775808 ≤ c ∧ c ≤ 9223372036854775807
  hll : p.l.length ≤ 1048576
  ht : Slc W tv p.ts
  htl : p.ts.length ≤ 1048576
def Scr (W : World) (a : Option Addr) (N : Nat) (F : Nat → Stp) : Prop := ∀ j, j < N → ∃ (x : Addr) (o kp : Bool) (mm : Int) (s : ByteArray) (lv tv : Value), a = some x ∧ StAt W x j (F j) o kp mm s lv tv
/-- a step's cells, in a later world -/
theorem StAt.later {W w : World} {x : Addr} {j : Nat} {p : Stp} {o kp : Bool} {mm : Int} {s : ByteArray} {lv tv : Value} (h : StAt W x j p o kp mm s lv tv) (hb : Below W.heap.size W w) :
    w.cell? (x.add (j * 8)) = some (.bool o) ∧ w.cell? ⟨(x.add (j * 8)).block, (x.add (j * 8)).off + 1, none⟩ = some (.bool kp) ∧ w.cell? ⟨(x.add (j * 8)).block, (x.add (j * 8)).off + 2, none⟩ = some (.int .i64 p.kd) ∧
    w.cell? ⟨(x.add (j * 8)).block, (x.add (j * 8)).off + 3, none⟩ = some (.int .i64 p.nn) ∧ w.cell? ⟨(x.add (j * 8)).block, (x.add (j * 8)).off + 4, none⟩ = some (.int .i64 mm) ∧ w.cell? ⟨(x.add (j * 8)).block, (x.add (j * 8)).off + 5, none⟩ = some (.string s) ∧
    w.cell? ⟨(x.add (j * 8)).block, (x.add (j * 8)).off + 6, none⟩ = some lv ∧ w.cell? ⟨(x.add (j * 8)).block, (x.add (j * 8)).off + 7, none⟩ = some tv := by
  have g : ∀ (i : Nat) (v : Value), W.cell? (x.add (j * 8 + i)) = some v → w.cell? ((x.add (j * 8)).add i) = some v := fun i v hv => by
    rw [Go.Deep.add_add]
    exact (hb.cell (p := x.add (j * 8 + i)) (by rw [add_block]; exact h.blk)).trans hv
  exact ⟨g 0 _ h.c0, g 1 _ h.c1, g 2 _ h.c2, g 3 _ h.c3, g 4 _ h.c4, g 5 _ h.c5, g 6 _ h.c6, g 7 _ h.c7⟩
theorem wrRise_len : ∀ (l : List Nat) (a : Nat), Rises a l → (wrRise a l).length ≤ 9 * l.length
  | [], _, _ => by simp [wrRise]
  | n :: l, a, h => by
    have h1 := wrRise_len l (n + 1) h.2.2
    have h2 := digs_len9 (n := n - a) (by have := h.2.1; unfold top at this; omega)
    rw [wrRise, List.length_append, List.length_cons]; omega
theorem txs_len : ∀ (l : List (List UInt8)), (∀ t ∈ l, t.length ≤ 20) → ((l.map wrText).flatten).length ≤ 29 * l.length
  | [], _ => by simp
  | t :: l, h => by
    have h1 := txs_len l (fun u hu => h u (by simp [hu]))
    have h2 := h t (by simp)
    have h3 := digs_len9 (n := t.length) (by omega)
    rw [List.map_cons, List.flatten_cons, List.length_append, List.length_cons, wrText, List.length_append]; omega
theorem Stp.bytes_le (p : Stp) (hs : p.s.length ≤ 1048576) : p.bytes.length ≤ 1050000 := by
  have a1 := p.rl_len
  have a2 := p.tl_len
  have a3 := p.hl_len
  unfold Stp.bytes
  split
  · simp
  split
  · have := digs_len9 (n := p.m2) (by have h := pkN_lt p.nn 4611686018427387904 (by omega); have h' : p.m2 < 4611686018427387904 := h; omega); omega
  split
  · have h1 := wrRise_len p.rl 0 p.rl_rises
    have h2 := digs_len9 (n := p.rl.length) (by omega)
    rw [wrRising, List.length_append]; omega
  split
  · have h2 := digs_len9 (n := p.s.length) (by omega)
    rw [wrText, List.length_append]; omega
  split
  · have h1 := txs_len p.tl p.tl_mem
    have h2 := digs_len9 (n := p.tl.length) (by omega)
    rw [wrTexts, List.length_append]; omega
  split
  · have h1 := flatten32 p.hl p.hl_mem
    have h2 := digs_len9 (n := p.hl.length) (by omega)
    rw [wrHashes, List.length_append]; omega
  split
  · omega
  · simp
end Go.Proofs.YtonmhimoglgbgaaDoor
