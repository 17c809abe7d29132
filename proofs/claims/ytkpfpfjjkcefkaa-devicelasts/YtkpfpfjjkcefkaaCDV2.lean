import Derived.Test.YtkpfpfjjkcefkaaCDL3
import Derived.Maps.Range
namespace Go.Proofs.Ytkpfpfjjkcefkaa
open Go.RowKit Go.Maps

abbrev mT : TypeId := 82
theorem kInt : Keyed Try.prog 3 := int_keyed Try.underlying3
/-- a device in memory: the block of its fields a, of its pages g, of its map b -/
structure Dv (w : World) (a g b : Nat) (L : List (List UInt8)) (p : Nat → Option (List UInt8)) (left : Nat) (dead : Bool) : Prop where
  row : ∃ cap, w.heap[a]? = some (.cells #[.slice (some ⟨g, 0, none⟩) L.length cap, .map (some b), .int .i64 (left : Int), .bool dead] 84 (0, 0)) ∧ L.length ≤ cap ∧ cap ≤ maxLen
  rng : w.rangeAt g 0 (svs L)
  th : w.there g 0 L.length
  mp : ∃ D, w.ownsMap Try.prog 3 wR b L.length D ∧ Pn L.length p D
  ag : a ≠ g
  gl : g < w.heap.size
  l4 : 4 ≤ L.length
  l96 : L.length ≤ 4096
  pg : ∀ x ∈ L, x.length = 256
  lf : left ≤ 9223372036854775807
theorem Dv.al {w : World} {a g b : Nat} {L : List (List UInt8)} {p : Nat → Option (List UInt8)} {left : Nat} {dead : Bool} (h : Dv w a g b L p left dead) : a < w.heap.size := by
  obtain ⟨cap, h1, _⟩ := h.row
  exact lt_of_heap h1
theorem Dv.bl {w : World} {a g b : Nat} {L : List (List UInt8)} {p : Nat → Option (List UInt8)} {left : Nat} {dead : Bool} (h : Dv w a g b L p left dead) : b < w.heap.size := by
  obtain ⟨D, h1, _⟩ := h.mp
  exact h1.lt
theorem Dv.ab {w : World} {a g b : Nat} {L : List (List UInt8)} {p : Nat → Option (List UInt8)} {left : Nat} {dead : Bool} (h : Dv w a g b L p left dead) : a ≠ b := fun e => by
  obtain ⟨cap, h1, _⟩ := h.row
  obtain ⟨D, ⟨es, cl, h2, _⟩, _⟩ := h.mp
  rw [e, h2] at h1
  cases h1
theorem Dv.gb {w : World} {a g b : Nat} {L : List (List UInt8)} {p : Nat → Option (List UInt8)} {left : Nat} {dead : Bool} (h : Dv w a g b L p left dead) : g ≠ b := fun e => by
  obtain ⟨D, ⟨es, cl, h2, _⟩, _⟩ := h.mp
  have h4 := h.l4
  have := (h.th 0 (by omega)).1
  rw [e] at this
  simp [World.cell?, h2] at this
theorem Dv.kept {w w' : World} {a g b : Nat} {L : List (List UInt8)} {p : Nat → Option (List UInt8)} {left : Nat} {dead : Bool} (h : Dv w a g b L p left dead) (hs : w.heap.size ≤ w'.heap.size)
    (ha : w'.heap[a]? = w.heap[a]?) (hg : w'.heap[g]? = w.heap[g]?) (hb : w'.heap[b]? = w.heap[b]?) : Dv w' a g b L p left dead where
  row := by rw [ha]; exact h.row
  rng := rangeAt_heap h.rng hg
  th := there_heap h.th hg
  mp := by
    obtain ⟨D, ⟨es, cl, h1, h2⟩, h3⟩ := h.mp
    exact ⟨D, ⟨es, cl, hb.trans h1, h2⟩, h3⟩
  ag := h.ag
  gl := Nat.lt_of_lt_of_le h.gl hs
  l4 := h.l4
  l96 := h.l96
  pg := h.pg
  lf := h.lf
theorem Dv.below {w w' : World} {a g b B : Nat} {L : List (List UInt8)} {p : Nat → Option (List UInt8)} {left : Nat} {dead : Bool} (h : Dv w a g b L p left dead) (hb : Below B w w') (hB : w.heap.size ≤ B) : Dv w' a g b L p left dead :=
  h.kept hb.size (hb.block a (Nat.lt_of_lt_of_le h.al hB)) (hb.block g (Nat.lt_of_lt_of_le h.gl hB)) (hb.block b (Nat.lt_of_lt_of_le h.bl hB))
/-- what is there stays, but for these three blocks -/
structure Kp (a g b : Nat) (w w' : World) : Prop where
  os : w'.os = w.os
  tape : w'.tape = w.tape
  output : w'.output = w.output
  size : w.heap.size ≤ w'.heap.size
  block : ∀ k, k < w.heap.size → k ≠ a → k ≠ g → k ≠ b → w'.heap[k]? = w.heap[k]?
theorem Kp.ofBelow {a g b : Nat} {w w' : World} (h : Below w.heap.size w w') : Kp a g b w w' := ⟨h.os, h.tape, h.output, h.size, fun k hk _ _ _ => h.block k hk⟩
theorem Kp.trans {a g b : Nat} {w w1 w2 : World} (h : Kp a g b w w1) (k : Kp a g b w1 w2) : Kp a g b w w2 :=
  ⟨k.os.trans h.os, k.tape.trans h.tape, k.output.trans h.output, Nat.le_trans h.size k.size, fun i hi h1 h2 h3 => (k.block i (Nat.lt_of_lt_of_le hi h.size) h1 h2 h3).trans (h.block i hi h1 h2 h3)⟩
theorem Kp.below {a g b B : Nat} {w w' : World} (h : Kp a g b w w') (ha : B ≤ a) (hg : B ≤ g) (hb : B ≤ b) (hB : B ≤ w.heap.size) : Below B w w' :=
  ⟨h.os, h.tape, h.output, h.size, fun k hk => h.block k (by omega) (by omega) (by omega) (by omega)⟩
theorem Dv.c0 {w : World} {a g b : Nat} {L : List (List UInt8)} {p : Nat → Option (List UInt8)} {left : Nat} {dead : Bool} (h : Dv w a g b L p left dead) : ∃ cap, L.length ≤ cap ∧ cap ≤ maxLen ∧
    w.cell? ⟨a, 0, none⟩ = some (.slice (some ⟨g, 0, none⟩) L.length cap) ∧ w.cell? ⟨a, 1, none⟩ = some (.map (some b)) ∧ w.cell? ⟨a, 2, none⟩ = some (.int .i64 (left : Int)) ∧ w.cell? ⟨a, 3, none⟩ = some (.bool dead) := by
  obtain ⟨cap, h1, h2, h3⟩ := h.row
  exact ⟨cap, h2, h3, by rw [cell_of_row _ _ _ _ _ _ h1]; rfl, by rw [cell_of_row _ _ _ _ _ _ h1]; rfl, by rw [cell_of_row _ _ _ _ _ _ h1]; rfl, by rw [cell_of_row _ _ _ _ _ _ h1]; rfl⟩
set_option maxRecDepth 100000 in
theorem orNone_some (q : Addr) (w : World) :
    Calls Try.prog 34 #[.pointer (some q)] w fun r w' => r = .returned (.pointer (some q)) ∧ w' = w := by
  go_enter Try.func34, Try.ntmps34
  go_wp2
  go_ret
  exact ⟨rfl, rfl⟩
set_option maxRecDepth 100000 in
theorem dSize {w : World} {a g b : Nat} {L : List (List UInt8)} {p : Nat → Option (List UInt8)} {left : Nat} {dead : Bool} (h : Dv w a g b L p left dead) :
    Calls Try.prog 13 #[.pointer (some ⟨a, 0, none⟩)] w fun r w' => r = .returned (.int .i64 (L.length : Int)) ∧ w' = w := by
  obtain ⟨cap, k1, k2, c0, c1, c2, c3⟩ := h.c0
  go_enter Try.func13, Try.ntmps13
  go_wp2_with (go_at_call 34; refine (orNone_some _ _).mono ?_; rintro r w9 ⟨rfl, rfl⟩)
  go_ret
  exact ⟨rfl, rfl⟩
set_option maxRecDepth 100000 in
theorem dDead {w : World} {a g b : Nat} {L : List (List UInt8)} {p : Nat → Option (List UInt8)} {left : Nat} {dead : Bool} (h : Dv w a g b L p left dead) :
    Calls Try.prog 14 #[.pointer (some ⟨a, 0, none⟩)] w fun r w' => r = .returned (.bool dead) ∧ w' = w := by
  obtain ⟨cap, k1, k2, c0, c1, c2, c3⟩ := h.c0
  go_enter Try.func14, Try.ntmps14
  go_wp2_with (go_at_call 34; refine (orNone_some _ _).mono ?_; rintro r w9 ⟨rfl, rfl⟩)
  go_ret
  exact ⟨rfl, rfl⟩
set_option maxRecDepth 100000 in
theorem dHas {w : World} {a g b : Nat} {L : List (List UInt8)} {p : Nat → Option (List UInt8)} {left : Nat} {dead : Bool} (h : Dv w a g b L p left dead) (n : Int) :
    Calls Try.prog 40 #[.pointer (some ⟨a, 0, none⟩), .int .i64 n] w fun r w' => r = .returned (.bool (decide (0 ≤ n ∧ n < (L.length : Int)))) ∧ w' = w := by
  have i1 := dSize h
  go_enter Try.func40, Try.ntmps40
  by_cases h0 : 0 ≤ n
  · go_wp2_with (go_at_call 13; refine i1.mono ?_; rintro r w9 ⟨rfl, rfl⟩)
    go_ret
    exact ⟨by simp [h0], rfl⟩
  · go_wp2_with (go_at_call 13; refine i1.mono ?_; rintro r w9 ⟨rfl, rfl⟩)
    go_ret
    exact ⟨by simp; intro h; omega, rfl⟩
set_option maxRecDepth 100000 in
theorem mayHave_any (n : Int) (w : World) :
    Calls Try.prog 28 #[.int .i64 n] w fun r w' => r = .returned (.bool (decide (4 ≤ n ∧ n ≤ 4096))) ∧ w' = w := by
  go_enter Try.func28, Try.ntmps28
  by_cases h0 : 4 ≤ n
  · go_wp2
    go_ret
    exact ⟨by simp [h0], rfl⟩
  · go_wp2
    go_ret
    exact ⟨by simp; intro h; omega, rfl⟩
set_option maxRecDepth 100000 in
theorem isNoPage_any (s : ByteArray) (w : World) :
    Calls Try.prog 32 #[.string s] w fun r w' => r = .returned (.bool (decide (s.size ≠ 256))) ∧ w' = w := by
  go_enter Try.func32, Try.ntmps32
  go_wp2
  go_ret
  refine ⟨?_, rfl⟩
  by_cases e : s.size = 256
  · simp [e]
  · have e' : ¬ (s.size : Int) = 256 := by omega
    simp [e, e']
end Go.Proofs.Ytkpfpfjjkcefkaa
