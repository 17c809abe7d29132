import Derived.Test.YtdmaiodckialmaaDoorCSP28
import Derived.Test.YtdmaiodckialmaaDoorCO1
namespace Go.Proofs.YtdmaiodckialmaaDoor
open Go.RowKit Go.Shelf
theorem SpI.drew1 {w : World} {g : Nat} {b e : Int} (h : SpI w g b e) : SpI w.drew g b e := h
theorem SpI.drewK {w : World} {g : Nat} {b e : Int} (h : SpI w g b e) (k : Nat) : SpI (w.drewN k) g b e := h
set_option maxRecDepth 100000 in
set_option maxHeartbeats 1000000 in
theorem stands8_no (K : List (Int × Int)) (b e : Int) (a : Option Addr) (c : Nat) (w : World) (hl : K.length ≤ 9223372036854775800) (hK : AtQ w a K) (hno : ∀ j, j < K.length → K[j]? ≠ some (b, e)) :
    Calls Tryd.prog 61 #[.slice a K.length c, sg b e] w fun r w' => r = .returned (.int .i64 (-1)) ∧ Below w.heap.size w w' := by
  obtain ⟨n, hn⟩ : ∃ n, Hid (K.length = n) := ⟨_, rfl⟩
  rw [hn.out] at hl ⊢
  have H1 := hid hK
  have S0 := hid (SpI.new w b e)
  have B0 := hid ((Below.refl _ w).alloc (Nat.le_refl _) (.cells #[.int .i64 b, .int .i64 e] 25))
  unfold sg
  clear hK
  go_enter Tryd.func61, Tryd.ntmps61
  go_wp2
  generalize w.alloc (.cells #[.int .i64 b, .int .i64 e] 25) = wA at *
  go_loopw [5] (fun iv wr => ∃ k : Nat, iv = .int .i64 (k : Int) ∧ k ≤ n ∧ Hid (SpI wr w.heap.size b e) ∧ Hid (Below w.heap.size w wr)) (fun iv _ => n + 1 - (intOf iv).toNat)
  case atStart => exact ⟨0, rfl, Nat.zero_le _, S0, B0⟩
  case round =>
    clear S0 B0
    obtain ⟨k, rfl, hk, hS, hB⟩ := hrel
    have s0 := hS.out.c0
    have s1 := hS.out.c1
    by_cases hkn : k < n
    · have b0 : (k : Int) < (n : Int) := by omega
      have b1 : (0 : Int) ≤ (k : Int) := by omega
      obtain ⟨x, y, hq⟩ : ∃ x y, K[k]? = some (x, y) := ⟨_, _, List.getElem?_eq_getElem (by have := hn.out; omega)⟩
      obtain ⟨g1, rfl, _, p0, p1⟩ := (H1.out.below hB.out (Nat.le_refl _)) k (x, y) hq
      have p0 : wr.cell? (g1.add (k * 2)) = some (.int .i64 x) := p0
      have p1 : wr.cell? ⟨(g1.add (k * 2)).block, (g1.add (k * 2)).off + 1, none⟩ = some (.int .i64 y) := by
        show wr.cell? ((g1.add (k * 2)).add 1) = _
        rw [add_one8]; exact p1
      have hxy : ¬ (x = b ∧ y = e) := fun h => hno k (by rw [hn.out]; exact hkn) (by rw [hq, h.1, h.2])
      have hcase : (¬ x = b) ∨ ((x = b) = True ∧ ¬ y = e) := by
        by_cases e1 : x = b
        · exact .inr ⟨eq_true e1, fun e2 => hxy ⟨e1, e2⟩⟩
        · exact .inl e1
      clear H1 hq hxy
      rcases hcase with hne | ⟨hne, hne2⟩
      all_goals
        go_wp2
        go_quiet (fail)
        go_wp2
        exact ⟨⟨k + 1, by go_num, by omega, by first | exact hS | exact hid hS.out.drew1 | exact hid (hS.out.drewK _), by first | exact hB | exact hid hB.out.drew | exact hid (below_drewN hB.out _)⟩, by simp [intOf]; omega⟩
    · obtain rfl : k = n := by omega
      have b0 : ¬ (k : Int) < (k : Int) := by omega
      go_wp2
      go_ret
      exact ⟨rfl, hB.out⟩
set_option maxRecDepth 100000 in
set_option maxHeartbeats 1000000 in
theorem stands8_at (K : List (Int × Int)) (b e : Int) (a : Option Addr) (c : Nat) (w : World) (hl : K.length ≤ 9223372036854775800) (hK : AtQ w a K) (i : Nat) (hi : K[i]? = some (b, e)) (hno : ∀ j, j < i → K[j]? ≠ some (b, e)) :
    Calls Tryd.prog 61 #[.slice a K.length c, sg b e] w fun r w' => r = .returned (.int .i64 (i : Int)) ∧ Below w.heap.size w w' := by
  obtain ⟨n, hn⟩ : ∃ n, Hid (K.length = n) := ⟨_, rfl⟩
  rw [hn.out] at hl ⊢
  have H1 := hid hK
  have S0 := hid (SpI.new w b e)
  have B0 := hid ((Below.refl _ w).alloc (Nat.le_refl _) (.cells #[.int .i64 b, .int .i64 e] 25))
  unfold sg
  clear hK
  go_enter Tryd.func61, Tryd.ntmps61
  go_wp2
  generalize w.alloc (.cells #[.int .i64 b, .int .i64 e] 25) = wA at *
  go_loopw [5] (fun iv wr => ∃ k : Nat, iv = .int .i64 (k : Int) ∧ k ≤ i ∧ Hid (SpI wr w.heap.size b e) ∧ Hid (Below w.heap.size w wr)) (fun iv _ => i + 1 - (intOf iv).toNat)
  case atStart => exact ⟨0, rfl, Nat.zero_le _, S0, B0⟩
  case round =>
    clear S0 B0
    obtain ⟨k, rfl, hk, hS, hB⟩ := hrel
    have s0 := hS.out.c0
    have s1 := hS.out.c1
    have hin : i < n := by have := (List.getElem?_eq_some_iff.1 hi).1; rw [hn.out] at this; exact this
    have b0 : (k : Int) < (n : Int) := by omega
    have b1 : (0 : Int) ≤ (k : Int) := by omega
    by_cases hkn : k < i
    · obtain ⟨x, y, hq⟩ : ∃ x y, K[k]? = some (x, y) := ⟨_, _, List.getElem?_eq_getElem (by have := hn.out; omega)⟩
      obtain ⟨g1, rfl, _, p0, p1⟩ := (H1.out.below hB.out (Nat.le_refl _)) k (x, y) hq
      have p0 : wr.cell? (g1.add (k * 2)) = some (.int .i64 x) := p0
      have p1 : wr.cell? ⟨(g1.add (k * 2)).block, (g1.add (k * 2)).off + 1, none⟩ = some (.int .i64 y) := by
        show wr.cell? ((g1.add (k * 2)).add 1) = _
        rw [add_one8]; exact p1
      have hxy : ¬ (x = b ∧ y = e) := fun h => hno k hkn (by rw [hq, h.1, h.2])
      have hcase : (¬ x = b) ∨ ((x = b) = True ∧ ¬ y = e) := by
        by_cases e1 : x = b
        · exact .inr ⟨eq_true e1, fun e2 => hxy ⟨e1, e2⟩⟩
        · exact .inl e1
      clear H1 hq hxy
      rcases hcase with hne | ⟨hne, hne2⟩
      all_goals
        go_wp2
        go_quiet (fail)
        go_wp2
        exact ⟨⟨k + 1, by go_num, by omega, by first | exact hS | exact hid hS.out.drew1 | exact hid (hS.out.drewK _), by first | exact hB | exact hid hB.out.drew | exact hid (below_drewN hB.out _)⟩, by simp [intOf]; omega⟩
    · obtain rfl : k = i := by omega
      obtain ⟨g1, rfl, _, p0, p1⟩ := (H1.out.below hB.out (Nat.le_refl _)) k (b, e) hi
      have p0 : wr.cell? (g1.add (k * 2)) = some (.int .i64 b) := p0
      have p1 : wr.cell? ⟨(g1.add (k * 2)).block, (g1.add (k * 2)).off + 1, none⟩ = some (.int .i64 e) := by
        show wr.cell? ((g1.add (k * 2)).add 1) = _
        rw [add_one8]; exact p1
      clear H1 hi hno
      go_wp2
      go_quiet (fail)
      go_wp2
      go_ret
      exact ⟨rfl, by first | exact hB.out | exact hB.out.drew | exact below_drewN hB.out _⟩
set_option maxRecDepth 100000 in
set_option maxHeartbeats 1000000 in
theorem within8_no (K : List (Int × Int)) (b e : Int) (a : Option Addr) (c : Nat) (w : World) (hl : K.length ≤ 9223372036854775800) (hK : AtQ w a K) (hno : ∀ (j : Nat) (x y : Int), j < K.length → K[j]? = some (x, y) → hasI b e x y = false) :
    Calls Tryd.prog 62 #[.slice a K.length c, sg b e] w fun r w' => r = .returned (.bool false) ∧ Below w.heap.size w w' := by
  obtain ⟨n, hn⟩ : ∃ n, Hid (K.length = n) := ⟨_, rfl⟩
  rw [hn.out] at hl ⊢
  have H1 := hid hK
  have S0 := hid (SpI.new w b e)
  have B0 := hid ((Below.refl _ w).alloc (Nat.le_refl _) (.cells #[.int .i64 b, .int .i64 e] 25))
  unfold sg
  clear hK
  go_enter Tryd.func62, Tryd.ntmps62
  go_wp2
  generalize w.alloc (.cells #[.int .i64 b, .int .i64 e] 25) = wA at *
  go_loopw [5] (fun iv wr => ∃ k : Nat, iv = .int .i64 (k : Int) ∧ k ≤ n ∧ Hid (SpI wr w.heap.size b e) ∧ Hid (Below w.heap.size w wr)) (fun iv _ => n + 1 - (intOf iv).toNat)
  case atStart => exact ⟨0, rfl, Nat.zero_le _, S0, B0⟩
  case round =>
    clear S0 B0
    obtain ⟨k, rfl, hk, hS, hB⟩ := hrel
    have s0 := hS.out.c0
    have s1 := hS.out.c1
    by_cases hkn : k < n
    · have b0 : (k : Int) < (n : Int) := by omega
      have b1 : (0 : Int) ≤ (k : Int) := by omega
      obtain ⟨x, y, hq⟩ : ∃ x y, K[k]? = some (x, y) := ⟨_, _, List.getElem?_eq_getElem (by have := hn.out; omega)⟩
      obtain ⟨g1, rfl, _, p0, p1⟩ := (H1.out.below hB.out (Nat.le_refl _)) k (x, y) hq
      have p0 : wr.cell? (g1.add (k * 2)) = some (.int .i64 x) := p0
      have p1 : wr.cell? ⟨(g1.add (k * 2)).block, (g1.add (k * 2)).off + 1, none⟩ = some (.int .i64 y) := by
        show wr.cell? ((g1.add (k * 2)).add 1) = _
        rw [add_one8]; exact p1
      have hh := hno k x y (by rw [hn.out]; exact hkn) hq
      unfold hasI at hh
      have hh := of_decide_eq_false hh
      clear H1 hq
      by_cases d1 : b ≤ x
      · have f1 : decide (b ≤ x) = true := decide_eq_true d1
        by_cases d2 : y ≤ e
        · have f2 : decide (y ≤ e) = true := decide_eq_true d2
          have d3 : ¬ x < y := fun h => hh ⟨d1, h, d2⟩
          have f3 : decide (x < y) = false := decide_eq_false d3
          go_wp2
          go_quiet (fail)
          go_wp2
          exact ⟨⟨k + 1, by go_num, by omega, by first | exact hS | exact hid hS.out.drew1 | exact hid (hS.out.drewK _), by first | exact hB | exact hid hB.out.drew | exact hid (below_drewN hB.out _)⟩, by simp [intOf]; omega⟩
        · have f2 : decide (y ≤ e) = false := decide_eq_false d2
          go_wp2
          go_quiet (fail)
          go_wp2
          exact ⟨⟨k + 1, by go_num, by omega, by first | exact hS | exact hid hS.out.drew1 | exact hid (hS.out.drewK _), by first | exact hB | exact hid hB.out.drew | exact hid (below_drewN hB.out _)⟩, by simp [intOf]; omega⟩
      · have f1 : decide (b ≤ x) = false := decide_eq_false d1
        go_wp2
        go_quiet (fail)
        go_wp2
        exact ⟨⟨k + 1, by go_num, by omega, by first | exact hS | exact hid hS.out.drew1 | exact hid (hS.out.drewK _), by first | exact hB | exact hid hB.out.drew | exact hid (below_drewN hB.out _)⟩, by simp [intOf]; omega⟩
    · obtain rfl : k = n := by omega
      have b0 : ¬ (k : Int) < (k : Int) := by omega
      go_wp2
      go_ret
      exact ⟨rfl, hB.out⟩
set_option maxRecDepth 100000 in
set_option maxHeartbeats 1000000 in
theorem within8_at (K : List (Int × Int)) (b e : Int) (a : Option Addr) (c : Nat) (w : World) (hl : K.length ≤ 9223372036854775800) (hK : AtQ w a K) (i : Nat) (u v : Int) (hi : K[i]? = some (u, v)) (hu : hasI b e u v = true) (hno : ∀ (j : Nat) (x y : Int), j < i → K[j]? = some (x, y) → hasI b e x y = false) :
    Calls Tryd.prog 62 #[.slice a K.length c, sg b e] w fun r w' => r = .returned (.bool true) ∧ Below w.heap.size w w' := by
  obtain ⟨n, hn⟩ : ∃ n, Hid (K.length = n) := ⟨_, rfl⟩
  rw [hn.out] at hl ⊢
  have H1 := hid hK
  have S0 := hid (SpI.new w b e)
  have B0 := hid ((Below.refl _ w).alloc (Nat.le_refl _) (.cells #[.int .i64 b, .int .i64 e] 25))
  unfold sg
  clear hK
  go_enter Tryd.func62, Tryd.ntmps62
  go_wp2
  generalize w.alloc (.cells #[.int .i64 b, .int .i64 e] 25) = wA at *
  go_loopw [5] (fun iv wr => ∃ k : Nat, iv = .int .i64 (k : Int) ∧ k ≤ i ∧ Hid (SpI wr w.heap.size b e) ∧ Hid (Below w.heap.size w wr)) (fun iv _ => i + 1 - (intOf iv).toNat)
  case atStart => exact ⟨0, rfl, Nat.zero_le _, S0, B0⟩
  case round =>
    clear S0 B0
    obtain ⟨k, rfl, hk, hS, hB⟩ := hrel
    have s0 := hS.out.c0
    have s1 := hS.out.c1
    have hin : i < n := by have := (List.getElem?_eq_some_iff.1 hi).1; rw [hn.out] at this; exact this
    have b0 : (k : Int) < (n : Int) := by omega
    have b1 : (0 : Int) ≤ (k : Int) := by omega
    by_cases hkn : k < i
    · obtain ⟨x, y, hq⟩ : ∃ x y, K[k]? = some (x, y) := ⟨_, _, List.getElem?_eq_getElem (by have := hn.out; omega)⟩
      obtain ⟨g1, rfl, _, p0, p1⟩ := (H1.out.below hB.out (Nat.le_refl _)) k (x, y) hq
      have p0 : wr.cell? (g1.add (k * 2)) = some (.int .i64 x) := p0
      have p1 : wr.cell? ⟨(g1.add (k * 2)).block, (g1.add (k * 2)).off + 1, none⟩ = some (.int .i64 y) := by
        show wr.cell? ((g1.add (k * 2)).add 1) = _
        rw [add_one8]; exact p1
      have hh := hno k x y hkn hq
      unfold hasI at hh
      have hh := of_decide_eq_false hh
      clear H1 hq
      by_cases d1 : b ≤ x
      · have f1 : decide (b ≤ x) = true := decide_eq_true d1
        by_cases d2 : y ≤ e
        · have f2 : decide (y ≤ e) = true := decide_eq_true d2
          have d3 : ¬ x < y := fun h => hh ⟨d1, h, d2⟩
          have f3 : decide (x < y) = false := decide_eq_false d3
          go_wp2
          go_quiet (fail)
          go_wp2
          exact ⟨⟨k + 1, by go_num, by omega, by first | exact hS | exact hid hS.out.drew1 | exact hid (hS.out.drewK _), by first | exact hB | exact hid hB.out.drew | exact hid (below_drewN hB.out _)⟩, by simp [intOf]; omega⟩
        · have f2 : decide (y ≤ e) = false := decide_eq_false d2
          go_wp2
          go_quiet (fail)
          go_wp2
          exact ⟨⟨k + 1, by go_num, by omega, by first | exact hS | exact hid hS.out.drew1 | exact hid (hS.out.drewK _), by first | exact hB | exact hid hB.out.drew | exact hid (below_drewN hB.out _)⟩, by simp [intOf]; omega⟩
      · have f1 : decide (b ≤ x) = false := decide_eq_false d1
        go_wp2
        go_quiet (fail)
        go_wp2
        exact ⟨⟨k + 1, by go_num, by omega, by first | exact hS | exact hid hS.out.drew1 | exact hid (hS.out.drewK _), by first | exact hB | exact hid hB.out.drew | exact hid (below_drewN hB.out _)⟩, by simp [intOf]; omega⟩
    · obtain rfl : k = i := by omega
      obtain ⟨g1, rfl, _, p0, p1⟩ := (H1.out.below hB.out (Nat.le_refl _)) k (u, v) hi
      have p0 : wr.cell? (g1.add (k * 2)) = some (.int .i64 u) := p0
      have p1 : wr.cell? ⟨(g1.add (k * 2)).block, (g1.add (k * 2)).off + 1, none⟩ = some (.int .i64 v) := by
        show wr.cell? ((g1.add (k * 2)).add 1) = _
        rw [add_one8]; exact p1
      unfold hasI at hu
      obtain ⟨d1, d2, d3⟩ := of_decide_eq_true hu
      have f1 : decide (b ≤ u) = true := decide_eq_true d1
      have f2 : decide (v ≤ e) = true := decide_eq_true d3
      have f3 : decide (u < v) = true := decide_eq_true d2
      clear H1 hi hno hu
      go_wp2
      go_quiet (fail)
      go_wp2
      go_ret
      exact ⟨rfl, by first | exact hB.out | exact hB.out.drew | exact below_drewN hB.out _⟩
end Go.Proofs.YtdmaiodckialmaaDoor

namespace Go.Proofs.YtdmaiodckialmaaDoor
open Go.RowKit
theorem svs_one' {L : List (List UInt8)} {v : Value} (h : v ∈ svs L) : v.oneCell' = true := by
  simp only [svs, List.mem_map] at h
  obtain ⟨n, _, rfl⟩ := h
  rfl
/-- a row of texts -/
def Row (w : World) (H : Nat) (L : List (List UInt8)) : Prop := w.heap[H]? = some (.cells (svs L).toArray 9 (0, 0))
theorem Row.lt {w : World} {H : Nat} {L : List (List UInt8)} (h : Row w H L) : H < w.heap.size := lt_of_heap h
theorem Row.cell {w : World} {H : Nat} {L : List (List UInt8)} (h : Row w H L) {j : Nat} {p : List UInt8} (hp : L[j]? = some p) : w.cell? ⟨H, j, none⟩ = some (sv p) := by
  rw [cell_of_row _ _ _ _ _ _ h]; simp [svs, hp]
theorem Row.at {w : World} {H : Nat} {L : List (List UInt8)} (h : Row w H L) : At w (some ⟨H, 0, none⟩) L := fun j p hp => ⟨_, rfl, h.lt, by rw [Addr.add_mid, Nat.zero_add]; exact h.cell hp⟩
theorem Row.free {w : World} {H : Nat} {L : List (List UInt8)} (h : Row w H L) {j : Nat} (hj : j < L.length) : w.frozen? ⟨H, j, none⟩ = false := by
  have := (there_of_row h 0 L.length (by simp [svs])) j hj
  rw [Nat.zero_add] at this
  exact this.2
theorem Row.below {w w' : World} {H B : Nat} {L : List (List UInt8)} (h : Row w H L) (hb : Below B w w') (hB : H < B) : Row w' H L := by
  unfold Row; rw [hb.block H hB]; exact h
theorem Row.heap {w w' : World} {H : Nat} {L : List (List UInt8)} (h : Row w H L) (e : w'.heap = w.heap) : Row w' H L := by
  unfold Row; rw [e]; exact h
theorem Row.set {w : World} {H : Nat} {L : List (List UInt8)} (h : Row w H L) (k : Nat) (x : List UInt8) : Row (w.setCell ⟨H, k, none⟩ (sv x)) H (L.set k x) := by
  have e := setCell_eq_setRow w H k (svs L).toArray 9 (0, 0) (sv x) h
  unfold Row
  rw [e, setRow_heap _ _ _ _ _ _ h]
  refine congrArg (fun A => some (Obj.cells A 9 (0, 0))) ?_
  simp [svs, List.map_set]
theorem infoS1 : (Tryd.prog.info? 9).map (·.size) = some 1 := by kernel_rfl
/-- make([]string, c) -/
theorem make_texts (w : World) (c : Nat) (hc : c ≤ 8796093021960) :
    (Instr.makeSlice 23 (.int .i64 (c : Int)) (.int .i64 (c : Int))).run Tryd.prog w = .ok (.slice (some ⟨w.heap.size, 0, none⟩) c c) (w.alloc (.cells (svs (List.replicate c [])).toArray 9)) := by
  obtain ⟨i0, hi, hz0, hz1, hz2⟩ := info_parts infoS
  have h := run_make (P := Tryd.prog) w 23 9 i0 (.string ⟨#[]⟩) Tryd.underlying23 hi hz0 .i64 .i64 (c : Int) (c : Int) (by omega) (by omega) (by rw [hz2]; omega) (by omega)
  rw [Int.toNat_natCast, hz1, Nat.mul_one] at h
  have e : madeCells (Value.string ⟨#[]⟩).cells c = (svs (List.replicate c [])).toArray := by
    apply Array.ext'
    rw [show (madeCells (Value.string ⟨#[]⟩).cells c).toList = List.replicate c (.string ⟨#[]⟩) from toList_madeCells_one _ _]
    simp [svs]; exact .inr rfl
  rw [e] at h
  exact h
/-- copy(own, l) -/
theorem copy_texts (w : World) (H : Nat) (a : Option Addr) (cap' : Nat) (ps rest : List (List UInt8)) (hs : At w a ps) (hR : Row w H (List.replicate ps.length [] ++ rest)) (m cap : Nat) (hm : m = ps.length + rest.length) :
    ∃ w', (Builtin.copy_ #[23, 23] 3 #[.slice (some ⟨H, 0, none⟩) m cap, .slice a ps.length cap']).run Tryd.prog w = .ok (goInt ps.length) w' ∧ Row w' H (ps ++ rest) ∧ But H w w' := by
  by_cases h0 : ps.length = 0
  · obtain rfl : ps = [] := List.length_eq_zero_iff.1 h0
    exact ⟨w, run_copy_none (P := Tryd.prog) w _ _ _ 9 _ _ _ _ _ _ Tryd.underlying23 infoS1 (by simp), by simpa using hR, But.refl _ _⟩
  · obtain ⟨x, rfl, hx, _⟩ := hs 0 _ (List.getElem?_eq_getElem (by omega))
    have h := run_copy_row (P := Tryd.prog) w 23 23 3 9 H 0 m cap x ps.length cap' _ 9 (svs ps) Tryd.underlying23 infoS1 hR
      (by rw [svs_length]; exact (Nat.min_eq_left (by omega)).symm) (fun j u hu => by
        simp only [svs, List.getElem?_map, Option.map_eq_some_iff] at hu
        obtain ⟨p, hp, rfl⟩ := hu
        obtain ⟨y, hy, _, hc⟩ := hs j p hp
        cases hy
        exact hc) (by simp [svs]) (fun u hu => svs_one' hu)
    refine ⟨_, h.trans (by rw [svs_length]), ?_, (But.refl _ _).setRow _⟩
    unfold Row
    rw [setRow_heap _ _ _ _ _ _ hR]
    refine congrArg (fun A => some (Obj.cells A 9 (0, 0))) ?_
    simp [svs]
end Go.Proofs.YtdmaiodckialmaaDoor

namespace Go.Proofs.YtdmaiodckialmaaDoor
open Go.RowKit Go.Shelf
/-- what such a call answers, as one looks at it -/
def Ans (n : Nat) (l : List (Int × Int)) (w : World) (r : Ending) (w' : World) : Prop := ∃ a k, r = .returned (.tuple #[.slice a n k, .int .i64 0]) ∧ AtP w' a l ∧ Below w.heap.size w w'
theorem SpP.ans {w w' : World} {c : Int} {L : List (Nat × Nat)} {r : Ending} {n : Nat} {l : List (Int × Int)} (h : SpP w c L r w') (hc : c = 0) (hL : L.length = n) (hl : L.map (fun s => ((s.1 : Int), (s.2 : Int))) = l) : Ans n l w r w' := by
  subst hc hL hl
  obtain ⟨hb, v, rfl, ho, _⟩ := h
  obtain ⟨a, k, rfl, _, _⟩ := ho.shape
  exact ⟨a, k, rfl, OwnP.atP ho, hb⟩
theorem e_cover : coverE 1 7 = 0 ∧ coverL 1 7 = [(0, 1), (1, 1), (1, 2), (0, 6)] := by decide +kernel
theorem e_path : pathE 5 0 = 0 ∧ pathL 5 0 = [(1, 2), (2, 4), (4, 5)] := by decide +kernel
theorem e_proof : proofE 3 5 = 0 ∧ proofL 3 5 = [(2, 3), (3, 4), (0, 2), (4, 5)] := by decide +kernel
theorem e_batch : batchE 5 [0, 3] = 0 ∧ batchL 5 [0, 3] = [(1, 2), (2, 3), (4, 5)] := by decide +kernel
theorem e_run : runE 5 1 4 = 0 ∧ runL 5 1 4 = [(0, 1), (4, 5)] := by decide +kernel
theorem e_ins : insB 5 0 4 = true ∧ insB 5 0 5 = true := by decide +kernel
theorem e_sp5 : Tree.sp 5 = 4 := by decide +kernel
theorem e_fo (x y : ByteArray) : foS 5 0 5 (witS 0 5 (prd [(0, 4), (4, 5)] [x, y])) = some ⟨(Tree.nd x.data.toList y.data.toList).toArray⟩ := by
  have e1 : witS 0 5 (prd [(0, 4), (4, 5)] [x, y]) = [((0, 4), x), ((4, 5), y)] := by simp [witS, prd, hasI]
  have e2 : witS ((0 : Nat) : Int) ((0 + 4 : Nat) : Int) [((0, 4), x), ((4, 5), y)] = [((0, 4), x)] := by simp [witS, hasI]
  have e3 : witS ((0 + 4 : Nat) : Int) ((0 + 5 : Nat) : Int) [((0, 4), x), ((4, 5), y)] = [((4, 5), y)] := by simp [witS, hasI]
  have e4 : foS 4 0 4 [((0, 4), x)] = some x := by simp [foS]
  have e5 : foS 4 (0 + 4) (5 - 4) [((4, 5), y)] = some y := by simp [foS]
  have e6 : ([((0, 4), x), ((4, 5), y)] : List Sub).find? (fun q => decide (q.1 = (((0 : Nat) : Int), ((0 + 5 : Nat) : Int)))) = none := by simp
  rw [e1, foS, e6]
  simp only []
  rw [if_neg (by omega), e_sp5, e2, e3, if_neg (by simp), e4, e5]
theorem e_fold (x y : List UInt8) (hx : x.length = 32) (hy : y.length = 32) : foldA 5 [(0, 4), (4, 5)] [x, y] 0 5 = (⟨(Tree.nd x y).toArray⟩, 0) := by
  unfold foldA
  rw [if_pos (by omega), if_pos (by simp), if_pos (by simp [hsB8, hx, hy]), if_pos e_ins.2]
  have := e_fo ⟨x.toArray⟩ ⟨y.toArray⟩
  rw [show (5 : Int).toNat - (0 : Int).toNat = 5 from rfl, show (0 : Int).toNat = 0 from rfl, show bas [x, y] = [⟨x.toArray⟩, ⟨y.toArray⟩] from rfl, this]
set_option maxRecDepth 100000 in
set_option maxHeartbeats 8000000 in
theorem known8_any (w : World) (Z : Tb w) : Calls Tryd.prog 4 #[] w fun r w' => r = .returned (.bool true) ∧ Below w.heap.size w w' := by
  have hZ := Z.lt
  have HZ := hid Z
  have iC := fun (w' : World) (hb : Below w.heap.size w w') => (cover_any 1 7 w' (Z.below hb hZ)).mono (fun r w'' h => h.ans (n := 4) (l := [(0, 1), (1, 1), (1, 2), (0, 6)]) e_cover.1 (by rw [e_cover.2]; rfl) (by rw [e_cover.2]; rfl))
  have iP := fun (w' : World) => (path8_any 5 0 w').mono (fun r w'' h => h.ans (n := 3) (l := [(1, 2), (2, 4), (4, 5)]) e_path.1 (by rw [e_path.2]; rfl) (by rw [e_path.2]; rfl))
  have iR := fun (w' : World) => (proof8_any 3 5 w').mono (fun r w'' h => h.ans (n := 4) (l := [(2, 3), (3, 4), (0, 2), (4, 5)]) e_proof.1 (by rw [e_proof.2]; rfl) (by rw [e_proof.2]; rfl))
  have iB : ∀ w' : World, Calls Tryd.prog 14 #[.int .i64 5, .slice (some ⟨w'.heap.size, 0, none⟩) 2 2] (w'.alloc (.cells #[.int .i64 0, .int .i64 3] 3)) (Ans 3 [(1, 2), (2, 3), (4, 5)] w') := fun w' =>
    (batch8_any 5 [0, 3] (some ⟨w'.heap.size, 0, none⟩) 2 (w'.alloc (.cells #[.int .i64 0, .int .i64 3] 3)) (by decide) (AtI.lit w' [0, 3] 3)).mono (fun r w'' h => by
      obtain ⟨a, k, h1, h2, h3⟩ := h.ans (n := 3) (l := [(1, 2), (2, 3), (4, 5)]) e_batch.1 (by rw [e_batch.2]; rfl) (by rw [e_batch.2]; rfl)
      have hb := (Below.refl _ w').alloc (Nat.le_refl _) (.cells #[.int .i64 0, .int .i64 3] 3)
      exact ⟨a, k, h1, h2, hb.trans (h3.mono hb.size)⟩)
  have iU := fun (w' : World) => (run8_any 5 1 4 w').mono (fun r w'' h => h.ans (n := 2) (l := [(0, 1), (4, 5)]) e_run.1 (by rw [e_run.2]; rfl) (by rw [e_run.2]; rfl))
  have sC : ∀ (a : Option Addr) (k : Nat) (w' : World), AtP w' a [(0, 1), (1, 1), (1, 2), (0, 6)] → Calls Tryd.prog 16 #[.slice a 4 k, .slice (some ⟨w'.heap.size, 0, none⟩) 4 4] (w'.alloc (.cells #[.int .i64 0, .int .i64 1, .int .i64 1, .int .i64 1, .int .i64 1, .int .i64 2, .int .i64 0, .int .i64 6] 46)) fun r w'' => r = .returned (.bool true) ∧ Below w'.heap.size w' w'' := fun a k w' h => by
    have hb := (Below.refl _ w').alloc (Nat.le_refl _) (.cells #[.int .i64 0, .int .i64 1, .int .i64 1, .int .i64 1, .int .i64 1, .int .i64 2, .int .i64 0, .int .i64 6] 46)
    exact (nodes_yes [(0, 1), (1, 1), (1, 2), (0, 6)] a (some ⟨w'.heap.size, 0, none⟩) k 4 _ (by decide) (h.below hb (Nat.le_refl _)) (AtP.lit w' [(0, 1), (1, 1), (1, 2), (0, 6)] 46)).mono (fun r w'' h => ⟨h.1, hb.trans (h.2.mono hb.size)⟩)
  have sP : ∀ (a : Option Addr) (k : Nat) (w' : World), AtP w' a [(1, 2), (2, 4), (4, 5)] → Calls Tryd.prog 17 #[.slice a 3 k, .slice (some ⟨w'.heap.size, 0, none⟩) 3 3] (w'.alloc (.cells #[.int .i64 1, .int .i64 2, .int .i64 2, .int .i64 4, .int .i64 4, .int .i64 5] 25)) fun r w'' => r = .returned (.bool true) ∧ Below w'.heap.size w' w'' := fun a k w' h => by
    have hb := (Below.refl _ w').alloc (Nat.le_refl _) (.cells #[.int .i64 1, .int .i64 2, .int .i64 2, .int .i64 4, .int .i64 4, .int .i64 5] 25)
    exact (spans_yes [(1, 2), (2, 4), (4, 5)] a (some ⟨w'.heap.size, 0, none⟩) k 3 _ (by decide) (h.below hb (Nat.le_refl _)) (AtP.lit w' [(1, 2), (2, 4), (4, 5)] 25)).mono (fun r w'' h => ⟨h.1, hb.trans (h.2.mono hb.size)⟩)
  have sR : ∀ (a : Option Addr) (k : Nat) (w' : World), AtP w' a [(2, 3), (3, 4), (0, 2), (4, 5)] → Calls Tryd.prog 17 #[.slice a 4 k, .slice (some ⟨w'.heap.size, 0, none⟩) 4 4] (w'.alloc (.cells #[.int .i64 2, .int .i64 3, .int .i64 3, .int .i64 4, .int .i64 0, .int .i64 2, .int .i64 4, .int .i64 5] 25)) fun r w'' => r = .returned (.bool true) ∧ Below w'.heap.size w' w'' := fun a k w' h => by
    have hb := (Below.refl _ w').alloc (Nat.le_refl _) (.cells #[.int .i64 2, .int .i64 3, .int .i64 3, .int .i64 4, .int .i64 0, .int .i64 2, .int .i64 4, .int .i64 5] 25)
    exact (spans_yes [(2, 3), (3, 4), (0, 2), (4, 5)] a (some ⟨w'.heap.size, 0, none⟩) k 4 _ (by decide) (h.below hb (Nat.le_refl _)) (AtP.lit w' [(2, 3), (3, 4), (0, 2), (4, 5)] 25)).mono (fun r w'' h => ⟨h.1, hb.trans (h.2.mono hb.size)⟩)
  have sB : ∀ (a : Option Addr) (k : Nat) (w' : World), AtP w' a [(1, 2), (2, 3), (4, 5)] → Calls Tryd.prog 17 #[.slice a 3 k, .slice (some ⟨w'.heap.size, 0, none⟩) 3 3] (w'.alloc (.cells #[.int .i64 1, .int .i64 2, .int .i64 2, .int .i64 3, .int .i64 4, .int .i64 5] 25)) fun r w'' => r = .returned (.bool true) ∧ Below w'.heap.size w' w'' := fun a k w' h => by
    have hb := (Below.refl _ w').alloc (Nat.le_refl _) (.cells #[.int .i64 1, .int .i64 2, .int .i64 2, .int .i64 3, .int .i64 4, .int .i64 5] 25)
    exact (spans_yes [(1, 2), (2, 3), (4, 5)] a (some ⟨w'.heap.size, 0, none⟩) k 3 _ (by decide) (h.below hb (Nat.le_refl _)) (AtP.lit w' [(1, 2), (2, 3), (4, 5)] 25)).mono (fun r w'' h => ⟨h.1, hb.trans (h.2.mono hb.size)⟩)
  have sU : ∀ (a : Option Addr) (k : Nat) (w' : World), AtP w' a [(0, 1), (4, 5)] → Calls Tryd.prog 17 #[.slice a 2 k, .slice (some ⟨w'.heap.size, 0, none⟩) 2 2] (w'.alloc (.cells #[.int .i64 0, .int .i64 1, .int .i64 4, .int .i64 5] 25)) fun r w'' => r = .returned (.bool true) ∧ Below w'.heap.size w' w'' := fun a k w' h => by
    have hb := (Below.refl _ w').alloc (Nat.le_refl _) (.cells #[.int .i64 0, .int .i64 1, .int .i64 4, .int .i64 5] 25)
    exact (spans_yes [(0, 1), (4, 5)] a (some ⟨w'.heap.size, 0, none⟩) k 2 _ (by decide) (h.below hb (Nat.le_refl _)) (AtP.lit w' [(0, 1), (4, 5)] 25)).mono (fun r w'' h => ⟨h.1, hb.trans (h.2.mono hb.size)⟩)
  have hx := fun w' => hash8_any ⟨#[120]⟩ (by decide) w'
  have hy := fun w' => hash8_any ⟨#[121]⟩ (by decide) w'
  obtain ⟨X, hX⟩ : ∃ X : List UInt8, Hid (Sha.sha (ByteArray.mk #[120]).data.toList = X) := ⟨_, rfl⟩
  obtain ⟨Y, hY⟩ : ∃ Y : List UInt8, Hid (Sha.sha (ByteArray.mk #[121]).data.toList = Y) := ⟨_, rfl⟩
  have lX : X.length = 32 := by rw [← hX.out]; exact Sha.sha_length _
  have lY : Y.length = 32 := by rw [← hY.out]; exact Sha.sha_length _
  rw [hX.out] at hx
  rw [hY.out] at hy
  obtain ⟨D, hD⟩ : ∃ D : ByteArray, Hid (⟨(Tree.nd X Y).toArray⟩ = D) := ⟨_, rfl⟩
  have iF : ∀ (w' w2 : World) (hb : Below w.heap.size w w2) (hK : AtP w2 (some ⟨w'.heap.size, 0, none⟩) [(0, 4), (4, 5)]), Calls Tryd.prog 18 #[.int .i64 5, .slice (some ⟨w'.heap.size, 0, none⟩) 2 2, .slice (some ⟨w2.heap.size, 0, none⟩) 2 2, sg 0 5] (w2.alloc (.cells #[.string ⟨X.toArray⟩, .string ⟨Y.toArray⟩] 9)) fun r w'' => r = .returned (.tuple #[.string D, .int .i64 0]) ∧ Below w2.heap.size w2 w'' := fun w' w2 hb hK => by
    have hb2 := (Below.refl _ w2).alloc (Nat.le_refl _) (.cells #[.string ⟨X.toArray⟩, .string ⟨Y.toArray⟩] 9)
    have hA : At (w2.alloc (.cells #[.string ⟨X.toArray⟩, .string ⟨Y.toArray⟩] 9)) (some ⟨w2.heap.size, 0, none⟩) [X, Y] := Row.at (L := [X, Y]) (heap_alloc_new w2 _)
    have h := foldF_any 5 [(0, 4), (4, 5)] [X, Y] 0 5 (some ⟨w'.heap.size, 0, none⟩) (some ⟨w2.heap.size, 0, none⟩) 2 2 _ (by decide) (by show 2 ≤ 9223372036854775807; omega) (hK.below hb2 (Nat.le_refl _)) hA (Z.t.below (hb.trans (hb2.mono hb.size)) hZ)
    rw [e_fold X Y lX lY, hD.out] at h
    exact h.mono (fun r w'' h => ⟨h.1, hb2.trans (h.2.mono hb2.size)⟩)
  have iN := fun w' => rnode_at (l := X) (r := Y) (n := Tree.nd X Y) (c := 0) (by unfold Hid nodeOf; rw [if_pos ⟨lX, lY⟩]; unfold Tree.nd; rw [if_pos ⟨lX, lY⟩]) w'
  rw [show sv (Tree.nd X Y) = .string D by unfold sv; rw [hD.out]] at iN
  have iI := fun w' => inside_any 5 0 4 w'
  rw [e_ins.1] at iI
  obtain ⟨XB, hXB⟩ : ∃ XB : ByteArray, Hid (⟨X.toArray⟩ = XB) := ⟨_, rfl⟩
  obtain ⟨YB, hYB⟩ : ∃ YB : ByteArray, Hid (⟨Y.toArray⟩ = YB) := ⟨_, rfl⟩
  unfold sv at hx hy iN
  rw [hXB.out] at hx iF iN
  rw [hYB.out] at hy iF iN
  have hDD : (D.toList == D.toList) = true := by simp
  have bb : ∀ {a b c : World}, Below w.heap.size a b → Below b.heap.size b c → w.heap.size ≤ b.heap.size → Below w.heap.size a c := fun h1 h2 h3 => h1.trans (h2.mono h3)
  clear Z HZ lX lY hX hY hD hXB hYB
  go_enter Tryd.func4, Tryd.ntmps4
  go_wp2_with (first
    | (go_at_call 11; refine (iC _ (Below.refl _ _)).mono ?_; rintro r w1 ⟨a1, k1, rfl, P1, b1⟩; have P1 := hid P1; have B1 := hid b1; clear b1)
    | (go_at_call 12; refine (iP _).mono ?_; rintro r w2 ⟨a2, k2, rfl, P2, b2⟩; have P1b := hid (P1.out.below b2 (Nat.le_refl _)); have P2 := hid P2; have B2 := hid (B1.out.trans (b2.mono B1.out.size)); clear b2 P1)
    | (go_at_call 13; refine (iR _).mono ?_; rintro r w3 ⟨a3, k3, rfl, P3, b3⟩; have P1c := hid (P1b.out.below b3 (Nat.le_refl _)); have P2c := hid (P2.out.below b3 (Nat.le_refl _)); have P3 := hid P3; have B3 := hid (B2.out.trans (b3.mono B2.out.size)); clear b3 P1b P2)
    | (go_at_call 14; refine (iB _).mono ?_; rintro r w4 ⟨a4, k4, rfl, P4, b4⟩; have P1d := hid (P1c.out.below b4 (Nat.le_refl _)); have P2d := hid (P2c.out.below b4 (Nat.le_refl _)); have P3d := hid (P3.out.below b4 (Nat.le_refl _)); have P4 := hid P4; have B4 := hid (B3.out.trans (b4.mono B3.out.size)); clear b4 P1c P2c P3)
    | (go_at_call 15; refine (iU _).mono ?_; rintro r w5 ⟨a5, k5, rfl, P5, b5⟩; have P1e := hid (P1d.out.below b5 (Nat.le_refl _)); have P2e := hid (P2d.out.below b5 (Nat.le_refl _)); have P3e := hid (P3d.out.below b5 (Nat.le_refl _)); have P4e := hid (P4.out.below b5 (Nat.le_refl _)); have P5 := hid P5; have B5 := hid (B4.out.trans (b5.mono B4.out.size)); clear b5 P1d P2d P3d P4)
    | (go_at_call 16; refine (sC a1 k1 _ P1e.out).mono ?_; rintro r w6 ⟨rfl, b6⟩; have P2f := hid (P2e.out.below b6 (Nat.le_refl _)); have P3f := hid (P3e.out.below b6 (Nat.le_refl _)); have P4f := hid (P4e.out.below b6 (Nat.le_refl _)); have P5f := hid (P5.out.below b6 (Nat.le_refl _)); have B6 := hid (B5.out.trans (b6.mono B5.out.size)); clear b6 P1e P2e P3e P4e P5)
    | (go_at_call 17; (with_reducible refine (sP a2 k2 _ P2f.out).mono ?_); rintro r w7 ⟨rfl, b7⟩; have P3g := hid (P3f.out.below b7 (Nat.le_refl _)); have P4g := hid (P4f.out.below b7 (Nat.le_refl _)); have P5g := hid (P5f.out.below b7 (Nat.le_refl _)); have B7 := hid (B6.out.trans (b7.mono B6.out.size)); clear b7 P2f P3f P4f P5f)
    | (go_at_call 17; (with_reducible refine (sR a3 k3 _ P3g.out).mono ?_); rintro r w8 ⟨rfl, b8⟩; have P4h := hid (P4g.out.below b8 (Nat.le_refl _)); have P5h := hid (P5g.out.below b8 (Nat.le_refl _)); have B8 := hid (B7.out.trans (b8.mono B7.out.size)); clear b8 P3g P4g P5g)
    | (go_at_call 17; (with_reducible refine (sB a4 k4 _ P4h.out).mono ?_); rintro r w9 ⟨rfl, b9⟩; have P5i := hid (P5h.out.below b9 (Nat.le_refl _)); have B9 := hid (B8.out.trans (b9.mono B8.out.size)); clear b9 P4h P5h)
    | (go_at_call 17; (with_reducible refine (sU a5 k5 _ P5i.out).mono ?_); rintro r w10 ⟨rfl, b10⟩; have B10 := hid (B9.out.trans (b10.mono B9.out.size)); have PL := hid (AtP.lit w10 [(0, 4), (4, 5)] 25); have BL := hid (B10.out.trans (((Below.refl _ w10).alloc (Nat.le_refl _) (.cells (prI [(0, 4), (4, 5)]).toArray 25)).mono B10.out.size)); clear b10 P5i)
    | (go_at_call 9; (with_reducible refine (hx _).mono ?_); rintro r wA ⟨rfl, bA⟩; have PA := hid (PL.out.below bA (Nat.le_refl _)); have BA := hid (BL.out.trans (bA.mono BL.out.size)); clear bA PL)
    | (go_at_call 9; (with_reducible refine (hy _).mono ?_); rintro r wB ⟨rfl, bB⟩; have PB := hid (PA.out.below bB (Nat.le_refl _)); have BB := hid (BA.out.trans (bB.mono BA.out.size)); clear bB PA)
    | (go_at_call 18; refine (iF w10 wB BB.out PB.out).mono ?_; rintro r wC ⟨rfl, bC⟩; have BC := hid (BB.out.trans (bC.mono BB.out.size)); clear bC)
    | (go_at_call 9; (with_reducible refine (hx _).mono ?_); rintro r wE ⟨rfl, bE⟩; have BE := hid (BC.out.trans (bE.mono BC.out.size)); clear bE)
    | (go_at_call 9; (with_reducible refine (hy _).mono ?_); rintro r wF ⟨rfl, bF⟩; have BF := hid (BE.out.trans (bF.mono BE.out.size)); clear bF)
    | (go_at_call 19; refine (iN _).mono ?_; rintro r wG ⟨rfl, bG⟩; have BG := hid (BF.out.trans (bG.mono BF.out.size)); clear bG)
    | (go_at_call 20; refine (iI _).mono ?_; rintro r wH ⟨rfl, bH⟩; have BH := hid (BG.out.trans (bH.mono BG.out.size)); clear bH))
  go_ret
  exact ⟨rfl, BH.out⟩
end Go.Proofs.YtdmaiodckialmaaDoor
