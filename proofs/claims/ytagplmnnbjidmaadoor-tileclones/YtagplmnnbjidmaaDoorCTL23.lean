import Derived.Test.YtagplmnnbjidmaaDoorCTL20
namespace Go.Proofs.YtagplmnnbjidmaaDoor
open Go.RowKit
theorem sg_more {L : List (List UInt8)} {b k m : Nat} (hb : b + k < L.length) (hk : k < m) : (Til.sg L b (b + k) ++ List.replicate (m - k) []).set k L[b + k] = Til.sg L b (b + (k + 1)) ++ List.replicate (m - (k + 1)) [] := by
  have hl := Til.sg_len (L := L) (b := b) (e := b + k) (by omega)
  have e1 : Til.sg L b (b + (k + 1)) = Til.sg L b (b + k) ++ [L[b + k]] := by
    unfold Til.sg
    rw [show b + (k + 1) = (b + k) + 1 by omega, List.take_add_one, List.getElem?_eq_getElem hb, Option.toList_some, List.drop_append_of_le_length (by rw [List.length_take]; omega)]
  rw [List.set_append, if_neg (by omega), hl, show b + k - b = k by omega, Nat.sub_self, e1, List.append_assoc]
  congr 1
  rw [show m - k = (m - (k + 1)) + 1 by omega, List.replicate_succ, List.set_cons_zero]
  rfl
set_option maxRecDepth 100000 in
set_option maxHeartbeats 4000000 in
theorem tLeaves_any {w : World} {q h : Nat} {L : List (List UInt8)} {F : Nat → Prop} (t : TrL w q h L F) (b e : Nat) (hb : b ≤ e) (he : e ≤ L.length) :
    Calls Tryd.prog 25 #[.pointer (some ⟨q, 0, none⟩), .agg #[.int .i64 (b : Int), .int .i64 (e : Int)]] w fun r w' => ∃ g, w.heap.size ≤ g ∧ r = .returned (.tuple #[.slice (some ⟨g, 0, none⟩) (e - b) (e - b), .int .i64 0]) ∧ Row w' g (Til.sg L b e) ∧ Below w.heap.size w w' := by
  obtain ⟨w1, hw1⟩ : ∃ w1, w.alloc (.cells #[Value.int .i64 (b : Int), .int .i64 (e : Int)] 47) = w1 := ⟨_, rfl⟩
  have b1 := (Below.refl w.heap.size w).alloc (Nat.le_refl _) (.cells #[Value.int .i64 (b : Int), .int .i64 (e : Int)] 47)
  have r1 := heap_alloc_new w (.cells #[Value.int .i64 (b : Int), .int .i64 (e : Int)] 47)
  rw [hw1] at b1 r1
  have c0 : w1.cell? ⟨w.heap.size, 0, none⟩ = some (.int .i64 (b : Int)) := by rw [cell_of_row _ _ _ _ _ _ r1]; rfl
  have c1 : w1.cell? ⟨w.heap.size, 1, none⟩ = some (.int .i64 (e : Int)) := by rw [cell_of_row _ _ _ _ _ _ r1]; rfl
  have T1 := hid (t.below b1)
  have i1 := hasSpan_any T1.out (b : Int) (e : Int)
  have hsp : spB L.length (b : Int) (e : Int) = true := by unfold spB; exact decide_eq_true ⟨by omega, by omega, by omega⟩
  rw [hsp] at i1
  have B1 := hid b1
  have hlt : w.heap.size < w1.heap.size := lt_of_heap r1
  have n20 := t.n20
  obtain ⟨m, hm⟩ : ∃ m : Nat, Hid (e - b = m) := ⟨_, rfl⟩
  have hmo := hm.out
  have s1 : IntKind.i64.wrap ((e : Int) - (b : Int)) = (m : Int) := by rw [wrap_small _ (by omega) (by omega)]; omega
  rw [hmo]
  clear t b1 r1 hsp
  go_enter Tryd.func25, Tryd.ntmps25
  go_wp2_with (go_at_call 46; fail)
  refine i1.mono ?_
  rintro r w2 ⟨rfl, hw2⟩
  have d0 := (hw2.cell (p := ⟨w.heap.size, 0, none⟩) hlt).trans c0
  have d1 := (hw2.cell (p := ⟨w.heap.size, 1, none⟩) hlt).trans c1
  have D0 := hid d0
  have B2 := hid (B1.out.trans (hw2.mono B1.out.size))
  have T2 := hid (T1.out.below hw2)
  have hlt2 : w.heap.size < w2.heap.size := Nat.lt_of_lt_of_le hlt hw2.size
  have hmk := make_texts w2 m (by omega)
  have R3 : Row (w2.alloc (.cells (svs (List.replicate m [])).toArray 9)) w2.heap.size (List.replicate m []) := heap_alloc_new w2 _
  have b3 := (Below.refl w2.heap.size w2).alloc (Nat.le_refl _) (.cells (svs (List.replicate m [])).toArray 9)
  obtain ⟨w3, hw3⟩ : ∃ w3, w2.alloc (.cells (svs (List.replicate m [])).toArray 9) = w3 := ⟨_, rfl⟩
  rw [hw3] at R3 b3 hmk
  have R3 := hid R3
  have B3 := hid b3
  clear c0 c1 i1 hw2 T1 B1 b3
  go_wp2
  go_loopw [20] (fun i w' => ∃ k : Nat, k ≤ m ∧ i = .int .i64 (k : Int) ∧ Hid (Row w' w2.heap.size (Til.sg L b (b + k) ++ List.replicate (m - k) [])) ∧ Hid (Below w2.heap.size w2 w')) (fun i _ => m - (intOf i).toNat)
  case atStart => exact ⟨0, by omega, rfl, by unfold Hid; rw [Nat.add_zero, Til.sg_nil, List.nil_append, Nat.sub_zero]; exact R3.out, B3⟩
  case round =>
    clear R3 B3 hmk hw3 d0 d1 s1
    obtain ⟨k, hk, rfl, hR, hB⟩ := hrel
    by_cases hkm : k < m
    · have c0 : (k : Int) < (m : Int) := by omega
      have k0 : (0 : Int) ≤ (k : Int) := by omega
      have d0 := (hB.out.cell (p := ⟨w.heap.size, 0, none⟩) hlt2).trans D0.out
      have hbk : b + k < L.length := by omega
      obtain ⟨j, hj⟩ : ∃ j, b + k = j := ⟨_, rfl⟩
      have s2 : IntKind.i64.wrap ((b : Int) + (k : Int)) = (j : Int) := by rw [wrap_small _ (by omega) (by omega)]; omega
      have hst := sg_more (L := L) (b := b) (k := k) (m := m) hbk hkm
      obtain ⟨x, hx⟩ : ∃ x, L[b + k] = x := ⟨_, rfl⟩
      rw [hx] at hst
      obtain ⟨⟨bb, es, t1, rfl⟩, _, _, g8, _, _⟩ := T2.out
      have hh := thash_any (t1.below hB.out) g8 0 j (by omega) (by omega) (x := x) (by
        rw [Til.rf_nat, Til.row_at (by unfold Til.cn; rw [Nat.pow_zero, Nat.div_one]; omega), ← hj, Til.hs_leaf hbk, hx])
      rw [show ((0 : Nat) : Int) = 0 from rfl] at hh
      have hlen : (Til.sg L b (b + k) ++ List.replicate (m - k) []).length = m := by
        rw [List.length_append, List.length_replicate, Til.sg_len (by omega)]; omega
      have hlw := hR.out.lt
      clear t1 hx hbk hj
      go_wp2_with (go_at_call 35; fail)
      refine hh.mono ?_
      rintro r w4 ⟨rfl, hw4⟩
      have R4 := hR.out.below hw4 hlw
      have R5 := R4.set k x
      rw [hst] at R5
      have f4 := R4.free (j := k) (by rw [hlen]; exact hkm)
      have c4 := R4.cell (j := k) (List.getElem?_eq_getElem (by rw [hlen]; exact hkm))
      have B5 := hid ((hB.out.trans (hw4.mono hB.out.size)).setCell (p := ⟨w2.heap.size, k, none⟩) (Nat.le_refl _) (sv x))
      have B5 := B5.out
      rw [svS x] at R5 B5 ⊢
      have R5 := hid R5
      have B5 := hid B5
      generalize (Til.sg L b (b + k) ++ List.replicate (m - k) [])[k]'(by rw [hlen]; exact hkm) = y0 at c4
      clear hh hw4 R4 hR hB hst hlen hlw d0
      go_wp2
      exact ⟨⟨k + 1, by omega, by go_num, R5, B5⟩, by simp [intOf]; omega⟩
    · obtain rfl : k = m := by omega
      have c0 : ¬ (k : Int) < (k : Int) := by omega
      go_wp2
      go_ret2
      have hR := hR.out
      rw [Nat.sub_self, List.replicate_zero, List.append_nil, show b + k = e by omega] at hR
      exact ⟨w2.heap.size, B2.out.size, rfl, hR, B2.out.trans (hB.out.mono B2.out.size)⟩
end Go.Proofs.YtagplmnnbjidmaaDoor
