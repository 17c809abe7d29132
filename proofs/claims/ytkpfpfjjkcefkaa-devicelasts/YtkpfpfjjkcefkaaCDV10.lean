import Derived.Test.YtkpfpfjjkcefkaaCDV9
namespace Go.Proofs.Ytkpfpfjjkcefkaa
open Go.RowKit Go.Maps

theorem extract_list (s : List UInt8) (i j : Nat) : (ByteArray.mk s.toArray).extract i j = ⟨((s.drop i).take (j - i)).toArray⟩ := by
  apply ByteArray.ext
  rw [ByteArray.data_extract, List.extract_toArray, List.extract_eq_take_drop]
theorem cut_to (s : List UInt8) (n : Nat) (hn : n ≤ s.length) (w : World) : (Instr.slice 9 (.string ⟨s.toArray⟩) none (some (.int .i64 (n : Int))) none).run Try.prog w = .ok (.string ⟨(s.take n).toArray⟩) w := by
  rw [run_slice_string_h w 9 ⟨s.toArray⟩ Try.underlying9 .i64 (n : Int) (by omega) (by rw [sv_size]; omega), extract_list]
  simp
theorem cut_from (s : List UInt8) (n : Nat) (hn : n ≤ s.length) (w : World) : (Instr.slice 9 (.string ⟨s.toArray⟩) (some (.int .i64 (n : Int))) none none).run Try.prog w = .ok (.string ⟨(s.drop n).toArray⟩) w := by
  rw [run_slice_string_l w 9 ⟨s.toArray⟩ Try.underlying9 .i64 (n : Int) (by omega) (by rw [sv_size]; omega), extract_list, sv_size, Int.toNat_natCast, List.take_of_length_le (by simp)]
/-- a beginning of what was written, and the rest of what lasts -/
def torn (s x : List UInt8) (n : Nat) : List UInt8 := s.take n ++ x.drop n
theorem torn_len {s x : List UInt8} (hs : s.length = 256) (hx : x.length = 256) {n : Nat} (hn : n ≤ 256) : (torn s x n).length = 256 := by
  rw [torn, List.length_append, List.length_take, List.length_drop]; omega
theorem torn_all {s x : List UInt8} (hs : s.length = 256) (hx : x.length = 256) : torn s x 256 = s := by
  rw [torn, List.take_of_length_le (by omega), List.drop_eq_nil_of_le (by omega), List.append_nil]
theorem torn_none (s x : List UInt8) : torn s x 0 = x := by simp [torn]
/-- a page is set -/
theorem Dv.setPage {w : World} {a g b : Nat} {L : List (List UInt8)} {p : Nat → Option (List UInt8)} {left : Nat} {dead : Bool} (h : Dv w a g b L p left dead) {i : Nat} (hi : i < L.length) {x : List UInt8} (hx : x.length = 256) :
    Dv (w.setCell ⟨g, i, none⟩ (.string ⟨x.toArray⟩)) a g b (L.set i x) p left dead := by
  obtain ⟨cap, h1, h2, h3⟩ := h.row
  have hc := h.cell hi
  refine ⟨⟨cap, ?_, by rw [List.length_set]; exact h2, h3⟩, ?_, ?_, ?_, h.ag, by simpa [World.setCell] using h.gl, by rw [List.length_set]; exact h.l4, by rw [List.length_set]; exact h.l96, ?_, h.lf⟩
  · rw [heap_setCell_other _ _ _ _ h.ag, List.length_set]; exact h1
  · intro k u hk
    have hsv : svs (L.set i x) = (svs L).set i (sv x) := by simp [svs, List.map_set]
    rw [hsv, List.getElem?_set] at hk
    rw [Nat.zero_add]
    split at hk
    · next e =>
      subst e
      split at hk
      · rw [World.cell?_setCell_same _ _ _ (by rw [hc]; try rfl)]; exact hk
      · cases hk
    · next e =>
      rw [World.cell?_setCell_other _ _ _ _ (by simp; try exact fun e' => e e'.symm)]
      have := h.rng k u hk
      rwa [Nat.zero_add] at this
  · intro k hk
    rw [List.length_set] at hk
    have := h.th k hk
    rw [World.frozen?_setCell]
    refine ⟨?_, this.2⟩
    by_cases e : i = 0 + k
    · rw [← e, World.cell?_setCell_same _ _ _ (by rw [hc]; try rfl)]; rfl
    · rw [World.cell?_setCell_other _ _ _ _ (by simp; try exact fun e' => e (by omega))]; exact this.1
  · obtain ⟨D, ⟨es, cl, m1, m2⟩, m3⟩ := h.mp
    rw [List.length_set]
    exact ⟨D, ⟨es, cl, (heap_setCell_other _ _ _ _ (Ne.symm h.gb)).trans m1, m2⟩, m3⟩
  · intro y hy
    rcases List.mem_or_eq_of_mem_set hy with hy | rfl
    · exact h.pg y hy
    · exact hx
set_option maxRecDepth 100000 in
set_option maxHeartbeats 1000000 in
theorem settle_any {w : World} {a g b : Nat} {L : List (List UInt8)} {p : Nat → Option (List UInt8)} {left : Nat} {dead : Bool} (h : Dv w a g b L p left dead) {i : Nat} (hi : i < L.length) {s : List UInt8} (hs : s.length = 256) {n : Nat} (hn : n ≤ 256) :
    Calls Try.prog 39 #[.pointer (some ⟨a, 0, none⟩), .agg #[.int .i64 (i : Int), .string ⟨s.toArray⟩], .int .i64 (n : Int)] w fun r w' => r = .returned (.tuple #[]) ∧ Dv w' a g b (L.set i (torn s L[i]! n)) (dlt p i) left dead ∧ Kp a g b w w' := by
  have b1 := (Below.refl w.heap.size w).alloc (Nat.le_refl _) (.cells #[.int .i64 (i : Int), .string ⟨s.toArray⟩] 52)
  have r1 := heap_alloc_new w (.cells #[.int .i64 (i : Int), .string ⟨s.toArray⟩] 52)
  have hq : w.heap.size < (w.alloc (.cells #[.int .i64 (i : Int), .string ⟨s.toArray⟩] 52)).heap.size := lt_of_heap r1
  obtain ⟨w1, hw1⟩ : ∃ w1, w.alloc (.cells #[.int .i64 (i : Int), .string ⟨s.toArray⟩] 52) = w1 := ⟨_, rfl⟩
  rw [hw1] at b1 r1 hq
  have hgl := h.gl
  have hal := h.al
  have hbl := h.bl
  have hx : (L[i]!).length = 256 := h.pg _ (by rw [getElem!_pos L i hi]; exact List.getElem_mem hi)
  have h1 := h.below b1 (Nat.le_refl _)
  obtain ⟨cap', k1, k2, c0, c1, c2, c3⟩ := h1.c0
  have hc := h1.cell hi
  have hth := h1.th i hi
  rw [Nat.zero_add] at hth
  have hf := hth.2
  have q0 : w1.cell? ⟨w.heap.size, 0, none⟩ = some (.int .i64 (i : Int)) := by rw [cell_of_row _ _ _ _ _ _ r1]; rfl
  have q1 : w1.cell? ⟨w.heap.size, 1, none⟩ = some (.string ⟨s.toArray⟩) := by rw [cell_of_row _ _ _ _ _ _ r1]; rfl
  have h2 := h1.drew.setPage hi (torn_len hs hx hn)
  have t1 := cut_to s n (by omega)
  have t2 := cut_from L[i]! n (by omega)
  have t3 : (ByteArray.mk (s.take n).toArray) ++ (ByteArray.mk ((L[i]!).drop n).toArray) = ⟨(torn s L[i]! n).toArray⟩ := by rw [ByteArray.mk_append_mk, torn]
  have t4 : ¬ 9223372036854775807 < (s.take n).length + ((L[i]!).drop n).length := by rw [List.length_take, List.length_drop]; omega
  obtain ⟨w2, hw2⟩ : ∃ w2, w1.drew.setCell ⟨g, i, none⟩ (.string ⟨(torn s L[i]! n).toArray⟩) = w2 := ⟨_, rfl⟩
  rw [hw2] at h2
  have K2 : Kp a g b w w2 := by rw [← hw2]; exact ((Kp.ofBelow b1).drew).setCellG i _
  have p0 : w2.cell? ⟨w.heap.size, 0, none⟩ = some (.int .i64 (i : Int)) := by
    rw [← hw2, ← q0]; exact World.cell?_of_block (heap_setCell_other _ _ _ _ (by show w.heap.size ≠ g; omega))
  have hls : i < (L.set i (torn s L[i]! n)).length := by rw [List.length_set]; exact hi
  obtain ⟨cap2, m1, m2, d0, d1, d2, d3⟩ := h2.c0
  obtain ⟨w3, hdel, h3, K3⟩ := h2.drew.drop hls 0
  have H3 := hid h3
  have KK := hid (K2.trans K3.drew0)
  have c4 : (i : Int) < (L.length : Int) := by omega
  have c5 : (0 : Int) ≤ (i : Int) := by omega
  clear h h1 h2 h3 K2 K3 b1 r1 hth hx hn hs hi hls
  generalize torn s L[i]! n = T at *
  generalize (L[i]!).drop n = X2 at *
  generalize s.take n = X1 at *
  generalize L[i]! = X at *
  go_enter Try.func39, Try.ntmps39
  go_wp2
  go_region
  go_wp2
  go_region
  go_wp2
  go_end0
  exact ⟨rfl, H3.out, KK.out⟩
end Go.Proofs.Ytkpfpfjjkcefkaa
