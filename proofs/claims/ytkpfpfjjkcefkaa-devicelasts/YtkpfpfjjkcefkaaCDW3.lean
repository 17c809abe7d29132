import Derived.Test.YtkpfpfjjkcefkaaCDW1
namespace Go.Proofs.Ytkpfpfjjkcefkaa
open Go.RowKit Go.Maps

theorem infoBool : (Try.prog.info? 4).map (fun i => (i.zero, i.size, i.bytes)) = some (some (.bool false), 1, 1) := by kernel_rfl
/-- flags as values -/
def fv (l : List Bool) : List Value := l.map Value.bool
theorem make_bools (w : World) (c : Nat) (hc : c ≤ 8796093021960) :
    (Instr.makeSlice 72 (.int .i64 (c : Int)) (.int .i64 (c : Int))).run Try.prog w = .ok (.slice (some ⟨w.heap.size, 0, none⟩) c c) (w.alloc (.cells (fv (List.replicate c false)).toArray 4)) := by
  obtain ⟨i0, hi, hz0, hz1, hz2⟩ := info_parts infoBool
  have h := run_make (P := Try.prog) w 72 4 i0 (.bool false) Try.underlying72 hi hz0 .i64 .i64 (c : Int) (c : Int) (by omega) (by omega) (by rw [hz2]; omega) (by omega)
  rw [Int.toNat_natCast, hz1, Nat.mul_one] at h
  have e : madeCells (Value.bool false).cells c = (fv (List.replicate c false)).toArray := by
    apply Array.ext'
    rw [show (madeCells (Value.bool false).cells c).toList = List.replicate c (.bool false) from toList_madeCells_one _ _]
    simp [fv]
  rw [e] at h
  exact h
/-- append(nil, l...) -/
theorem append_all (w : World) (x : Addr) (L : List (List UInt8)) (c : Nat) (hA : At w (some x) L) (h0 : 0 < L.length) (h96 : L.length ≤ 2000000) :
    ∃ v' w', (Builtin.append_ #[30, 30] 30 #[.slice none 0 0, .slice (some x) L.length c]).run Try.prog w = .ok v' w' ∧ Own w' w.heap.size v' (svs L) ∧ Below w.heap.size w w' := by
  obtain ⟨i0, hi, hz0, hz1, hz2⟩ := info_parts infoS
  have hsrc : Src Try.prog 1 30 (.slice (some x) L.length c) L.length (svs L) w :=
    Src.ofSlice _ Try.underlying30 x L.length c (svs L) (by rw [svs_length, Nat.mul_one]) (fun j u hj => by
      simp only [svs, List.getElem?_map, Option.map_eq_some_iff] at hj
      obtain ⟨p, hp, rfl⟩ := hj
      obtain ⟨y, hy, _, hc⟩ := hA j p hp
      cases hy
      exact hc) (fun u hu => svs_one' hu)
  obtain ⟨v', w', h1, h2, h3, h4⟩ := run_append_O (P := Try.prog) w w.heap.size 30 30 30 9 i0 (.string ⟨#[]⟩) Try.underlying30 hi hz0 hz1 rfl (.slice none 0 0) [] (Own.nil _ _) _ L.length (svs L) hsrc
    (by rw [hz2]; simp; omega) (by rw [maxLen]; simp; omega) (Nat.le_refl _) (fun _ => h0)
  exact ⟨v', w', h1, by simpa using h2, Below.ofGrown (v := .slice none 0 0) h3 (fun k hk => by cases hk) (Nat.le_refl _)⟩
set_option maxRecDepth 100000 in
set_option maxHeartbeats 1000000 in
theorem rload_bad (v : Option Addr) (n c : Nat) (w : World) (h : ¬ (4 ≤ n ∧ n ≤ 4096)) :
    Calls Try.prog 12 #[.slice v n c] w fun r w' => r = .returned (.tuple #[.pointer none, .int .i64 1]) ∧ w' = w := by
  by_cases h4 : n < 4
  · have c0 : (n : Int) < 4 := by omega
    clear h
    go_enter Try.func12, Try.ntmps12
    go_wp2
    go_ret2
    exact ⟨rfl, rfl⟩
  · have c0 : ¬ (n : Int) < 4 := by omega
    have c1 : (4096 : Int) < (n : Int) := by omega
    clear h
    go_enter Try.func12, Try.ntmps12
    go_wp2
    go_ret2
    exact ⟨rfl, rfl⟩
theorem box3 (w : World) (A B : Obj) (v1 v2 v3 v4 v5 : Value) (t : TypeId) : ∃ W, (((w.alloc A).alloc B).alloc (.cells #[v1, v2, v3, v4, v5] t)).drew = W ∧ Below w.heap.size w W ∧ w.heap.size ≤ W.heap.size ∧ w.heap.size + 1 + 1 < W.heap.size ∧
    W.heap[w.heap.size + 1 + 1]? = some (.cells #[v1, v2, v3, v4, v5] t (0, 0)) := by
  have b1 := (Below.refl w.heap.size w).alloc (Nat.le_refl _) A
  have s1 := size_alloc w A
  generalize w.alloc A = w1 at *
  have b2 := b1.alloc (by omega) B
  have s2 := size_alloc w1 B
  generalize w1.alloc B = w2 at *
  have b3 := b2.alloc (by omega) (.cells #[v1, v2, v3, v4, v5] t)
  have s3 := size_alloc w2 (.cells #[v1, v2, v3, v4, v5] t)
  have r3 := heap_alloc_new w2 (.cells #[v1, v2, v3, v4, v5] t)
  generalize w2.alloc (.cells #[v1, v2, v3, v4, v5] t) = w3 at *
  rw [s2, s1] at r3
  exact ⟨_, rfl, b3.drew, by show _ ≤ w3.heap.size; omega, by show _ < w3.heap.size; omega, r3⟩
theorem pgs_cell {w : World} {a : Option Addr} {L : List (List UInt8)} (hA : At w a L) {k : Nat} (hk : k < L.length) : ∃ x, a = some x ∧ w.cell? (x.add k) = some (.string ⟨(L[k]).toArray⟩) := by
  obtain ⟨x, h1, _, h2⟩ := hA k L[k] (List.getElem?_eq_getElem hk)
  exact ⟨x, h1, h2⟩
set_option maxRecDepth 100000 in
set_option maxHeartbeats 1000000 in
theorem rload_ok (L : List (List UInt8)) (x : Addr) (c : Nat) (w : World) (h4 : 4 ≤ L.length) (h96 : L.length ≤ 4096) (hA : At w (some x) L) :
    Calls Try.prog 12 #[.slice (some x) L.length c] w fun r w' => Below w.heap.size w w' ∧ ((pgs L = true ∧ ∃ q, r = .returned (.tuple #[.pointer (some q), .int .i64 0])) ∨ (pgs L = false ∧ r = .returned (.tuple #[.pointer none, .int .i64 91]))) := by
  obtain ⟨n, hn⟩ : ∃ n, L.length = n := ⟨_, rfl⟩
  have HA := hid hA
  have HN := hid hn
  rw [hn] at h4 h96 ⊢
  have c0 : ¬ (n : Int) < 4 := by omega
  have c1 : ¬ (4096 : Int) < (n : Int) := by omega
  clear hA hn
  go_enter Try.func12, Try.ntmps12
  go_wp2
  go_loopw [4] (fun i w' => w' = w ∧ ∃ k : Nat, k ≤ n ∧ i = .int .i64 (k : Int) ∧ Hid (pgs (L.take k) = true)) (fun i _ => n - (RowKit.intOf i).toNat)
  case atStart => exact ⟨rfl, 0, by omega, rfl, by unfold Hid; rw [List.take_zero]; rfl⟩
  case round =>
    obtain ⟨rfl, k, hk, rfl, hP⟩ := hrel
    have hn := HN.out
    by_cases hkn : k < n
    · have b0 : (k : Int) < (n : Int) := by omega
      obtain ⟨y, hy, hc⟩ := pgs_cell HA.out (k := k) (by omega)
      cases hy
      obtain ⟨s, hs⟩ : ∃ s, (⟨(L[k]'(by omega)).toArray⟩ : ByteArray) = s := ⟨_, rfl⟩
      have hsz : s.size = (L[k]'(by omega)).length := by rw [← hs, sv_size]
      have hnx : pgs (L.take (k + 1)) = (pgs (L.take k) && decide ((L[k]'(by omega)).length = 256)) := by
        rw [take_snoc L (by omega), pgs, pgs, List.all_append]; simp only [List.all_cons, List.all_nil, Bool.and_true]
      have hall : pgs (L.take (k + 1)) = false → pgs L = false := fun h => by
        rw [← List.take_append_drop (k + 1) L, pgs, List.all_append]
        rw [pgs] at h
        rw [h]; rfl
      rw [← hsz, hP.out, Bool.true_and] at hnx
      rw [hs] at hc
      have HX := hid hnx
      have HALL := hid hall
      clear hnx hall hs hsz hP hn
      by_cases hz : s.size = 256
      · have z0 : (s.size : Int) = 256 := by omega
        have HZ := hid hz
        clear hz
        go_wp2
        exact ⟨⟨trivial, k + 1, by omega, by go_num, by have := HX.out; rw [HZ.out] at this; exact this⟩, by simp [RowKit.intOf]; omega⟩
      · have z0 : ¬ (s.size : Int) = 256 := by omega
        have HZ := hid hz
        clear hz
        go_wp2
        go_ret2
        refine ⟨Below.refl _ _, .inr ⟨HALL.out ?_, rfl⟩⟩
        rw [HX.out]; exact decide_eq_false HZ.out
    · obtain rfl : k = n := by omega
      have b0 : ¬ (k : Int) < (k : Int) := by omega
      have hP := hP.out
      rw [List.take_of_length_le (by omega)] at hP
      have HP := hid hP
      have hm1 : ∀ w, _ := fun w => make_bools w k (by omega)
      have hm2 : ∀ w, _ := fun w => make_texts w k (by omega)
      clear hP hn
      go_wp2
      go_region
      · obtain ⟨W, hW, bW, _, sW, rW⟩ := box3 wr (.cells (fv (List.replicate k false)).toArray 4) (.cells (svs (List.replicate k [])).toArray 9) (.slice none 0 0) (.slice (some ⟨wr.heap.size, 0, none⟩) k k) (.slice (some ⟨wr.heap.size + 1, 0, none⟩) k k) (.int .i64 0) (.bool false) 74
        rw [hW]
        have c2 : W.cell? ⟨wr.heap.size + 1 + 1, 0, none⟩ = some (.slice none 0 0) := by rw [cell_of_row _ _ _ _ _ _ rW]; rfl
        obtain ⟨v', w5, hap, O5, b5⟩ := append_all W x L c (HA.out.below bW (Nat.le_refl _)) (by rw [HN.out]; omega) (by rw [HN.out]; omega)
        rw [HN.out] at hap
        obtain ⟨va, vc, hv⟩ := O5.shape
        rw [svs_length, HN.out] at hv
        subst hv
        have c3 := (b5.cell (p := ⟨wr.heap.size + 1 + 1, 0, none⟩) sW).trans c2
        have f3 : w5.frozen? ⟨wr.heap.size + 1 + 1, 0, none⟩ = false := (b5.frozen (p := ⟨wr.heap.size + 1 + 1, 0, none⟩) sW).trans (frozen_of_row _ _ _ _ _ rW)
        have B5 := hid ((bW.trans (b5.mono bW.size)).setCell (p := ⟨wr.heap.size + 1 + 1, 0, none⟩) (by omega : wr.heap.size ≤ wr.heap.size + 1 + 1) (.slice va k vc))
        clear O5 b5 bW rW hW hm1 hm2
        go_wp2_with (at_builtin; go_must (refine Lib.wpList_append_run _ rfl _ _ 30 30 rfl _ _ rfl rfl _ _ hap ?_))
        go_ret2
        exact ⟨B5.out, .inl ⟨HP.out, _, rfl⟩⟩
      · obtain ⟨W, hW, bW, _, sW, rW⟩ := box3 wr (.cells (svs (List.replicate k [])).toArray 9) (.cells (fv (List.replicate k false)).toArray 4) (.slice none 0 0) (.slice (some ⟨wr.heap.size + 1, 0, none⟩) k k) (.slice (some ⟨wr.heap.size, 0, none⟩) k k) (.int .i64 0) (.bool false) 74
        rw [hW]
        have c2 : W.cell? ⟨wr.heap.size + 1 + 1, 0, none⟩ = some (.slice none 0 0) := by rw [cell_of_row _ _ _ _ _ _ rW]; rfl
        obtain ⟨v', w5, hap, O5, b5⟩ := append_all W x L c (HA.out.below bW (Nat.le_refl _)) (by rw [HN.out]; omega) (by rw [HN.out]; omega)
        rw [HN.out] at hap
        obtain ⟨va, vc, hv⟩ := O5.shape
        rw [svs_length, HN.out] at hv
        subst hv
        have c3 := (b5.cell (p := ⟨wr.heap.size + 1 + 1, 0, none⟩) sW).trans c2
        have f3 : w5.frozen? ⟨wr.heap.size + 1 + 1, 0, none⟩ = false := (b5.frozen (p := ⟨wr.heap.size + 1 + 1, 0, none⟩) sW).trans (frozen_of_row _ _ _ _ _ rW)
        have B5 := hid ((bW.trans (b5.mono bW.size)).setCell (p := ⟨wr.heap.size + 1 + 1, 0, none⟩) (by omega : wr.heap.size ≤ wr.heap.size + 1 + 1) (.slice va k vc))
        clear O5 b5 bW rW hW hm1 hm2
        go_wp2_with (at_builtin; go_must (refine Lib.wpList_append_run _ rfl _ _ 30 30 rfl _ _ rfl rfl _ _ hap ?_))
        go_ret2
        exact ⟨B5.out, .inl ⟨HP.out, _, rfl⟩⟩
end Go.Proofs.Ytkpfpfjjkcefkaa
