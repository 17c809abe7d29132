import Derived.Test.YtfolaldjdefioaaDoorO28
namespace Go.Proofs.YtfolaldjdefioaaDoor
open Go.RowKit
/-- a row of texts -/
def Row (w : World) (H : Nat) (L : List (List UInt8)) : Prop := w.heap[H]? = some (.cells (svs L).toArray 9 (0, 0))
theorem Row.lt {w : World} {H : Nat} {L : List (List UInt8)} (h : Row w H L) : H < w.heap.size := lt_of_heap h
theorem Row.cell {w : World} {H : Nat} {L : List (List UInt8)} (h : Row w H L) {j : Nat} {p : List UInt8} (hp : L[j]? = some p) : w.cell? ⟨H, j, none⟩ = some (sv p) := by
  rw [cell_of_row _ _ _ _ _ _ h]; simp [svs, hp]
theorem Row.at {w : World} {H : Nat} {L : List (List UInt8)} (h : Row w H L) : At w (some ⟨H, 0, none⟩) L := fun j p hp => ⟨_, rfl, h.lt, by rw [Addr.add_mid, Nat.zero_add]; exact h.cell hp⟩
theorem Row.free {w : World} {H : Nat} {L : List (List UInt8)} (h : Row w H L) {j : Nat} (hj : j < L.length) : w.frozen? ⟨H, j, none⟩ = false := by
  have := (there_of_row h 0 L.length (by simp [svs])) j hj
  rw [Nat.zero_add] at this
  exact this.2
theorem Row.below {w w' : World} {H B : Nat} {L : List (List UInt8)} (h : Row w H L) (hb : Below B w w') (hB : H < B) : Row w' H L := by
  unfold Row; rw [hb.block H hB]; exact h
theorem Row.heap {w w' : World} {H : Nat} {L : List (List UInt8)} (h : Row w H L) (e : w'.heap = w.heap) : Row w' H L := by
  unfold Row; rw [e]; exact h
theorem Row.set {w : World} {H : Nat} {L : List (List UInt8)} (h : Row w H L) (k : Nat) (x : List UInt8) : Row (w.setCell ⟨H, k, none⟩ (sv x)) H (L.set k x) := by
  have e := setCell_eq_setRow w H k (svs L).toArray 9 (0, 0) (sv x) h
  unfold Row
  rw [e, setRow_heap _ _ _ _ _ _ h]
  refine congrArg (fun A => some (Obj.cells A 9 (0, 0))) ?_
  simp [svs, List.map_set]
theorem infoS1 : (Tryd.prog.info? 9).map (·.size) = some 1 := by kernel_rfl
/-- make([]string, c) -/
theorem make_texts (w : World) (c : Nat) (hc : c ≤ 8796093021960) :
    (Instr.makeSlice 26 (.int .i64 (c : Int)) (.int .i64 (c : Int))).run Tryd.prog w = .ok (.slice (some ⟨w.heap.size, 0, none⟩) c c) (w.alloc (.cells (svs (List.replicate c [])).toArray 9)) := by
  obtain ⟨i0, hi, hz0, hz1, hz2⟩ := info_parts infoS
  have h := run_make (P := Tryd.prog) w 26 9 i0 (.string ⟨#[]⟩) Tryd.underlying26 hi hz0 .i64 .i64 (c : Int) (c : Int) (by omega) (by omega) (by rw [hz2]; omega) (by omega)
  rw [Int.toNat_natCast, hz1, Nat.mul_one] at h
  have e : madeCells (Value.string ⟨#[]⟩).cells c = (svs (List.replicate c [])).toArray := by
    apply Array.ext'
    rw [show (madeCells (Value.string ⟨#[]⟩).cells c).toList = List.replicate c (.string ⟨#[]⟩) from toList_madeCells_one _ _]
    simp [svs]; exact .inr rfl
  rw [e] at h
  exact h
/-- copy(own, l) -/
theorem copy_texts (w : World) (H : Nat) (a : Option Addr) (cap' : Nat) (ps rest : List (List UInt8)) (hs : At w a ps) (hR : Row w H (List.replicate ps.length [] ++ rest)) (m cap : Nat) (hm : m = ps.length + rest.length) :
    ∃ w', (Builtin.copy_ #[26, 26] 3 #[.slice (some ⟨H, 0, none⟩) m cap, .slice a ps.length cap']).run Tryd.prog w = .ok (goInt ps.length) w' ∧ Row w' H (ps ++ rest) ∧ But H w w' := by
  by_cases h0 : ps.length = 0
  · obtain rfl : ps = [] := List.length_eq_zero_iff.1 h0
    exact ⟨w, run_copy_none (P := Tryd.prog) w _ _ _ 9 _ _ _ _ _ _ Tryd.underlying26 infoS1 (by simp), by simpa using hR, But.refl _ _⟩
  · obtain ⟨x, rfl, hx, _⟩ := hs 0 _ (List.getElem?_eq_getElem (by omega))
    have h := run_copy_row (P := Tryd.prog) w 26 26 3 9 H 0 m cap x ps.length cap' _ 9 (svs ps) Tryd.underlying26 infoS1 hR
      (by rw [svs_length]; exact (Nat.min_eq_left (by omega)).symm) (fun j u hu => by
        simp only [svs, List.getElem?_map, Option.map_eq_some_iff] at hu
        obtain ⟨p, hp, rfl⟩ := hu
        obtain ⟨y, hy, _, hc⟩ := hs j p hp
        cases hy
        exact hc) (by simp [svs]) (fun u hu => svs_one hu)
    refine ⟨_, h.trans (by rw [svs_length]), ?_, (But.refl _ _).setRow _⟩
    unfold Row
    rw [setRow_heap _ _ _ _ _ _ hR]
    refine congrArg (fun A => some (Obj.cells A 9 (0, 0))) ?_
    simp [svs]
def spare : List UInt8 := [115, 112, 97, 114, 101]
theorem spare_sv : sv spare = .string ⟨#[115, 112, 97, 114, 101]⟩ := rfl
def behind (j : Nat) : List (List UInt8) := List.replicate j spare ++ List.replicate (8 - j) []
theorem behind_len (j : Nat) (h : j ≤ 8) : (behind j).length = 8 := by simp [behind]; omega
theorem behind_set : ∀ j : Fin 8, (behind j.val).set j.val spare = behind (j.val + 1) := by decide
theorem behind_get : ∀ j : Fin 8, (behind 8)[j.val]? = some spare := by decide
theorem behind_step (ps : List (List UInt8)) (j : Nat) (h : j < 8) : (ps ++ behind j).set (ps.length + j) spare = ps ++ behind (j + 1) := by
  rw [List.set_append_right _ _ (by omega), show ps.length + j - ps.length = j from by omega, behind_set ⟨j, h⟩]
set_option maxRecDepth 100000 in
set_option maxHeartbeats 1000000 in
theorem lent_any (ps : List (List UInt8)) (a : Option Addr) (cap : Nat) (w : World) (hn : ps.length ≤ 8796093021952) (hA : At w a ps) :
    Calls Tryd.prog 25 #[.slice a ps.length cap] w fun e w' => e = .returned (.slice (some ⟨w.heap.size, 0, none⟩) (ps.length + 8) (ps.length + 8)) ∧ Row w' w.heap.size (ps ++ behind 8) ∧ Below w.heap.size w w' := by
  have hmk := make_texts w (ps.length + 8) (by omega)
  have e8 : ((ps.length + 8 : Nat) : Int) = (ps.length : Int) + 8 := by omega
  rw [e8] at hmk
  have R1 : Row (w.alloc (.cells (svs (List.replicate (ps.length + 8) [])).toArray 9)) w.heap.size (List.replicate ps.length [] ++ List.replicate 8 []) := by
    rw [List.replicate_append_replicate]; exact heap_alloc_new w _
  have hb1 := (Below.refl w.heap.size w).alloc (Nat.le_refl _) (.cells (svs (List.replicate (ps.length + 8) [])).toArray 9)
  obtain ⟨w2, hcp, hR2, hb2⟩ := copy_texts _ w.heap.size a cap ps (List.replicate 8 []) (hA.below hb1 (Nat.le_refl _)) R1 (ps.length + 8) (ps.length + 8) (by simp)
  have B2 : Below w.heap.size w w2 := hb1.trans (hb2.below (Nat.le_refl _) (by rw [size_alloc]; omega))
  have HR2 := hid hR2
  have HB2 := hid B2
  clear hR2 B2 R1 hb2 hb1 hA
  generalize w.alloc (.cells (svs (List.replicate (ps.length + 8) [])).toArray 9) = w1 at *
  obtain ⟨n, hpn⟩ : ∃ n, ps.length = n := ⟨_, rfl⟩
  rw [hpn] at hmk hcp hn ⊢
  go_enter Tryd.func25, Tryd.ntmps25
  go_wp2
  clear hcp hmk
  go_loopw [4] (fun i w' => ∃ j : Nat, j ≤ 8 ∧ i = .int .i64 ((n : Int) + (j : Int)) ∧ Hid (Row w' w.heap.size (ps ++ behind j)) ∧ Hid (Below w.heap.size w w')) (fun i _ => n + 8 - (intOf i).toNat)
  case atStart => exact ⟨0, by omega, by simp, HR2, HB2⟩
  case round =>
    clear HR2 HB2
    obtain ⟨j, hj, rfl, hR, hB⟩ := hrel
    by_cases hlt : j < 8
    · have b0 : (n : Int) + (j : Int) < (n : Int) + 8 := by omega
      have b1 : (0 : Int) ≤ (n : Int) + (j : Int) := by omega
      have t1 : ((n : Int) + (j : Int)).toNat = n + j := by omega
      have hl : (ps ++ behind j).length = n + 8 := by rw [List.length_append, behind_len j (by omega), hpn]
      have cp := hR.out.cell (List.getElem?_eq_getElem (show n + j < (ps ++ behind j).length by omega))
      have fz := hR.out.free (show n + j < (ps ++ behind j).length by omega)
      have R' := hR.out.set (n + j) spare
      rw [← hpn, behind_step ps j hlt, hpn] at R'
      have B' := hid (hB.out.setCell (p := ⟨w.heap.size, n + j, none⟩) (Nat.le_refl _) (sv spare))
      rw [spare_sv] at R' B'
      have R'' := hid R'
      clear R' hR hB
      go_wp2
      exact ⟨⟨j + 1, by omega, by rw [show (n : Int) + (j : Int) + 1 = (n : Int) + ((j + 1 : Nat) : Int) from by omega], R'', B'⟩, by simp [intOf]; omega⟩
    · obtain rfl : j = 8 := by omega
      have b0 : ¬ (n : Int) + ((8 : Nat) : Int) < (n : Int) + 8 := by omega
      go_wp2
      go_ret
      exact ⟨rfl, hR.out, hB.out⟩
set_option maxRecDepth 100000 in
set_option maxHeartbeats 1000000 in
theorem kept_yes (ps : List (List UInt8)) (H : Nat) (a : Option Addr) (cap : Nat) (w : World) (hn : ps.length ≤ 8796093021952) (hR : Row w H (ps ++ behind 8)) (hA : At w a ps) :
    Calls Tryd.prog 28 #[.slice (some ⟨H, 0, none⟩) (ps.length + 8) (ps.length + 8), .slice a ps.length cap] w fun e w' => e = .returned (.bool true) ∧ Below w.heap.size w w' ∧ w'.heap = w.heap := by
  have hA1 : At w (some ⟨H, 0, none⟩) ps := by
    have := hR.at.take ps.length
    rwa [List.take_left] at this
  have cS := same_yes ps (some ⟨H, 0, none⟩) a (ps.length + 8) cap w hA1 hA (by omega)
  have HR := hid hR
  obtain ⟨n, hpn⟩ : ∃ n, ps.length = n := ⟨_, rfl⟩
  rw [hpn] at cS hn ⊢
  clear hA hA1 hR
  have hnn : (n : Int) ≤ (n : Int) + 8 := by omega
  go_enter Tryd.func28, Tryd.ntmps28
  go_wp2
  go_loopw [5] (fun i w' => ∃ j : Nat, j ≤ 8 ∧ i = .int .i64 ((n : Int) + (j : Int)) ∧ w' = w) (fun i _ => n + 8 - (intOf i).toNat)
  case atStart => exact ⟨0, by omega, by simp, rfl⟩
  case round =>
    obtain ⟨j, hj, rfl, rfl⟩ := hrel
    by_cases hlt : j < 8
    · have b0 : (n : Int) + (j : Int) < (n : Int) + 8 := by omega
      have b1 : (0 : Int) ≤ (n : Int) + (j : Int) := by omega
      have t1 : ((n : Int) + (j : Int)).toNat = n + j := by omega
      have cp := HR.out.cell (j := n + j) (p := spare) (by
        rw [List.getElem?_append_right (by omega), hpn, show n + j - n = j from by omega]
        exact behind_get ⟨j, hlt⟩)
      rw [spare_sv] at cp
      go_wp2
      exact ⟨⟨j + 1, by omega, by rw [show (n : Int) + (j : Int) + 1 = (n : Int) + ((j + 1 : Nat) : Int) from by omega], trivial⟩, by simp [intOf]; omega⟩
    · obtain rfl : j = 8 := by omega
      have b0 : ¬ (n : Int) + ((8 : Nat) : Int) < (n : Int) + 8 := by omega
      go_wp2_with (go_at_call 24; refine cS.mono ?_; rintro e w9 ⟨rfl, hw9, hh9⟩)
      go_ret
      exact ⟨rfl, hw9, hh9⟩
end Go.Proofs.YtfolaldjdefioaaDoor
