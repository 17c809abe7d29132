import Derived.Test.YthoekndjeclimaaGreatDoorCO6
import Derived.Test.YthoekndjeclimaaGreatDoorCI2
namespace Go.Proofs.YthoekndjeclimaaGreatDoor
open Go.RowKit
theorem svs_one' {L : List (List UInt8)} {v : Value} (h : v ∈ svs L) : v.oneCell' = true := by
  simp only [svs, List.mem_map] at h
  obtain ⟨n, _, rfl⟩ := h
  rfl
/-- a row of texts -/
def Row (w : World) (H : Nat) (L : List (List UInt8)) : Prop := w.heap[H]? = some (.cells (svs L).toArray 9 (0, 0))
theorem Row.lt {w : World} {H : Nat} {L : List (List UInt8)} (h : Row w H L) : H < w.heap.size := lt_of_heap h
theorem Row.cell {w : World} {H : Nat} {L : List (List UInt8)} (h : Row w H L) {j : Nat} {p : List UInt8} (hp : L[j]? = some p) : w.cell? ⟨H, j, none⟩ = some (sv p) := by
  rw [cell_of_row _ _ _ _ _ _ h]; simp [svs, hp]
theorem Row.at {w : World} {H : Nat} {L : List (List UInt8)} (h : Row w H L) : At w (some ⟨H, 0, none⟩) L := fun j p hp => ⟨_, rfl, h.lt, by rw [Addr.add_mid, Nat.zero_add]; exact h.cell hp⟩
theorem Row.free {w : World} {H : Nat} {L : List (List UInt8)} (h : Row w H L) {j : Nat} (hj : j < L.length) : w.frozen? ⟨H, j, none⟩ = false := by
  have := (there_of_row h 0 L.length (by simp [svs])) j hj
  rw [Nat.zero_add] at this
  exact this.2
theorem Row.below {w w' : World} {H B : Nat} {L : List (List UInt8)} (h : Row w H L) (hb : Below B w w') (hB : H < B) : Row w' H L := by
  unfold Row; rw [hb.block H hB]; exact h
theorem Row.heap {w w' : World} {H : Nat} {L : List (List UInt8)} (h : Row w H L) (e : w'.heap = w.heap) : Row w' H L := by
  unfold Row; rw [e]; exact h
theorem Row.set {w : World} {H : Nat} {L : List (List UInt8)} (h : Row w H L) (k : Nat) (x : List UInt8) : Row (w.setCell ⟨H, k, none⟩ (sv x)) H (L.set k x) := by
  have e := setCell_eq_setRow w H k (svs L).toArray 9 (0, 0) (sv x) h
  unfold Row
  rw [e, setRow_heap _ _ _ _ _ _ h]
  refine congrArg (fun A => some (Obj.cells A 9 (0, 0))) ?_
  simp [svs, List.map_set]
theorem infoS1 : (Tryz.prog.info? 9).map (·.size) = some 1 := by kernel_rfl
/-- make([]string, c) -/
theorem make_texts (w : World) (c : Nat) (hc : c ≤ 8796093021960) :
    (Instr.makeSlice 22 (.int .i64 (c : Int)) (.int .i64 (c : Int))).run Tryz.prog w = .ok (.slice (some ⟨w.heap.size, 0, none⟩) c c) (w.alloc (.cells (svs (List.replicate c [])).toArray 9)) := by
  obtain ⟨i0, hi, hz0, hz1, hz2⟩ := info_parts infoS
  have h := run_make (P := Tryz.prog) w 22 9 i0 (.string ⟨#[]⟩) Tryz.underlying22 hi hz0 .i64 .i64 (c : Int) (c : Int) (by omega) (by omega) (by rw [hz2]; omega) (by omega)
  rw [Int.toNat_natCast, hz1, Nat.mul_one] at h
  have e : madeCells (Value.string ⟨#[]⟩).cells c = (svs (List.replicate c [])).toArray := by
    apply Array.ext'
    rw [show (madeCells (Value.string ⟨#[]⟩).cells c).toList = List.replicate c (.string ⟨#[]⟩) from toList_madeCells_one _ _]
    simp [svs]; exact .inr rfl
  rw [e] at h
  exact h
/-- copy(own, l) -/
theorem copy_texts (w : World) (H : Nat) (a : Option Addr) (cap' : Nat) (ps rest : List (List UInt8)) (hs : At w a ps) (hR : Row w H (List.replicate ps.length [] ++ rest)) (m cap : Nat) (hm : m = ps.length + rest.length) :
    ∃ w', (Builtin.copy_ #[22, 22] 3 #[.slice (some ⟨H, 0, none⟩) m cap, .slice a ps.length cap']).run Tryz.prog w = .ok (goInt ps.length) w' ∧ Row w' H (ps ++ rest) ∧ But H w w' := by
  by_cases h0 : ps.length = 0
  · obtain rfl : ps = [] := List.length_eq_zero_iff.1 h0
    exact ⟨w, run_copy_none (P := Tryz.prog) w _ _ _ 9 _ _ _ _ _ _ Tryz.underlying22 infoS1 (by simp), by simpa using hR, But.refl _ _⟩
  · obtain ⟨x, rfl, hx, _⟩ := hs 0 _ (List.getElem?_eq_getElem (by omega))
    have h := run_copy_row (P := Tryz.prog) w 22 22 3 9 H 0 m cap x ps.length cap' _ 9 (svs ps) Tryz.underlying22 infoS1 hR
      (by rw [svs_length]; exact (Nat.min_eq_left (by omega)).symm) (fun j u hu => by
        simp only [svs, List.getElem?_map, Option.map_eq_some_iff] at hu
        obtain ⟨p, hp, rfl⟩ := hu
        obtain ⟨y, hy, _, hc⟩ := hs j p hp
        cases hy
        exact hc) (by simp [svs]) (fun u hu => svs_one' hu)
    refine ⟨_, h.trans (by rw [svs_length]), ?_, (But.refl _ _).setRow _⟩
    unfold Row
    rw [setRow_heap _ _ _ _ _ _ hR]
    refine congrArg (fun A => some (Obj.cells A 9 (0, 0))) ?_
    simp [svs]
end Go.Proofs.YthoekndjeclimaaGreatDoor

namespace Go.Proofs.YthoekndjeclimaaGreatDoor
open Go.RowKit
set_option maxRecDepth 100000 in
set_option maxHeartbeats 2000000 in
theorem vnode_any {l r m : List UInt8} (h : Hid (Tree.nd l r = m)) (w : World) (T : Tabs w) :
    Calls Tryz.prog 95 #[sv l, sv r] w fun e w' => e = .returned (sv m) ∧ Below w.heap.size w w' := by
  obtain ⟨m', d, hm⟩ : ∃ m' d, Hid (nodeOf l r = (m', d)) := ⟨_, _, rfl⟩
  have e' := hid (show m = m' by rw [← h.out, ← nodeOf_nd, hm.out])
  go_enter Tryz.func95, Tryz.ntmps95
  go_wp2_with (go_at_call 65; refine (node_at hm _ T).mono ?_; rintro e w1 ⟨rfl, hw1⟩)
  go_ret
  exact ⟨by rw [e'.out]; rfl, hw1⟩
set_option maxRecDepth 100000 in
set_option maxHeartbeats 2000000 in
theorem isHash_any (s : ByteArray) (w : World) :
    Calls Tryz.prog 48 #[.string s] w fun e w' => e = .returned (.bool ((s.size : Int) == 32)) ∧ w' = w := by
  go_enter Tryz.func48, Tryz.ntmps48
  go_wp2
  go_ret
  exact ⟨rfl, rfl⟩
/-- what is wrong with a list of hashes that should be n -/
def chk (x : List UInt8) (l : List (List UInt8)) (n : Int) : Int := if x.length = 32 ∧ l.all (·.length == 32) = true then (if (l.length : Int) = n then 0 else 43) else 42
theorem isHash_at (s : ByteArray) (b : Bool) (h : ((s.size : Int) == 32) = b) (w : World) :
    Calls Tryz.prog 48 #[.string s] w fun e w' => e = .returned (.bool b) ∧ w' = w := by
  have := isHash_any s w
  rwa [h] at this
set_option maxRecDepth 100000 in
set_option maxHeartbeats 2000000 in
theorem checkHashes_any (x : List UInt8) (l : List (List UInt8)) (n : Int) (a : Option Addr) (cap : Nat) (w : World) (hc : l.length ≤ 9223372036854775807) (hA : At w a l) :
    Calls Tryz.prog 69 #[sv x, .slice a l.length cap, .int .i64 n] w fun e w' => e = .returned (.int .i64 (chk x l n)) ∧ w' = w := by
  have hx : (ByteArray.mk x.toArray).size = x.length := sv_size x
  show Calls _ _ #[.string ⟨x.toArray⟩, _, _] _ _
  generalize ByteArray.mk x.toArray = X at *
  by_cases h1 : x.length = 32
  · have i1 := isHash_at X true (by simp; omega) w
    have e0 : chk x l n = if l.all (·.length == 32) = true then (if (l.length : Int) = n then 0 else 43) else 42 := by unfold chk; simp [h1]
    rw [e0]
    clear e0 h1 hx
    generalize hn : l.length = k at *
    have HA := hid hA
    obtain ⟨z, hz⟩ : ∃ z : Int, Hid ((if l.all (·.length == 32) = true then (if (k : Int) = n then 0 else 43) else 42) = z) := ⟨_, rfl⟩
    rw [hz.out]
    clear hA
    go_enter Tryz.func69, Tryz.ntmps69
    go_wp2_with (go_at_call 48; refine i1.mono ?_; rintro e w1 ⟨rfl, rfl⟩)
    go_loopw [14] (fun i w' => ∃ j : Nat, j ≤ k ∧ i = .int .i64 (j : Int) ∧ Hid ((l.take j).all (·.length == 32) = true) ∧ w' = w1) (fun i _ => k - (intOf i).toNat)
    case atStart => exact ⟨0, by omega, rfl, rfl, rfl⟩
    case round =>
      obtain ⟨j, hj, rfl, hall, rfl⟩ := hrel
      by_cases hjk : j < k
      · have b0 : (j : Int) < (k : Int) := by omega
        obtain ⟨y, rfl⟩ := HA.out.pos (by omega)
        obtain ⟨s, hs, hcell⟩ := HA.out.cell j (by omega)
        by_cases h32 : s.size = 32
        · have i2 := isHash_at s true (by simp; omega) wr
          have e2 := hid (all_take l j (by omega) hall.out (by rw [← hs.out, data_length]; exact h32))
          clear HA hall hs i1
          go_wp2_with (go_at_call 48; refine i2.mono ?_; rintro e w2 ⟨rfl, rfl⟩)
          exact ⟨⟨j + 1, by omega, by go_num, e2, trivial⟩, by simp [intOf]; omega⟩
        · have i2 := isHash_at s false (by simp; omega) wr
          have e2 := hid (all_not l j (by omega) (by rw [← hs.out, data_length]; exact h32))
          have e3 := hid (show z = 42 by have := hz.out; rw [e2.out] at this; exact this.symm)
          clear HA hall hs i1 e2 hz
          go_wp2_with (go_at_call 48; refine i2.mono ?_; rintro e w2 ⟨rfl, rfl⟩)
          go_ret
          exact ⟨by rw [e3.out]; rfl, rfl⟩
      · obtain rfl : j = k := by omega
        have b0 : ¬ (j : Int) < (j : Int) := by omega
        rw [← hn, List.take_length] at hall
        by_cases hk : (j : Int) = n
        · have b1 : ((j : Int) != n) = false := by simp; omega
          have e3 := hid (show z = 0 by have := hz.out; rw [hall.out, if_pos rfl, if_pos hk] at this; exact this.symm)
          clear HA hall hz i1
          go_wp2
          go_ret
          exact ⟨by rw [e3.out]; rfl, rfl⟩
        · have b1 : ((j : Int) != n) = true := by simp; omega
          have e3 := hid (show z = 43 by have := hz.out; rw [hall.out, if_pos rfl, if_neg hk] at this; exact this.symm)
          clear HA hall hz i1
          go_wp2
          go_ret
          exact ⟨by rw [e3.out]; rfl, rfl⟩
  · have i1 := isHash_at X false (by simp; omega) w
    have e0 : chk x l n = 42 := by unfold chk; rw [if_neg (fun h => h1 h.1)]
    rw [e0]
    clear e0 hx
    generalize l.length = k at *
    clear hA
    go_enter Tryz.func69, Tryz.ntmps69
    go_wp2_with (go_at_call 48; refine i1.mono ?_; rintro e w1 ⟨rfl, rfl⟩)
    go_ret
    exact ⟨rfl, rfl⟩
set_option maxRecDepth 100000 in
set_option maxHeartbeats 2000000 in
theorem vcopied_any (l : List (List UInt8)) (a : Option Addr) (cap : Nat) (w : World) (hn : l.length ≤ 8796093021952) (hA : At w a l) :
    Calls Tryz.prog 93 #[.slice a l.length cap] w fun e w' => e = .returned (.slice (some ⟨w.heap.size, 0, none⟩) l.length l.length) ∧ Row w' w.heap.size l ∧ Below w.heap.size w w' := by
  have hmk := make_texts w l.length (by omega)
  have R1 : Row (w.alloc (.cells (svs (List.replicate l.length [])).toArray 9)) w.heap.size (List.replicate l.length [] ++ []) := by
    rw [List.append_nil]; exact heap_alloc_new w _
  have hb1 := (Below.refl w.heap.size w).alloc (Nat.le_refl _) (.cells (svs (List.replicate l.length [])).toArray 9)
  obtain ⟨w2, hcp, hR2, hb2⟩ := copy_texts _ w.heap.size a cap l [] (hA.below hb1 (Nat.le_refl _)) R1 l.length l.length (by simp)
  have HB2 := hid (show Below w.heap.size w w2 from hb1.trans (hb2.below (Nat.le_refl _) (by rw [size_alloc]; omega)))
  rw [List.append_nil] at hR2
  have HR2 := hid hR2
  clear hR2 R1 hb2 hb1 hA
  generalize w.alloc (.cells (svs (List.replicate l.length [])).toArray 9) = w1 at *
  generalize l.length = n at *
  go_enter Tryz.func93, Tryz.ntmps93
  go_wp2
  go_ret
  exact ⟨rfl, HR2.out, HB2.out⟩
end Go.Proofs.YthoekndjeclimaaGreatDoor
