import Derived.Test.YtjcapdkibbjmiaaGreatDoorPkCR4
import Derived.Test.YtjcapdkibbjmiaaGreatDoorPkCL2
import Derived.Test.YtjcapdkibbjmiaaGreatDoorPkFL2
/- Layer 13, the law: numbers that are lent, kept, each one more (written by genCH2.py) -/
namespace Go.Proofs.YtjcapdkibbjmiaaGreatDoor
open Go.RowKit Go.Shelf
namespace Chn
namespace Gb
theorem below_drewN8g {B : Nat} {a w : World} (h : Below B a w) (n : Nat) : Below B a (w.drewN n) := ⟨h.os, h.tape, h.output, h.size, h.block⟩
def ivz (l : List Int) : List Value := l.map fun x => .int .i64 x
theorem ivz_len (l : List Int) : (ivz l).length = l.length := by simp [ivz]
theorem ivz_one {L : List Int} {v : Value} (h : v ∈ ivz L) : v.oneCell' = true := by
  simp only [ivz, List.mem_map] at h
  obtain ⟨n, _, rfl⟩ := h
  rfl
theorem infoZ : (Tryz.prog.info? 3).map (fun i => (i.zero, i.size, i.bytes)) = some (some (.int .i64 0), 1, 8) := by kernel_rfl
theorem infoZ1 : (Tryz.prog.info? 3).map (·.size) = some 1 := by kernel_rfl
def RowZ (w : World) (H : Nat) (L : List Int) : Prop := w.heap[H]? = some (.cells (ivz L).toArray 3 (0, 0))
theorem RowZ.lt {w : World} {H : Nat} {L : List Int} (h : RowZ w H L) : H < w.heap.size := lt_of_heap h
theorem RowZ.cell {w : World} {H : Nat} {L : List Int} (h : RowZ w H L) {j : Nat} {p : Int} (hp : L[j]? = some p) : w.cell? ⟨H, j, none⟩ = some (.int .i64 p) := by
  rw [cell_of_row _ _ _ _ _ _ h]; simp [ivz, hp]
theorem RowZ.at {w : World} {H : Nat} {L : List Int} (h : RowZ w H L) : AtI w (some ⟨H, 0, none⟩) L := fun j p hp => ⟨_, rfl, h.lt, by rw [Addr.add_mid, Nat.zero_add]; exact h.cell hp⟩
theorem RowZ.free {w : World} {H : Nat} {L : List Int} (h : RowZ w H L) (j : Nat) : w.frozen? ⟨H, j, none⟩ = false := frozen_of_row _ _ _ _ _ h
theorem RowZ.below {w w' : World} {H B : Nat} {L : List Int} (h : RowZ w H L) (hb : Below B w w') (hB : H < B) : RowZ w' H L := (hb.block H hB).trans h
theorem RowZ.set {w : World} {H : Nat} {L : List Int} (h : RowZ w H L) (k : Nat) (x : Int) : RowZ (w.setCell ⟨H, k, none⟩ (.int .i64 x)) H (L.set k x) := by
  have e := setCell_eq_setRow w H k (ivz L).toArray 3 (0, 0) (.int .i64 x) h
  unfold RowZ
  rw [e, setRow_heap _ _ _ _ _ _ h]
  refine congrArg (fun A => some (Obj.cells A 3 (0, 0))) ?_
  simp [ivz, List.map_set]
theorem make_ints13 (w : World) (c : Nat) (hc : c ≤ 17592186044416) :
    (Instr.makeSlice 23 (.int .i64 (c : Int)) (.int .i64 (c : Int))).run Tryz.prog w = .ok (.slice (some ⟨w.heap.size, 0, none⟩) c c) (w.alloc (.cells (ivz (List.replicate c 0)).toArray 3)) := by
  obtain ⟨i0, hi, hz0, hz1, hz2⟩ := info_parts infoZ
  have h := run_make (P := Tryz.prog) w 23 3 i0 (.int .i64 0) Tryz.underlying23 hi hz0 .i64 .i64 (c : Int) (c : Int) (by omega) (by omega) (by rw [hz2]; omega) (by omega)
  rw [Int.toNat_natCast, hz1, Nat.mul_one] at h
  have e : madeCells (Value.int .i64 0).cells c = (ivz (List.replicate c 0)).toArray := by
    apply Array.ext'
    rw [show (madeCells (Value.int .i64 0).cells c).toList = List.replicate c (.int .i64 0) from toList_madeCells_one _ _]
    simp [ivz]
  rw [e] at h
  exact h
theorem copy_ints13 (w : World) (H : Nat) (a : Option Addr) (cap' : Nat) (ps rest : List Int) (hs : AtI w a ps) (hR : RowZ w H (List.replicate ps.length 0 ++ rest)) (m cap : Nat) (hm : m = ps.length + rest.length) :
    ∃ w', (Builtin.copy_ #[23, 23] 3 #[.slice (some ⟨H, 0, none⟩) m cap, .slice a ps.length cap']).run Tryz.prog w = .ok (goInt ps.length) w' ∧ RowZ w' H (ps ++ rest) ∧ But H w w' := by
  by_cases h0 : ps.length = 0
  · obtain rfl : ps = [] := List.length_eq_zero_iff.1 h0
    exact ⟨w, run_copy_none (P := Tryz.prog) w _ _ _ 3 _ _ _ _ _ _ Tryz.underlying23 infoZ1 (by simp), by simpa using hR, But.refl _ _⟩
  · obtain ⟨x, rfl, hx, _⟩ := hs 0 _ (List.getElem?_eq_getElem (by omega))
    have h := run_copy_row (P := Tryz.prog) w 23 23 3 3 H 0 m cap x ps.length cap' _ 3 (ivz ps) Tryz.underlying23 infoZ1 hR
      (by rw [ivz_len]; exact (Nat.min_eq_left (by omega)).symm) (fun j u hu => by
        simp only [ivz, List.getElem?_map, Option.map_eq_some_iff] at hu
        obtain ⟨p, hp, rfl⟩ := hu
        obtain ⟨y, hy, _, hc⟩ := hs j p hp
        cases hy
        exact hc) (by simp [ivz]) (fun u hu => ivz_one hu)
    refine ⟨_, h.trans (by rw [ivz_len]), ?_, (But.refl _ _).setRow _⟩
    unfold RowZ
    rw [setRow_heap _ _ _ _ _ _ hR]
    refine congrArg (fun A => some (Obj.cells A 3 (0, 0))) ?_
    simp [ivz]
def b77 (j : Nat) : List Int := List.replicate j 77 ++ List.replicate (8 - j) 0
theorem b77_set (ps : List Int) {j : Nat} (hj : j < 8) : (ps ++ b77 j).set (ps.length + j) 77 = ps ++ b77 (j + 1) := by
  rw [List.set_append_right _ _ (by omega), Nat.add_sub_cancel_left, b77, b77, show 8 - j = (8 - (j + 1)) + 1 by omega, List.replicate_succ, List.set_append_right _ _ (by simp), List.length_replicate, Nat.sub_self, List.replicate_succ', List.append_assoc]
  rfl
theorem b77_len (j : Nat) (hj : j ≤ 8) : (b77 j).length = 8 := by simp [b77]; omega
set_option maxRecDepth 100000 in
set_option maxHeartbeats 2000000 in
theorem lentInts13_any (ps : List Int) (a : Option Addr) (cap : Nat) (w : World) (hn : ps.length ≤ 17592186044400) (hA : AtI w a ps) :
    Calls Tryz.prog 28 #[.slice a ps.length cap] w fun e w' => e = .returned (.slice (some ⟨w.heap.size, 0, none⟩) (ps.length + 8) (ps.length + 8)) ∧ RowZ w' w.heap.size (ps ++ List.replicate 8 77) ∧ Below w.heap.size w w' := by
  have hmk := make_ints13 w (ps.length + 8) (by omega)
  have e8 : ((ps.length + 8 : Nat) : Int) = (ps.length : Int) + 8 := by omega
  rw [e8] at hmk
  have R1 : RowZ (w.alloc (.cells (ivz (List.replicate (ps.length + 8) 0)).toArray 3)) w.heap.size (List.replicate ps.length 0 ++ List.replicate 8 0) := by
    rw [List.replicate_append_replicate]; exact heap_alloc_new w _
  have hb1 := (Below.refl w.heap.size w).alloc (Nat.le_refl _) (.cells (ivz (List.replicate (ps.length + 8) 0)).toArray 3)
  obtain ⟨w2, hcp, hR2, hb2⟩ := copy_ints13 _ w.heap.size a cap ps (List.replicate 8 0) (hA.below hb1 (Nat.le_refl _)) R1 (ps.length + 8) (ps.length + 8) (by simp)
  have B2 : Below w.heap.size w w2 := hb1.trans (hb2.below (Nat.le_refl _) (by rw [size_alloc]; omega))
  have HR2 : Hid (RowZ w2 w.heap.size (ps ++ b77 0)) := hR2
  have HB2 := hid B2
  clear hR2 B2 R1 hb2 hb1 hA
  generalize w.alloc (.cells (ivz (List.replicate (ps.length + 8) 0)).toArray 3) = w1 at *
  obtain ⟨n, hpn⟩ : ∃ n, ps.length = n := ⟨_, rfl⟩
  rw [hpn] at hmk hcp hn ⊢
  go_enter Tryz.func28, Tryz.ntmps28
  go_wp2
  clear hcp hmk
  go_loopw [4] (fun i w' => ∃ j : Nat, j ≤ 8 ∧ i = .int .i64 ((n : Int) + (j : Int)) ∧ Hid (RowZ w' w.heap.size (ps ++ b77 j)) ∧ Hid (Below w.heap.size w w')) (fun i _ => n + 8 - (intOf i).toNat)
  case atStart => exact ⟨0, by omega, by simp, HR2, HB2⟩
  case round =>
    clear HR2 HB2
    obtain ⟨j, hj, rfl, hR, hB⟩ := hrel
    by_cases hlt : j < 8
    · have b0 : (n : Int) + (j : Int) < (n : Int) + 8 := by omega
      have b1 : (0 : Int) ≤ (n : Int) + (j : Int) := by omega
      have t1 : ((n : Int) + (j : Int)).toNat = n + j := by omega
      have hl : (ps ++ b77 j).length = n + 8 := by rw [List.length_append, b77_len j (by omega), hpn]
      have cp := hR.out.cell (List.getElem?_eq_getElem (show n + j < (ps ++ b77 j).length by omega))
      have fz := hR.out.free (n + j)
      have R' := hR.out.set (n + j) 77
      rw [← hpn, b77_set ps hlt, hpn] at R'
      have B' := hid (hB.out.setCell (p := ⟨w.heap.size, n + j, none⟩) (Nat.le_refl _) (.int .i64 77))
      have R'' := hid R'
      clear R' hR hB
      go_wp2
      exact ⟨⟨j + 1, by omega, by rw [show (n : Int) + (j : Int) + 1 = (n : Int) + ((j + 1 : Nat) : Int) from by omega], R'', B'⟩, by simp [intOf]; omega⟩
    · obtain rfl : j = 8 := by omega
      have b0 : ¬ (n : Int) + ((8 : Nat) : Int) < (n : Int) + 8 := by omega
      go_wp2
      go_ret
      exact ⟨rfl, hR.out, hB.out⟩
set_option maxRecDepth 100000 in
set_option maxHeartbeats 2000000 in
theorem keptInts13_any (ps : List Int) (H : Nat) (c : Nat) (a : Option Addr) (cap : Nat) (w : World) (hn : ps.length ≤ 17592186044400) (hR : RowZ w H (ps ++ List.replicate 8 77)) (hA : AtI w a ps) :
    Calls Tryz.prog 30 #[.slice (some ⟨H, 0, none⟩) (ps.length + 8) c, .slice a ps.length cap] w fun e w' => e = .returned (.bool true) ∧ Below w.heap.size w w' ∧ w'.heap = w.heap := by
  have HR := hid hR
  have HA := hid hA
  obtain ⟨n, hpn⟩ : ∃ n, ps.length = n := ⟨_, rfl⟩
  have HN := hid hpn
  rw [hpn] at hn ⊢
  clear hR hA hpn
  obtain ⟨N, hN⟩ : ∃ N, n + 8 = N := ⟨_, rfl⟩
  rw [hN]
  go_enter Tryz.func30, Tryz.ntmps30
  go_wp2
  go_loopw [5] (fun i w' => ∃ j : Nat, j ≤ N ∧ i = .int .i64 (j : Int) ∧ Hid (Below w.heap.size w w' ∧ w'.heap = w.heap)) (fun i _ => N - (intOf i).toNat)
  case atStart => exact ⟨0, by omega, rfl, hid ⟨Below.refl _ _, rfl⟩⟩
  case round =>
    obtain ⟨j, hj, rfl, hB⟩ := hrel
    by_cases hjN : j < N
    · have b0 : (j : Int) < (N : Int) := by omega
      have j0 : (0 : Int) ≤ (j : Int) := by omega
      by_cases hjn : j < n
      · have b1 : (j : Int) < (n : Int) := by omega
        have b2 : ¬ (n : Int) ≤ (j : Int) := by omega
        have b3 : ¬ n ≤ j := by omega
        obtain ⟨z, hz⟩ : ∃ z, ps[j]? = some z := ⟨_, List.getElem?_eq_getElem (by rw [HN.out]; exact hjn)⟩
        have c0 := HR.out.cell (j := j) (p := z) (by rw [List.getElem?_append_left (by rw [HN.out]; exact hjn)]; exact hz)
        obtain ⟨x, rfl, xb, c1⟩ := HA.out j z hz
        rw [← hB.out.1.cell (p := ⟨H, j, none⟩) HR.out.lt] at c0
        rw [← hB.out.1.cell (p := x.add j) (by rw [addr_block]; exact xb)] at c1
        have y1 : (z == z) = true := by simp
        have y2 : (z != z) = false := by simp
        have y3 : decide (z = z) = true := by simp
        clear hz xb
        go_wp2
        go_quiet (fail)
        go_wp2
        exact ⟨⟨j + 1, by omega, by go_num, hid ⟨below_drewN8g hB.out.1 _, hB.out.2⟩⟩, by simp [intOf]; omega⟩
      · have b1 : ¬ (j : Int) < (n : Int) := by omega
        have b2 : (n : Int) ≤ (j : Int) := by omega
        have c0 := HR.out.cell (j := j) (p := 77) (by rw [List.getElem?_append_right (by rw [HN.out]; omega), List.getElem?_replicate, if_pos (by rw [HN.out]; omega)])
        rw [← hB.out.1.cell (p := ⟨H, j, none⟩) HR.out.lt] at c0
        go_wp2
        go_quiet (fail)
        go_wp2
        exact ⟨⟨j + 1, by omega, by go_num, hid ⟨below_drewN8g hB.out.1 _, hB.out.2⟩⟩, by simp [intOf]; omega⟩
    · have b0 : ¬ (j : Int) < (N : Int) := by omega
      go_wp2
      go_ret
      exact ⟨rfl, hB.out.1, hB.out.2⟩
theorem row_pre {w : World} {H : Nat} {L M : List Int} (h : RowZ w H (L ++ M)) : AtI w (some ⟨H, 0, none⟩) L := fun j p hp => h.at j p (by rw [List.getElem?_append_left (List.getElem?_eq_some_iff.1 hp).1]; exact hp)
def inc8 (x : Int) : Int := IntKind.i64.wrap (x + 1)
theorem take_inc (ps : List Int) {j : Nat} (hj : j < ps.length) : (ps.take (j + 1)).map inc8 = (ps.take j).map inc8 ++ [inc8 ps[j]] := by
  rw [List.take_succ_eq_append_getElem hj, List.map_append]; rfl
theorem append_zC (w : World) (v : Value) (l : List Int) (x : Int) (h : OwnM 1 w v l.length (ivz l)) (hl : l.length ≤ 17592186044414) :
    ∃ v' w', (Builtin.append_ #[23, 23] 23 #[v, .slice (some ⟨w.heap.size, 0, none⟩) 1 1]).run Tryz.prog (w.alloc (.cells #[.int .i64 x] 3)) = .ok v' w' ∧ OwnM 1 w' v' (l ++ [x]).length (ivz (l ++ [x])) ∧ Grow w w' v v' := by
  have h' := append_oneL 23 3 (.int .i64 0) 8 Tryz.underlying23 infoZ rfl w v l.length (ivz l) [.int .i64 x] rfl (fun u hu => by
    simp only [List.mem_cons, List.not_mem_nil, or_false] at hu
    subst hu; rfl) h (by omega) (by rw [maxLen]; omega)
  obtain ⟨v', w', a1, a2, a3⟩ := h'
  refine ⟨v', w', a1, ?_, a3⟩
  rw [show ivz (l ++ [x]) = ivz l ++ [.int .i64 x] by simp [ivz], List.length_append]
  exact a2
theorem own_atZ {w : World} {v : Value} {l : List Int} (h : OwnM 1 w v l.length (ivz l)) : ∃ a c, v = .slice a l.length c ∧ AtI w a l := by
  obtain ⟨a, c, e, _, _⟩ := h.shape
  refine ⟨a, c, e, fun j p hp => ?_⟩
  obtain ⟨g, c', e1, h1, h2⟩ := h.cell (j := j) (u := .int .i64 p) (by simp [ivz, hp])
  rw [e] at e1
  injection e1 with e1
  exact ⟨⟨g, 0, none⟩, e1, h2, by rw [Addr.add_mid, Nat.zero_add]; exact h1⟩
theorem copy_over13 (w : World) (H : Nat) (a : Option Addr) (cap' : Nat) (old ps rest : List Int) (ho : old.length = ps.length) (hs : AtI w a ps) (hR : RowZ w H (old ++ rest)) (cap : Nat) :
    ∃ w', (Builtin.copy_ #[23, 23] 3 #[.slice (some ⟨H, 0, none⟩) ps.length cap, .slice a ps.length cap']).run Tryz.prog w = .ok (goInt ps.length) w' ∧ RowZ w' H (ps ++ rest) ∧ But H w w' := by
  by_cases h0 : ps.length = 0
  · obtain rfl : ps = [] := List.length_eq_zero_iff.1 h0
    obtain rfl : old = [] := List.length_eq_zero_iff.1 (by omega)
    exact ⟨w, run_copy_none (P := Tryz.prog) w _ _ _ 3 _ _ _ _ _ _ Tryz.underlying23 infoZ1 (by simp), by simpa using hR, But.refl _ _⟩
  · obtain ⟨x, rfl, hx, _⟩ := hs 0 _ (List.getElem?_eq_getElem (by omega))
    have h := run_copy_row (P := Tryz.prog) w 23 23 3 3 H 0 ps.length cap x ps.length cap' _ 3 (ivz ps) Tryz.underlying23 infoZ1 hR
      (by rw [ivz_len]; exact (Nat.min_self _).symm) (fun j u hu => by
        simp only [ivz, List.getElem?_map, Option.map_eq_some_iff] at hu
        obtain ⟨p, hp, rfl⟩ := hu
        obtain ⟨y, hy, _, hc⟩ := hs j p hp
        cases hy
        exact hc) (by simp [ivz]; omega) (fun u hu => ivz_one hu)
    refine ⟨_, h.trans (by rw [ivz_len]), ?_, (But.refl _ _).setRow _⟩
    unfold RowZ
    rw [setRow_heap _ _ _ _ _ _ hR]
    refine congrArg (fun A => some (Obj.cells A 3 (0, 0))) ?_
    simp [ivz, ho]
structure Nx (w w' : World) (v : Value) (l : List Int) : Prop where
  own : OwnM 1 w' v l.length (ivz l)
  ge : ∀ k, v.ownBlock = some k → w.heap.size ≤ k
  bel : Below w.heap.size w w'
theorem Nx.push {w w' w2 : World} {v v' : Value} {l : List Int} {x : Int} (h : Nx w w' v l) (ho : OwnM 1 w2 v' (l ++ [x]).length (ivz (l ++ [x]))) (g : Grow w' w2 v v') : Nx w w2 v' (l ++ [x]) :=
  ⟨ho, fun k hk => by
    have := h.bel.size
    rcases Grow.alt' g k hk with e | e
    · exact h.ge k e
    · omega, h.bel.trans (keep_belowC g.keep h.bel.size h.ge)⟩
set_option maxRecDepth 100000 in
set_option maxHeartbeats 2000000 in
theorem next13_any (ps : List Int) (n : Nat) (hn : Hid (ps.length = n)) (a : Option Addr) (cap : Nat) (w : World) (ln : n ≤ 17592186044400) (hA : AtI w a ps) :
    Calls Tryz.prog 27 #[.slice a n cap] w fun r w' => ∃ v, r = .returned v ∧ Nx w w' v (ps.map inc8) := by
  have HA := hid hA
  clear hA
  go_enter Tryz.func27, Tryz.ntmps27
  go_wp2
  go_loopw [3, 4] (fun v i w' => ∃ J : Nat, J ≤ n ∧ i = .int .i64 (J : Int) ∧ Hid (Nx w w' v ((ps.take J).map inc8))) (fun _ i _ => n - (intOf i).toNat)
  case atStart => exact ⟨0, by omega, rfl, ⟨OwnM.nil 1 _, (fun k hk => by cases hk), Below.refl _ _⟩⟩
  case round =>
    obtain ⟨J, hJ, rfl, hL⟩ := hrel
    by_cases hJn : J < n
    · have c1 : (J : Int) < (n : Int) := by omega
      have j0 : (0 : Int) ≤ (J : Int) := by omega
      have hJp : J < ps.length := by rw [hn.out]; exact hJn
      obtain ⟨x, rfl, _, hx⟩ := (HA.out.below hL.out.bel (Nat.le_refl _)) J ps[J] (List.getElem?_eq_getElem hJp)
      obtain ⟨v', w3, hap, Oq3, Gq3⟩ := append_zC wr u3 ((ps.take J).map inc8) (inc8 ps[J]) hL.out.own (by simp; omega)
      have M3 := hL.out.push Oq3 Gq3
      rw [← take_inc ps hJp] at M3
      have M4 := hid M3
      generalize ps[J] = z at *
      have hz : IntKind.i64.wrap (z + 1) = inc8 z := rfl
      have hz2 : wrap64 (z + 1) = inc8 z := by unfold wrap64 inc8; rw [IntKind.wrap_i64]
      generalize inc8 z = y at *
      clear Oq3 Gq3 M3 hL
      go_wp2_with (at_builtin; go_must (refine Lib.wpList_append_run _ rfl _ _ 23 23 rfl _ _ rfl rfl _ _ hap ?_))
      exact ⟨⟨J + 1, by omega, by go_num, M4⟩, by simp [intOf]; omega⟩
    · obtain rfl : J = n := by omega
      have c1 : ¬ (J : Int) < (J : Int) := by omega
      have hL2 := hL.out
      rw [List.take_of_length_le (by rw [hn.out]; exact Nat.le_refl _)] at hL2
      have HL := hid hL2
      clear hL hL2
      go_wp2
      go_ret
      exact ⟨_, rfl, HL.out⟩
end Gb
end Chn
end Go.Proofs.YtjcapdkibbjmiaaGreatDoor

/- Layer 13, the law: the book's proves -/
namespace Go.Proofs.YtjcapdkibbjmiaaGreatDoor
open Go.RowKit Go.Shelf
namespace Chn
namespace Gb
def TOK (W : List Value) : Prop := W.length ≤ 1099511627776 ∧ ∃ L : List (List UInt8), W = svs L
def IOK (W : List Value) : Prop := W.length ≤ 1099511627776 ∧ ∃ L : List Int, W = L.map fun x => .int .i64 x
structure Bw (B0 X : Nat) (m : World) (ρ : Nat → Nat) (w : World) (vh vw vi vj : Value) (hT wT hI wI : List Value) (WT WI : List (List Value)) (q q' h : Nat) (L : List (List UInt8)) (F F' : Nat → Prop) : Prop where
  d : Bd B0 X m ρ w vh vw vi vj hT wT hI wI WT WI
  t : TrL w q h L F
  r : RtL w q' h L F'
  f : ∀ k, F k → ρ k = 4000
  g : ∀ k, F' k → ρ k = 4000
  off : ∀ k, F k → ¬ F' k
  tx : ∀ W ∈ WT, TOK W
  ti : ∀ W ∈ WI, IOK W
section
variable {B0 X : Nat} {m w w' : World} {ρ ρ' : Nat → Nat} {vh vw vi vj vh' vw' vi' vj' : Value} {hT wT hI wI hT' wT' hI' wI' : List Value} {WT WI WT' WI' : List (List Value)} {q q' h : Nat} {L : List (List UInt8)} {F F' : Nat → Prop}
theorem Bw.below (b : Bw B0 X m ρ w vh vw vi vj hT wT hI wI WT WI q q' h L F F') (hb : Below w.heap.size w w') (ρ' : Nat → Nat) (hρ : ∀ k, k < w.heap.size → ρ' k = ρ k) : Bw B0 X m ρ' w' vh vw vi vj hT wT hI wI WT WI q q' h L F F' :=
  ⟨b.d.below hb ρ' hρ, b.t.below hb, b.r.below hb, fun k hk => by rw [hρ k (b.t.lt k hk)]; exact b.f k hk, fun k hk => by rw [hρ k (b.r.lt k hk)]; exact b.g k hk, b.off, b.tx, b.ti⟩
def Kr (r : Nat) : Prop := r = 0 ∨ (3 ≤ r ∧ r < 1000) ∨ 3000 ≤ r
theorem Stays.keep (s : Stays w w' ρ ρ') (h1 : w'.os = w.os) (h2 : w'.tape = w.tape) (h3 : w'.output = w.output) : Keep (fun k => ¬ Kr (ρ k)) w w' :=
  ⟨h1, h2, h3, s.2.1, fun k hk hn => s.2.2 k hk (Classical.not_not.1 hn)⟩
theorem Stays.own (s : Stays w w' ρ ρ') {x : Value} {n R : Nat} {c : List Value} (o : OwnM 1 w x n c) (hr : ∀ k, x.ownBlock = some k → ρ k = R) (hR : Kr R) : OwnM 1 w' x n c ∧ ∀ k, x.ownBlock = some k → ρ' k = R :=
  ⟨o.kept s.2.1 fun k hk => s.2.2 k (o.lt k hk) (by rw [hr k hk]; exact hR), fun k hk => by rw [s.1 k (o.lt k hk)]; exact hr k hk⟩
theorem Stays.ch (s : Stays w w' ρ ρ') {g : Nat} {a b : Value} (h : ChI w g a b) (hr : ρ g = 0) : ChI w' g a b ∧ ρ' g = 0 :=
  ⟨(s.2.2 g (lt_of_heap h) (.inl hr)).trans h, by rw [s.1 g (lt_of_heap h)]; exact hr⟩
theorem Bw.stay (b : Bw B0 X m ρ w vh vw vi vj hT wT hI wI WT WI q q' h L F F') (d : Bd B0 X m ρ' w' vh' vw' vi' vj' hT' wT' hI' wI' WT' WI') (s : Stays w w' ρ ρ') (tx : ∀ W ∈ WT', TOK W) (ti : ∀ W ∈ WI', IOK W) : Bw B0 X m ρ' w' vh' vw' vi' vj' hT' wT' hI' wI' WT' WI' q q' h L F F' := by
  have k := s.keep (d.bel.os.trans b.d.bel.os.symm) (d.bel.tape.trans b.d.bel.tape.symm) (d.bel.output.trans b.d.bel.output.symm)
  have kf : ∀ k, F k → ¬ ¬ Kr (ρ k) := fun k hk e => e (by rw [b.f k hk]; exact .inr (.inr (by omega)))
  have kg : ∀ k, F' k → ¬ ¬ Kr (ρ k) := fun k hk e => e (by rw [b.g k hk]; exact .inr (.inr (by omega)))
  exact ⟨d, b.t.keep k kf, b.r.keep k kg, fun k hk => by rw [s.1 k (b.t.lt k hk)]; exact b.f k hk, fun k hk => by rw [s.1 k (b.r.lt k hk)]; exact b.g k hk, b.off, tx, ti⟩
theorem Bd.wr (b : Bd B0 X m ρ w vh vw vi vj hT wT hI wI WT WI) (h1 : w'.os = w.os) (h2 : w'.tape = w.tape) (h3 : w'.output = w.output) (hs : w.heap.size ≤ w'.heap.size) (hb : ∀ k, k < w.heap.size → ρ k ≠ 4000 → w'.heap[k]? = w.heap[k]?) (hρ : ∀ k, k < w.heap.size → ρ' k = ρ k) : Bd B0 X m ρ' w' vh vw vi vj hT wT hI wI WT WI where
  bel := ⟨h1.trans b.bel.os, h2.trans b.bel.tape, h3.trans b.bel.output, Nat.le_trans b.bel.size hs, fun k hk => (hb k (by have := b.bel.size; have := b.lB; omega) (by rw [b.low k hk]; omega)).trans (b.bel.block k hk)⟩
  lB := b.lB
  low := fun k hk => by rw [hρ k (by have := b.bel.size; have := b.lB; omega)]; exact b.low k hk
  row := (hb X (lt_of_heap b.row) (by rw [b.rX]; omega)).trans b.row
  rX := by rw [hρ X (lt_of_heap b.row)]; exact b.rX
  t := b.t.kept hs hρ fun k hk hr => hb k hk (by rcases hr with e | e | e | ⟨j, hj, e⟩ <;> omega)
  i := b.i.kept hs hρ fun k hk hr => hb k hk (by rcases hr with e | e | e | ⟨j, hj, e⟩ <;> omega)
end
def nr (ρ : Nat → Nat) (w : World) (vt vi : Value) (rt ri : Nat) : Nat → Nat := fun k => if k < w.heap.size then ρ k else if vt.ownBlock = some k then rt else if vi.ownBlock = some k then ri else 0
theorem nr_old {ρ : Nat → Nat} {w : World} {vt vi : Value} {rt ri k : Nat} (h : k < w.heap.size) : nr ρ w vt vi rt ri k = ρ k := if_pos h
theorem nr_t {ρ : Nat → Nat} {w : World} {vt vi : Value} {rt ri k : Nat} (h : w.heap.size ≤ k) (e : vt.ownBlock = some k) : nr ρ w vt vi rt ri k = rt := by
  unfold nr; rw [if_neg (by omega), if_pos e]
theorem nr_i {ρ : Nat → Nat} {w : World} {vt vi : Value} {rt ri k : Nat} (h : w.heap.size ≤ k) (e : vi.ownBlock = some k) (n : vt.ownBlock ≠ some k) : nr ρ w vt vi rt ri k = ri := by
  unfold nr; rw [if_neg (by omega), if_neg n, if_pos e]
theorem nr_z {ρ : Nat → Nat} {w : World} {vt vi : Value} {rt ri k : Nat} (h : w.heap.size ≤ k) (n : vt.ownBlock ≠ some k) (n2 : vi.ownBlock ≠ some k) : nr ρ w vt vi rt ri k = 0 := by
  unfold nr; rw [if_neg (by omega), if_neg n, if_neg n2]
structure Tol (w : World) (ρ : Nat → Nat) (g : Nat) (vi vt : Value) (I : List Int) (H : List (List UInt8)) (ri rt : Nat) : Prop where
  bx : ChI w g vi vt
  rb : ρ g = 0
  oi : OwnM 1 w vi I.length (I.map fun x => .int .i64 x)
  hi : ∀ k, vi.ownBlock = some k → ρ k = ri
  ot : OwnM 1 w vt H.length (svs H)
  ht : ∀ k, vt.ownBlock = some k → ρ k = rt
theorem Tol.below {w w' : World} {ρ ρ' : Nat → Nat} {g : Nat} {vi vt : Value} {I : List Int} {H : List (List UInt8)} {ri rt : Nat} (t : Tol w ρ g vi vt I H ri rt) (hb : Below w.heap.size w w') (hρ : ∀ k, k < w.heap.size → ρ' k = ρ k) : Tol w' ρ' g vi vt I H ri rt :=
  ⟨(hb.block g (lt_of_heap t.bx)).trans t.bx, by rw [hρ g (lt_of_heap t.bx)]; exact t.rb, t.oi.below hb, fun k hk => by rw [hρ k (t.oi.lt k hk)]; exact t.hi k hk, t.ot.below hb, fun k hk => by rw [hρ k (t.ot.lt k hk)]; exact t.ht k hk⟩
theorem Tol.stay {w w' : World} {ρ ρ' : Nat → Nat} {g : Nat} {vi vt : Value} {I : List Int} {H : List (List UInt8)} {ri rt : Nat} (t : Tol w ρ g vi vt I H ri rt) (s : Stays w w' ρ ρ') (h1 : Kr ri) (h2 : Kr rt) : Tol w' ρ' g vi vt I H ri rt :=
  ⟨(s.ch t.bx t.rb).1, (s.ch t.bx t.rb).2, (s.own t.oi t.hi h1).1, (s.own t.oi t.hi h1).2, (s.own t.ot t.ht h2).1, (s.own t.ot t.ht h2).2⟩
theorem Tol.wr {w w' : World} {ρ ρ' : Nat → Nat} {g : Nat} {vi vt : Value} {I : List Int} {H : List (List UInt8)} {ri rt : Nat} (t : Tol w ρ g vi vt I H ri rt) (hs : w.heap.size ≤ w'.heap.size) (hb : ∀ k, k < w.heap.size → ρ k ≠ 4000 → w'.heap[k]? = w.heap[k]?) (hρ : ∀ k, k < w.heap.size → ρ' k = ρ k) (h1 : ri ≠ 4000) (h2 : rt ≠ 4000) : Tol w' ρ' g vi vt I H ri rt :=
  ⟨(hb g (lt_of_heap t.bx) (by rw [t.rb]; omega)).trans t.bx, by rw [hρ g (lt_of_heap t.bx)]; exact t.rb, t.oi.kept hs fun k hk => hb k (t.oi.lt k hk) (by rw [t.hi k hk]; exact h1), fun k hk => by rw [hρ k (t.oi.lt k hk)]; exact t.hi k hk, t.ot.kept hs fun k hk => hb k (t.ot.lt k hk) (by rw [t.ht k hk]; exact h2), fun k hk => by rw [hρ k (t.ot.lt k hk)]; exact t.ht k hk⟩
theorem tol_of {w w1 : World} {ρ : Nat → Nat} {ai ah : Option Addr} {ci chp : Nat} {I : List Int} {H : List (List UInt8)} {ri rt : Nat} (o1 : OwnM 1 w1 (.slice ai I.length ci) I.length (I.map fun x => .int .i64 x)) (o2 : OwnM 1 w1 (.slice ah H.length chp) H.length (svs H)) (h1 : ∀ k, (Value.slice ai I.length ci).ownBlock = some k → w.heap.size ≤ k ∧ (Value.slice ah H.length chp).ownBlock ≠ some k) (h2 : ∀ k, (Value.slice ah H.length chp).ownBlock = some k → w.heap.size ≤ k) (hb : Below w.heap.size w w1) :
    Tol (w1.alloc (.cells #[.slice ai I.length ci, .slice ah H.length chp] 45)) (nr ρ w (.slice ah H.length chp) (.slice ai I.length ci) rt ri) w1.heap.size (.slice ai I.length ci) (.slice ah H.length chp) I H ri rt := by
  have ba := (Below.refl w1.heap.size w1).alloc (Nat.le_refl _) (.cells #[.slice ai I.length ci, .slice ah H.length chp] 45)
  exact ⟨ChI.new w1 _ _, nr_z hb.size (fun e => by have := o2.lt _ e; omega) (fun e => by have := o1.lt _ e; omega), o1.below ba, fun k hk => nr_i (h1 k hk).1 hk (h1 k hk).2, o2.below ba, fun k hk => nr_t (h2 k hk) hk⟩
theorem tol_ofR {w w1 : World} {ρ : Nat → Nat} {ai ah : Option Addr} {ci chp : Nat} {I : List Int} {H : List (List UInt8)} (o1 : OwnM 1 w1 (.slice ai I.length ci) I.length (I.map fun x => .int .i64 x)) (o2 : OwnM 1 w1 (.slice ah H.length chp) H.length (svs H)) (h1 : ∀ k, (Value.slice ai I.length ci).ownBlock = some k → w.heap.size ≤ k) (h2 : ∀ k, (Value.slice ah H.length chp).ownBlock = some k → w.heap.size ≤ k) (hb : Below w.heap.size w w1) :
    Tol (w1.alloc (.cells #[.slice ai I.length ci, .slice ah H.length chp] 45)) (rx ρ w 0) w1.heap.size (.slice ai I.length ci) (.slice ah H.length chp) I H 0 0 := by
  have ba := (Below.refl w1.heap.size w1).alloc (Nat.le_refl _) (.cells #[.slice ai I.length ci, .slice ah H.length chp] 45)
  exact ⟨ChI.new w1 _ _, rx_new hb.size, o1.below ba, fun k hk => rx_new (h1 k hk), o2.below ba, fun k hk => rx_new (h2 k hk)⟩
end Gb
end Chn
end Go.Proofs.YtjcapdkibbjmiaaGreatDoor
