import Derived.Test.YtejdecfpegpgcaaDoorCSQ2
import Derived.Test.YtejdecfpegpgcaaDoorCSL5
import Derived.Test.YtejdecfpegpgcaaDoorCSK4
namespace Go.Proofs.YtejdecfpegpgcaaDoor
open Go.RowKit Go.Shelf
def ivz (l : List Int) : List Value := l.map fun x => .int .i64 x
theorem ivz_len (l : List Int) : (ivz l).length = l.length := by simp [ivz]
theorem ivz_one {L : List Int} {v : Value} (h : v ∈ ivz L) : v.oneCell' = true := by
  simp only [ivz, List.mem_map] at h
  obtain ⟨n, _, rfl⟩ := h
  rfl
theorem infoZ : (Tryd.prog.info? 3).map (fun i => (i.zero, i.size, i.bytes)) = some (some (.int .i64 0), 1, 8) := by kernel_rfl
theorem infoZ1 : (Tryd.prog.info? 3).map (·.size) = some 1 := by kernel_rfl
/-- a row of numbers -/
def RowZ (w : World) (H : Nat) (L : List Int) : Prop := w.heap[H]? = some (.cells (ivz L).toArray 3 (0, 0))
theorem RowZ.lt {w : World} {H : Nat} {L : List Int} (h : RowZ w H L) : H < w.heap.size := lt_of_heap h
theorem RowZ.cell {w : World} {H : Nat} {L : List Int} (h : RowZ w H L) {j : Nat} {p : Int} (hp : L[j]? = some p) : w.cell? ⟨H, j, none⟩ = some (.int .i64 p) := by
  rw [cell_of_row _ _ _ _ _ _ h]; simp [ivz, hp]
theorem RowZ.at {w : World} {H : Nat} {L : List Int} (h : RowZ w H L) : AtI w (some ⟨H, 0, none⟩) L := fun j p hp => ⟨_, rfl, h.lt, by rw [Addr.add_mid, Nat.zero_add]; exact h.cell hp⟩
theorem RowZ.free {w : World} {H : Nat} {L : List Int} (h : RowZ w H L) (j : Nat) : w.frozen? ⟨H, j, none⟩ = false := frozen_of_row _ _ _ _ _ h
theorem RowZ.below {w w' : World} {H B : Nat} {L : List Int} (h : RowZ w H L) (hb : Below B w w') (hB : H < B) : RowZ w' H L := (hb.block H hB).trans h
theorem RowZ.set {w : World} {H : Nat} {L : List Int} (h : RowZ w H L) (k : Nat) (x : Int) : RowZ (w.setCell ⟨H, k, none⟩ (.int .i64 x)) H (L.set k x) := by
  have e := setCell_eq_setRow w H k (ivz L).toArray 3 (0, 0) (.int .i64 x) h
  unfold RowZ
  rw [e, setRow_heap _ _ _ _ _ _ h]
  refine congrArg (fun A => some (Obj.cells A 3 (0, 0))) ?_
  simp [ivz, List.map_set]
theorem make_ints8 (w : World) (c : Nat) (hc : c ≤ 17592186044416) :
    (Instr.makeSlice 41 (.int .i64 (c : Int)) (.int .i64 (c : Int))).run Tryd.prog w = .ok (.slice (some ⟨w.heap.size, 0, none⟩) c c) (w.alloc (.cells (ivz (List.replicate c 0)).toArray 3)) := by
  obtain ⟨i0, hi, hz0, hz1, hz2⟩ := info_parts infoZ
  have h := run_make (P := Tryd.prog) w 41 3 i0 (.int .i64 0) Tryd.underlying41 hi hz0 .i64 .i64 (c : Int) (c : Int) (by omega) (by omega) (by rw [hz2]; omega) (by omega)
  rw [Int.toNat_natCast, hz1, Nat.mul_one] at h
  have e : madeCells (Value.int .i64 0).cells c = (ivz (List.replicate c 0)).toArray := by
    apply Array.ext'
    rw [show (madeCells (Value.int .i64 0).cells c).toList = List.replicate c (.int .i64 0) from toList_madeCells_one _ _]
    simp [ivz]
  rw [e] at h
  exact h
theorem copy_ints8 (w : World) (H : Nat) (a : Option Addr) (cap' : Nat) (ps rest : List Int) (hs : AtI w a ps) (hR : RowZ w H (List.replicate ps.length 0 ++ rest)) (m cap : Nat) (hm : m = ps.length + rest.length) :
    ∃ w', (Builtin.copy_ #[41, 41] 3 #[.slice (some ⟨H, 0, none⟩) m cap, .slice a ps.length cap']).run Tryd.prog w = .ok (goInt ps.length) w' ∧ RowZ w' H (ps ++ rest) ∧ But H w w' := by
  by_cases h0 : ps.length = 0
  · obtain rfl : ps = [] := List.length_eq_zero_iff.1 h0
    exact ⟨w, run_copy_none (P := Tryd.prog) w _ _ _ 3 _ _ _ _ _ _ Tryd.underlying41 infoZ1 (by simp), by simpa using hR, But.refl _ _⟩
  · obtain ⟨x, rfl, hx, _⟩ := hs 0 _ (List.getElem?_eq_getElem (by omega))
    have h := run_copy_row (P := Tryd.prog) w 41 41 3 3 H 0 m cap x ps.length cap' _ 3 (ivz ps) Tryd.underlying41 infoZ1 hR
      (by rw [ivz_len]; exact (Nat.min_eq_left (by omega)).symm) (fun j u hu => by
        simp only [ivz, List.getElem?_map, Option.map_eq_some_iff] at hu
        obtain ⟨p, hp, rfl⟩ := hu
        obtain ⟨y, hy, _, hc⟩ := hs j p hp
        cases hy
        exact hc) (by simp [ivz]) (fun u hu => ivz_one hu)
    refine ⟨_, h.trans (by rw [ivz_len]), ?_, (But.refl _ _).setRow _⟩
    unfold RowZ
    rw [setRow_heap _ _ _ _ _ _ hR]
    refine congrArg (fun A => some (Obj.cells A 3 (0, 0))) ?_
    simp [ivz]
def b77 (j : Nat) : List Int := List.replicate j 77 ++ List.replicate (8 - j) 0
theorem b77_set (ps : List Int) {j : Nat} (hj : j < 8) : (ps ++ b77 j).set (ps.length + j) 77 = ps ++ b77 (j + 1) := by
  rw [List.set_append_right _ _ (by omega), Nat.add_sub_cancel_left, b77, b77, show 8 - j = (8 - (j + 1)) + 1 by omega, List.replicate_succ, List.set_append_right _ _ (by simp), List.length_replicate, Nat.sub_self, List.replicate_succ', List.append_assoc]
  rfl
theorem b77_len (j : Nat) (hj : j ≤ 8) : (b77 j).length = 8 := by simp [b77]; omega
set_option maxRecDepth 100000 in
set_option maxHeartbeats 2000000 in
theorem lentInts8_any (ps : List Int) (a : Option Addr) (cap : Nat) (w : World) (hn : ps.length ≤ 17592186044400) (hA : AtI w a ps) :
    Calls Tryd.prog 59 #[.slice a ps.length cap] w fun e w' => e = .returned (.slice (some ⟨w.heap.size, 0, none⟩) (ps.length + 8) (ps.length + 8)) ∧ RowZ w' w.heap.size (ps ++ List.replicate 8 77) ∧ Below w.heap.size w w' := by
  have hmk := make_ints8 w (ps.length + 8) (by omega)
  have e8 : ((ps.length + 8 : Nat) : Int) = (ps.length : Int) + 8 := by omega
  rw [e8] at hmk
  have R1 : RowZ (w.alloc (.cells (ivz (List.replicate (ps.length + 8) 0)).toArray 3)) w.heap.size (List.replicate ps.length 0 ++ List.replicate 8 0) := by
    rw [List.replicate_append_replicate]; exact heap_alloc_new w _
  have hb1 := (Below.refl w.heap.size w).alloc (Nat.le_refl _) (.cells (ivz (List.replicate (ps.length + 8) 0)).toArray 3)
  obtain ⟨w2, hcp, hR2, hb2⟩ := copy_ints8 _ w.heap.size a cap ps (List.replicate 8 0) (hA.below hb1 (Nat.le_refl _)) R1 (ps.length + 8) (ps.length + 8) (by simp)
  have B2 : Below w.heap.size w w2 := hb1.trans (hb2.below (Nat.le_refl _) (by rw [size_alloc]; omega))
  have HR2 : Hid (RowZ w2 w.heap.size (ps ++ b77 0)) := hR2
  have HB2 := hid B2
  clear hR2 B2 R1 hb2 hb1 hA
  generalize w.alloc (.cells (ivz (List.replicate (ps.length + 8) 0)).toArray 3) = w1 at *
  obtain ⟨n, hpn⟩ : ∃ n, ps.length = n := ⟨_, rfl⟩
  rw [hpn] at hmk hcp hn ⊢
  go_enter Tryd.func59, Tryd.ntmps59
  go_wp2
  clear hcp hmk
  go_loopw [4] (fun i w' => ∃ j : Nat, j ≤ 8 ∧ i = .int .i64 ((n : Int) + (j : Int)) ∧ Hid (RowZ w' w.heap.size (ps ++ b77 j)) ∧ Hid (Below w.heap.size w w')) (fun i _ => n + 8 - (intOf i).toNat)
  case atStart => exact ⟨0, by omega, by simp, HR2, HB2⟩
  case round =>
    clear HR2 HB2
    obtain ⟨j, hj, rfl, hR, hB⟩ := hrel
    by_cases hlt : j < 8
    · have b0 : (n : Int) + (j : Int) < (n : Int) + 8 := by omega
      have b1 : (0 : Int) ≤ (n : Int) + (j : Int) := by omega
      have t1 : ((n : Int) + (j : Int)).toNat = n + j := by omega
      have hl : (ps ++ b77 j).length = n + 8 := by rw [List.length_append, b77_len j (by omega), hpn]
      have cp := hR.out.cell (List.getElem?_eq_getElem (show n + j < (ps ++ b77 j).length by omega))
      have fz := hR.out.free (n + j)
      have R' := hR.out.set (n + j) 77
      rw [← hpn, b77_set ps hlt, hpn] at R'
      have B' := hid (hB.out.setCell (p := ⟨w.heap.size, n + j, none⟩) (Nat.le_refl _) (.int .i64 77))
      have R'' := hid R'
      clear R' hR hB
      go_wp2
      exact ⟨⟨j + 1, by omega, by rw [show (n : Int) + (j : Int) + 1 = (n : Int) + ((j + 1 : Nat) : Int) from by omega], R'', B'⟩, by simp [intOf]; omega⟩
    · obtain rfl : j = 8 := by omega
      have b0 : ¬ (n : Int) + ((8 : Nat) : Int) < (n : Int) + 8 := by omega
      go_wp2
      go_ret
      exact ⟨rfl, hR.out, hB.out⟩
end Go.Proofs.YtejdecfpegpgcaaDoor

namespace Go.Proofs.YtejdecfpegpgcaaDoor
open Go.RowKit Go.Shelf
set_option maxRecDepth 100000 in
set_option maxHeartbeats 2000000 in
theorem keptInts8_any (ps : List Int) (H : Nat) (c : Nat) (a : Option Addr) (cap : Nat) (w : World) (hn : ps.length ≤ 17592186044400) (hR : RowZ w H (ps ++ List.replicate 8 77)) (hA : AtI w a ps) :
    Calls Tryd.prog 61 #[.slice (some ⟨H, 0, none⟩) (ps.length + 8) c, .slice a ps.length cap] w fun e w' => e = .returned (.bool true) ∧ Below w.heap.size w w' ∧ w'.heap = w.heap := by
  have HR := hid hR
  have HA := hid hA
  obtain ⟨n, hpn⟩ : ∃ n, ps.length = n := ⟨_, rfl⟩
  have HN := hid hpn
  rw [hpn] at hn ⊢
  clear hR hA hpn
  obtain ⟨N, hN⟩ : ∃ N, n + 8 = N := ⟨_, rfl⟩
  rw [hN]
  go_enter Tryd.func61, Tryd.ntmps61
  go_wp2
  go_loopw [5] (fun i w' => ∃ j : Nat, j ≤ N ∧ i = .int .i64 (j : Int) ∧ Hid (Below w.heap.size w w' ∧ w'.heap = w.heap)) (fun i _ => N - (intOf i).toNat)
  case atStart => exact ⟨0, by omega, rfl, hid ⟨Below.refl _ _, rfl⟩⟩
  case round =>
    obtain ⟨j, hj, rfl, hB⟩ := hrel
    by_cases hjN : j < N
    · have b0 : (j : Int) < (N : Int) := by omega
      have j0 : (0 : Int) ≤ (j : Int) := by omega
      by_cases hjn : j < n
      · have b1 : (j : Int) < (n : Int) := by omega
        have b2 : ¬ (n : Int) ≤ (j : Int) := by omega
        have b3 : ¬ n ≤ j := by omega
        obtain ⟨z, hz⟩ : ∃ z, ps[j]? = some z := ⟨_, List.getElem?_eq_getElem (by rw [HN.out]; exact hjn)⟩
        have c0 := HR.out.cell (j := j) (p := z) (by rw [List.getElem?_append_left (by rw [HN.out]; exact hjn)]; exact hz)
        obtain ⟨x, rfl, xb, c1⟩ := HA.out j z hz
        rw [← hB.out.1.cell (p := ⟨H, j, none⟩) HR.out.lt] at c0
        rw [← hB.out.1.cell (p := x.add j) (by rw [addr_block]; exact xb)] at c1
        have y1 : (z == z) = true := by simp
        have y2 : (z != z) = false := by simp
        have y3 : decide (z = z) = true := by simp
        clear hz xb
        go_wp2
        go_quiet (fail)
        go_wp2
        exact ⟨⟨j + 1, by omega, by go_num, hid ⟨below_drewN8 hB.out.1 _, hB.out.2⟩⟩, by simp [intOf]; omega⟩
      · have b1 : ¬ (j : Int) < (n : Int) := by omega
        have b2 : (n : Int) ≤ (j : Int) := by omega
        have c0 := HR.out.cell (j := j) (p := 77) (by rw [List.getElem?_append_right (by rw [HN.out]; omega), List.getElem?_replicate, if_pos (by rw [HN.out]; omega)])
        rw [← hB.out.1.cell (p := ⟨H, j, none⟩) HR.out.lt] at c0
        go_wp2
        go_quiet (fail)
        go_wp2
        exact ⟨⟨j + 1, by omega, by go_num, hid ⟨below_drewN8 hB.out.1 _, hB.out.2⟩⟩, by simp [intOf]; omega⟩
    · have b0 : ¬ (j : Int) < (N : Int) := by omega
      go_wp2
      go_ret
      exact ⟨rfl, hB.out.1, hB.out.2⟩
end Go.Proofs.YtejdecfpegpgcaaDoor

namespace Go.Proofs.YtejdecfpegpgcaaDoor
open Go.RowKit Go.Shelf
theorem RowZ.pre {w : World} {H : Nat} {L M : List Int} (h : RowZ w H (L ++ M)) : AtI w (some ⟨H, 0, none⟩) L := fun j p hp => h.at j p (by rw [List.getElem?_append_left (List.getElem?_eq_some_iff.1 hp).1]; exact hp)
/-- one less, as the machine reckons -/
def dec8 (x : Int) : Int := IntKind.i64.wrap (x - 1)
def decs (ps : List Int) (j : Nat) : List Int := (ps.take j).map dec8 ++ ps.drop j
theorem decs_zero (ps : List Int) : decs ps 0 = ps := by simp [decs]
theorem decs_all (ps : List Int) : decs ps ps.length = ps.map dec8 := by simp [decs]
theorem decs_len (ps : List Int) (j : Nat) : (decs ps j).length = ps.length := by simp [decs]; omega
theorem decs_at (ps : List Int) {j : Nat} (hj : j < ps.length) : (decs ps j)[j]? = some ps[j] := by
  rw [decs, List.getElem?_append_right (by simp; omega)]
  simp [Nat.min_eq_left (Nat.le_of_lt hj), hj]
theorem decs_set (ps : List Int) {j : Nat} (hj : j < ps.length) : (decs ps j).set j (dec8 ps[j]) = decs ps (j + 1) := by
  have hl : ((ps.take j).map dec8).length = j := by simp; omega
  rw [decs, decs, List.set_append_right _ _ (by omega), hl, Nat.sub_self, List.drop_eq_getElem_cons hj, List.take_succ_eq_append_getElem hj, List.map_append, List.append_assoc]
  rfl
theorem take_dec (ps : List Int) {j : Nat} (hj : j < ps.length) : (ps.take (j + 1)).map dec8 = (ps.take j).map dec8 ++ [dec8 ps[j]] := by
  rw [List.take_succ_eq_append_getElem hj, List.map_append]; rfl
theorem append_z (w : World) (v : Value) (l : List Int) (x : Int) (h : OwnM 1 w v l.length (ivz l)) (hl : l.length ≤ 17592186044414) :
    ∃ v' w', (Builtin.append_ #[41, 41] 41 #[v, .slice (some ⟨w.heap.size, 0, none⟩) 1 1]).run Tryd.prog (w.alloc (.cells #[.int .i64 x] 3)) = .ok v' w' ∧ OwnM 1 w' v' (l.length + 1) (ivz (l ++ [x])) ∧ Grow w w' v v' := by
  have h' := append_oneL 41 3 (.int .i64 0) 8 Tryd.underlying41 infoZ rfl w v l.length (ivz l) [.int .i64 x] rfl (fun u hu => by
    simp only [List.mem_cons, List.not_mem_nil, or_false] at hu
    subst hu; rfl) h (by omega) (by rw [maxLen]; omega)
  obtain ⟨v', w', a1, a2, a3⟩ := h'
  refine ⟨v', w', a1, ?_, a3⟩
  rw [show ivz (l ++ [x]) = ivz l ++ [.int .i64 x] by simp [ivz]]
  exact a2
theorem OwnM.atZ {w : World} {v : Value} {l : List Int} (h : OwnM 1 w v l.length (ivz l)) : ∃ a c, v = .slice a l.length c ∧ AtI w a l := by
  obtain ⟨a, c, e, _, _⟩ := h.shape
  refine ⟨a, c, e, fun j p hp => ?_⟩
  obtain ⟨g, c', e1, h1, h2⟩ := h.cell (j := j) (u := .int .i64 p) (by simp [ivz, hp])
  rw [e] at e1
  injection e1 with e1
  exact ⟨⟨g, 0, none⟩, e1, h2, by rw [Addr.add_mid, Nat.zero_add]; exact h1⟩
/-- a list that was there ahead of the book's lists -/
theorem Bh.atI {B0 X : Nat} {w0 w : World} {ρ : Nat → Nat} {vh vw : Value} {hv wv : List Value} {Ws : List (List (Nat × Nat))} (h : Bh B0 X w0 ρ w vh vw hv wv Ws) {a : Option Addr} {l : List Int} (hA : AtI w0 a l) (hX : ∀ x : Addr, a = some x → l ≠ [] → x.block ≠ X) : AtI w a l := fun j p hp => by
  obtain ⟨x, e, h1, h2⟩ := hA j p hp
  have hb := h.fr x.block h1 (hX x e (by rintro rfl; cases hp))
  exact ⟨x, e, Nat.lt_of_lt_of_le h1 h.bel.size, (World.cell?_of_block (a := x.add j) (by rw [addr_block]; exact hb)).trans h2⟩
end Go.Proofs.YtejdecfpegpgcaaDoor

namespace Go.Proofs.YtejdecfpegpgcaaDoor
open Go.RowKit Go.Shelf
theorem RowZ.keepG {w w' : World} {H : Nat} {L : List Int} {v v' : Value} (h : RowZ w H L) (hg : Grow w w' v v') (hne : v.ownBlock ≠ some H) : RowZ w' H L := (hg.old H h.lt hne).trans h
/-- the lent list, each number one less, and the list of these -/
structure Lo (w5 w : World) (H : Nat) (v : Value) (ps : List Int) (j : Nat) : Prop where
  row : RowZ w H (decs ps j ++ List.replicate 8 77)
  own : OwnM 1 w v ((ps.take j).map dec8).length (ivz ((ps.take j).map dec8))
  nw : ∀ k, v.ownBlock = some k → w5.heap.size ≤ k
  bl : ∀ B, B ≤ H → B ≤ w5.heap.size → Below B w5 w
  fr : ∀ k, k < w5.heap.size → k ≠ H → w.heap[k]? = w5.heap[k]?
  sz : w5.heap.size ≤ w.heap.size
theorem Lo.set {w5 w : World} {H : Nat} {v : Value} {ps : List Int} {j : Nat} (h : Lo w5 w H v ps j) (hH : H < w5.heap.size) (hj : j < ps.length) (x : Int) (hx : x = dec8 ps[j]) : RowZ (w.setCell ⟨H, j, none⟩ (.int .i64 x)) H (decs ps (j + 1) ++ List.replicate 8 77) ∧ OwnM 1 (w.setCell ⟨H, j, none⟩ (.int .i64 x)) v ((ps.take j).map dec8).length (ivz ((ps.take j).map dec8)) ∧
    (∀ k, k < w5.heap.size → k ≠ H → (w.setCell ⟨H, j, none⟩ (.int .i64 x)).heap[k]? = w5.heap[k]?) ∧ (∀ B, B ≤ H → B ≤ w5.heap.size → Below B w5 (w.setCell ⟨H, j, none⟩ (.int .i64 x))) := by
  subst hx
  refine ⟨?_, h.own.kept (by simp [World.setCell]) (fun g hg => heap_setCell_other w ⟨H, j, none⟩ g _ (by have := h.nw g hg; show g ≠ H; omega)), fun k hk hkH => (heap_setCell_other w ⟨H, j, none⟩ k _ hkH).trans (h.fr k hk hkH), fun B hB hB5 => (h.bl B hB hB5).setCell (p := ⟨H, j, none⟩) hB _⟩
  have := h.row.set j (dec8 ps[j])
  rwa [List.set_append_left _ _ (by rw [decs_len]; exact hj), decs_set ps hj] at this
theorem Lo.grow {w5 w w' : World} {H : Nat} {v v' : Value} {ps : List Int} {j : Nat} (hH : H < w5.heap.size) (hj : j < ps.length) (row : RowZ w H (decs ps (j + 1) ++ List.replicate 8 77)) (nw : ∀ k, v.ownBlock = some k → w5.heap.size ≤ k) (fr : ∀ k, k < w5.heap.size → k ≠ H → w.heap[k]? = w5.heap[k]?) (bl : ∀ B, B ≤ H → B ≤ w5.heap.size → Below B w5 w) (sz : w5.heap.size ≤ w.heap.size)
    (hg : Grow w w' v v') (ho : OwnM 1 w' v' (((ps.take j).map dec8).length + 1) (ivz ((ps.take j).map dec8 ++ [dec8 ps[j]]))) : Lo w5 w' H v' ps (j + 1) where
  row := row.keepG hg (fun e => by have := nw H e; omega)
  own := by rw [take_dec ps hj, List.length_append]; exact ho
  nw := fun k hk => by
    rcases hg.alt with e | ⟨e, _⟩
    · exact nw k (e ▸ hk)
    · exact Nat.le_trans sz (e k hk)
  bl := fun B hB hB5 => (bl B hB hB5).trans ⟨hg.os, hg.tape, hg.output, hg.size, fun k hk => hg.old k (by omega) (fun e => by have := nw k e; omega)⟩
  fr := fun k hk hkH => (hg.old k (by omega) (fun e => by have := nw k e; omega)).trans (fr k hk hkH)
  sz := Nat.le_trans sz hg.size
end Go.Proofs.YtejdecfpegpgcaaDoor

namespace Go.Proofs.YtejdecfpegpgcaaDoor
open Go.RowKit Go.Shelf
def r6 (ρ : Nat → Nat) (s0 s1 s2 s3 s6 s7 c : Nat) : Nat → Nat := fun k => if k < s0 then ρ k else if k < s1 then 0 else if k < s2 then 3 + c else if k < s3 then 3 + (c + 1) else if k < s6 then 0 else if k < s7 then 3 + (c + 2) else 0
set_option maxRecDepth 100000 in
set_option maxHeartbeats 4000000 in
theorem batch_any {B0 X : Nat} {w0 w : World} {ρ : Nat → Nat} {vh vw : Value} {hv wv : List Value} {Ws : List (List (Nat × Nat))} (h : Bh B0 X w0 ρ w vh vw hv wv Ws) (hB : B0 ≤ w0.heap.size) (hc : Ws.length + 3 ≤ 1000) (N : Int) (ps : List Int) (a : Option Addr) (cap : Nat) (hps : ps.length ≤ 17592186044400) (hA : AtI w0 a ps) (hX : ∀ x : Addr, a = some x → ps ≠ [] → x.block ≠ X) :
    Calls Tryd.prog 29 #[.pointer (some ⟨X, 0, none⟩), .int .i64 N, .slice a ps.length cap] w fun r w' => r = .returned (.bool true) ∧ ∃ ρ' vh' vw' hv' wv', Bh B0 X w0 ρ' w' vh' vw' hv' wv' (Ws ++ [batchL N ps] ++ [batchL N ps] ++ [batchL N (ps.map dec8)]) := by
  have A0 := h.atI hA hX
  have i1 := lentInts8_any ps a cap w hps A0
  have HA := hid A0
  have HH := hid h
  obtain ⟨n, hn⟩ : ∃ n, ps.length = n := ⟨_, rfl⟩
  have HN := hid hn
  have j2 := fun w' (c : Nat) (g : Nat) (hR : AtI w' (some ⟨g, 0, none⟩) ps) => batch8_any N ps (some ⟨g, 0, none⟩) c w' (by omega) hR
  have j4 := fun w' (hR : AtI w' a ps) => rBatch8_any N ps a cap w' (by omega) hR
  have j5 := fun w' (g c : Nat) (hR : RowZ w' g (ps ++ List.replicate 8 77)) (hA : AtI w' a ps) => keptInts8_any ps g c a cap w' hps hR hA
  have j7 := fun w' (c : Nat) (g : Nat) (hR : AtI w' (some ⟨g, 0, none⟩) (ps.map dec8)) => batch8_any N (ps.map dec8) (some ⟨g, 0, none⟩) c w' (by rw [List.length_map]; omega) hR
  have j8 := fun w' (a' : Option Addr) (c : Nat) (hR : AtI w' a' (ps.map dec8)) => rBatch8_any N (ps.map dec8) a' c w' (by rw [List.length_map]; omega) hR
  simp only [List.length_map] at j7 j8
  rw [hn] at i1 j2 j4 j5 j7 j8 hps ⊢
  obtain ⟨H, hH⟩ : ∃ H, w.heap.size = H := ⟨_, rfl⟩
  rw [hH] at i1
  have b1 : (0 : Int) ≤ (n : Int) := by omega
  have b2 : (n : Int) ≤ ((n + 8 : Nat) : Int) := by omega
  clear h hA A0 hn
  go_enter Tryd.func29, Tryd.ntmps29
  go_wp2_with (go_at_call 59; refine i1.mono ?_; rintro r w1 ⟨rfl, hR1, b1'⟩; have R1 := hid hR1; have B1 := hid (show Below w.heap.size w w1 by rw [hH]; exact b1'); clear hR1 b1')
  refine (j2 w1 _ H R1.out.pre).mono ?_
  rintro r w2 ⟨b2', v1, rfl, o1, f1⟩
  have O1 := hid o1
  have F1 := hid f1
  have B2 := hid b2'
  have hHl : H < w1.heap.size := R1.out.lt
  have R2 := hid (R1.out.below b2' hHl)
  clear o1 f1 b2'
  go_wp2_with (go_at_call 21; fail)
  refine (j2 w2 _ H R2.out.pre).mono ?_
  rintro r w3 ⟨b3', v2, rfl, o2, f2⟩
  have O2 := hid o2
  have F2 := hid f2
  have B3 := hid b3'
  have R3_ := hid (R2.out.below b3' R2.out.lt)
  clear o2 f2 b3'
  have BA := hid (B1.out.trans ((B2.out.mono B1.out.size).trans (B3.out.mono (Nat.le_trans B1.out.size B2.out.size))))
  go_wp2_with (go_at_call 60; fail)
  refine (j4 w3 (HA.out.below BA.out (Nat.le_refl _))).mono ?_
  rintro r w4 ⟨b4', u1, rfl, o3, f3⟩
  have O3 := hid o3
  have F3 := hid f3
  have B4 := hid b4'
  have R4 := hid (R3_.out.below b4' R3_.out.lt)
  clear o3 f3 b4'
  have BB := hid (BA.out.trans (B4.out.mono BA.out.size))
  go_wp2_with (go_at_call 61; fail)
  refine (j5 w4 H _ R4.out (HA.out.below BB.out (Nat.le_refl _))).mono ?_
  rintro r w5 ⟨rfl, b5', e5⟩
  have B5 := hid b5'
  have R5 := hid (R4.out.below b5' R4.out.lt)
  have BC := hid (BB.out.trans (b5'.mono BB.out.size))
  have hH5 : H < w5.heap.size := R5.out.lt
  clear b5' e5 j2 j4 j5 i1
  have L0 : Hid (Lo w5 w5 H (.slice none 0 0) ps 0) := ⟨by rw [decs_zero]; exact R5.out, by rw [List.take_zero]; exact OwnM.nil 1 _, (fun k hk => by cases hk), fun B hB1 hB2 => Below.refl _ _, fun k hk hkH => rfl, Nat.le_refl _⟩
  go_wp2
  go_loopw [16, 17] (fun v i w' => ∃ J : Nat, J ≤ n ∧ i = .int .i64 (J : Int) ∧ Hid (Lo w5 w' H v ps J)) (fun _ i _ => n - (intOf i).toNat)
  case atStart => exact ⟨0, by omega, rfl, L0⟩
  case round =>
    clear L0
    obtain ⟨J, hJ, rfl, hL⟩ := hrel
    by_cases hJn : J < n
    · have c1 : (J : Int) < (n : Int) := by omega
      have j0 : (0 : Int) ≤ (J : Int) := by omega
      have hJp : J < ps.length := by rw [HN.out]; exact hJn
      obtain ⟨z, hz⟩ : ∃ z, ps[J] = z := ⟨_, rfl⟩
      have d0 := hL.out.row.cell (j := J) (p := z) (by rw [List.getElem?_append_left (by rw [decs_len]; exact hJp), decs_at ps hJp, hz])
      have f0 := hL.out.row.free J
      obtain ⟨rw1, ow1, fr1, bl1⟩ := hL.out.set hH5 hJp (dec8 z) (by rw [hz])
      have sz1 : w5.heap.size ≤ (wr.setCell ⟨H, J, none⟩ (.int .i64 (dec8 z))).heap.size := by simpa [World.setCell] using hL.out.sz
      have d1 := rw1.cell (j := J) (p := dec8 z) (by
        rw [List.getElem?_append_left (by rw [decs_len]; exact hJp), decs, List.getElem?_append_left (by simp; omega)]
        simp [hJp, hz])
      obtain ⟨v', w7, hap, ho, hg⟩ := append_z (wr.setCell ⟨H, J, none⟩ (.int .i64 (dec8 z))) u16 ((ps.take J).map dec8) (dec8 z) ow1 (by simp; omega)
      have L1 := hid (Lo.grow hH5 hJp rw1 hL.out.nw fr1 bl1 sz1 hg (by rw [hz]; exact ho))
      have hdz : IntKind.i64.wrap (z - 1) = dec8 z := rfl
      have hdz2 : wrap64 (z - 1) = dec8 z := by unfold wrap64 dec8; rw [IntKind.wrap_i64]
      have hsz : (wr.setCell ⟨H, J, none⟩ (.int .i64 (dec8 z))).heap.size = wr.heap.size := by simp [World.setCell]
      rw [hsz] at hap
      clear rw1 ow1 fr1 bl1 sz1 ho hg hL hz hsz
      generalize dec8 z = y at *
      go_wp2_with (at_builtin; go_must (refine Lib.wpList_append_run _ rfl _ _ 41 41 rfl _ _ rfl rfl _ _ hap ?_))
      exact ⟨⟨J + 1, by omega, by go_num, L1⟩, by simp [intOf]; omega⟩
    · obtain rfl : J = n := by omega
      have c1 : ¬ (J : Int) < (J : Int) := by omega
      have hL := hL.out
      have hrow := hL.row
      rw [← HN.out, decs_all] at hrow
      have hown := hL.own
      rw [List.take_of_length_le (by rw [HN.out]; exact Nat.le_refl _)] at hown
      obtain ⟨al, cl, hvl, hAl⟩ := hown.atZ
      rw [List.length_map, HN.out] at hvl
      subst hvl
      have hHw : w.heap.size ≤ H := by omega
      have bl := hL.bl w.heap.size hHw BC.out.size
      have z1 := B1.out.size
      have z2 := B2.out.size
      have z3 := B3.out.size
      have z4 := B4.out.size
      have z5 := B5.out.size
      have z6 := hL.sz
      have b45 := B4.out.trans (B5.out.mono z4)
      have b35 := B3.out.trans (b45.mono z3)
      have p1 := (O1.out.below b35).kept z6 (fun g hg => hL.fr g (by have := O1.out.lt g hg; omega) (by have := F1.out g hg; omega))
      have p2 := (O2.out.below b45).kept z6 (fun g hg => hL.fr g (by have := O2.out.lt g hg; omega) (by have := F2.out g hg; omega))
      have p3 := (O3.out.below B5.out).kept z6 (fun g hg => hL.fr g (by have := O3.out.lt g hg; omega) (by have := F3.out g hg; omega))
      have Bw := hid (BC.out.trans bl)
      have P1 := hid p1
      have P2 := hid p2
      have P3 := hid p3
      have HAl := hid hAl
      have Hrow := hid hrow
      have t1 : Hid (∀ k, v1.ownBlock = some k → w1.heap.size ≤ k ∧ k < w2.heap.size) := fun k hk => ⟨F1.out k hk, O1.out.lt k hk⟩
      have t2 : Hid (∀ k, v2.ownBlock = some k → w2.heap.size ≤ k ∧ k < w3.heap.size) := fun k hk => ⟨F2.out k hk, O2.out.lt k hk⟩
      have t3 : Hid (∀ k, u1.ownBlock = some k → w3.heap.size ≤ k ∧ k < wr.heap.size) := fun k hk => ⟨F3.out k hk, by have := O3.out.lt k hk; omega⟩
      have HZ := hid (show w.heap.size ≤ w1.heap.size ∧ w1.heap.size ≤ w2.heap.size ∧ w2.heap.size ≤ w3.heap.size ∧ w3.heap.size ≤ wr.heap.size by omega)
      clear hL hrow hown hAl bl z1 z2 z3 z4 z5 z6 b45 b35 p1 p2 p3 O1 O2 O3 F1 F2 F3 B1 B2 B3 B4 B5 BA BB BC R1 R2 R3_ R4 R5
      go_wp2_with (go_at_call 21; fail)
      refine (j7 wr _ H Hrow.out.pre).mono ?_
      rintro r w7 ⟨b7, v3, rfl, o7, f7⟩
      have O7 := hid o7
      have F7 := hid f7
      have B7 := hid b7
      have A7 := hid (HAl.out.below b7 (Nat.le_refl _))
      clear o7 f7 b7
      go_wp2_with (go_at_call 60; fail)
      refine (j8 w7 al cl A7.out).mono ?_
      rintro r w8 ⟨b8, u2, rfl, o8, f8⟩
      have z7 := B7.out.size
      have b78 := B7.out.trans (b8.mono z7)
      have HZo := HZ.out
      have BW8 := Bw.out.trans (b78.mono Bw.out.size)
      have H8 := HH.out.below hB BW8 (r6 ρ w.heap.size w1.heap.size w2.heap.size w3.heap.size wr.heap.size w7.heap.size Ws.length) (fun k hk => if_pos hk)
      have q1 := P1.out.below b78
      have q2 := P2.out.below b78
      have q3 := P3.out.below b78
      have q4 := O7.out.below b8
      have s1 : ∀ k, v1.ownBlock = some k → r6 ρ w.heap.size w1.heap.size w2.heap.size w3.heap.size wr.heap.size w7.heap.size Ws.length k = 3 + Ws.length := fun k hk => by
        have := t1.out k hk
        unfold r6; rw [if_neg (by omega), if_neg (by omega), if_pos (by omega)]
      have s2 : ∀ k, v2.ownBlock = some k → r6 ρ w.heap.size w1.heap.size w2.heap.size w3.heap.size wr.heap.size w7.heap.size Ws.length k = 3 + (Ws.length + 1) := fun k hk => by
        have := t2.out k hk
        unfold r6; rw [if_neg (by omega), if_neg (by omega), if_neg (by omega), if_pos (by omega)]
      have s3 : ∀ k, u1.ownBlock = some k → r6 ρ w.heap.size w1.heap.size w2.heap.size w3.heap.size wr.heap.size w7.heap.size Ws.length k = 0 := fun k hk => by
        have := t3.out k hk
        unfold r6; rw [if_neg (by omega), if_neg (by omega), if_neg (by omega), if_neg (by omega), if_pos (by omega)]
      have s4 : ∀ k, v3.ownBlock = some k → r6 ρ w.heap.size w1.heap.size w2.heap.size w3.heap.size wr.heap.size w7.heap.size Ws.length k = 3 + (Ws.length + 2) := fun k hk => by
        have := F7.out k hk; have := O7.out.lt k hk
        unfold r6; rw [if_neg (by omega), if_neg (by omega), if_neg (by omega), if_neg (by omega), if_neg (by omega), if_pos (by omega)]
      have s5 : ∀ k, u2.ownBlock = some k → r6 ρ w.heap.size w1.heap.size w2.heap.size w3.heap.size wr.heap.size w7.heap.size Ws.length k = 0 := fun k hk => by
        have := f8 k hk
        unfold r6; rw [if_neg (by omega), if_neg (by omega), if_neg (by omega), if_neg (by omega), if_neg (by omega), if_neg (by omega)]
      generalize r6 ρ w.heap.size w1.heap.size w2.heap.size w3.heap.size wr.heap.size w7.heap.size Ws.length = ρ8 at *
      have y1 := holds_any H8 hB (by omega) (batchL N ps) v1 u1 q1 s1 q3 s3
      have Q2 := hid (And.intro q2 s2)
      have Q3 := hid (And.intro q3 s3)
      have Q4 := hid (And.intro q4 s4)
      have Q5 := hid (And.intro o8 s5)
      generalize hP : batchL N ps = P at *
      generalize hPD : batchL N (ps.map dec8) = PD at *
      have HP := hid hP
      have HPD := hid hPD
      clear hP hPD
      generalize batchE N ps = E at *
      generalize batchE N (ps.map dec8) = ED at *
      clear H8 q1 q2 q3 q4 s1 s2 s3 s4 s5 o8 f8 b8 b78 BW8 O7 F7 B7 A7 P1 P2 P3 t1 t2 t3 Bw HZ HZo z7 j7 j8 Hrow HAl HH HA
      go_wp2_with (go_at_call 28; fail)
      refine y1.mono ?_
      rintro r wa ⟨rfl, ρa, vha, vwa, Ha, aa, za, ka⟩
      have q2 : OwnP wa v2 P := Q2.out.1.kept za (fun k hk => ka k (Q2.out.1.lt k hk) (by rw [Q2.out.2 k hk]; omega) (by rw [Q2.out.2 k hk]; omega) (by rw [Q2.out.2 k hk]; omega))
      have q3 : OwnP wa u1 P := Q3.out.1.kept za (fun k hk => ka k (Q3.out.1.lt k hk) (by rw [Q3.out.2 k hk]; omega) (by rw [Q3.out.2 k hk]; omega) (by rw [Q3.out.2 k hk]; omega))
      have q4 : OwnP wa v3 PD := Q4.out.1.kept za (fun k hk => ka k (Q4.out.1.lt k hk) (by rw [Q4.out.2 k hk]; omega) (by rw [Q4.out.2 k hk]; omega) (by rw [Q4.out.2 k hk]; omega))
      have q5 : OwnP wa u2 PD := Q5.out.1.kept za (fun k hk => ka k (Q5.out.1.lt k hk) (by rw [Q5.out.2 k hk]; omega) (by rw [Q5.out.2 k hk]; omega) (by rw [Q5.out.2 k hk]; omega))
      have y2 := holds_any Ha hB (by rw [List.length_append]; simp; omega) P v2 u1 q2 (fun k hk => by rw [aa k (Q2.out.1.lt k hk), Q2.out.2 k hk, List.length_append]; rfl) q3 (fun k hk => by rw [aa k (Q3.out.1.lt k hk)]; exact Q3.out.2 k hk)
      have Q6 := hid (And.intro q4 (fun k (hk : v3.ownBlock = some k) => (aa k (Q4.out.1.lt k hk)).trans (Q4.out.2 k hk)))
      have Q7 := hid (And.intro q5 (fun k (hk : u2.ownBlock = some k) => (aa k (Q5.out.1.lt k hk)).trans (Q5.out.2 k hk)))
      clear y1 Ha aa za ka q2 q3 q4 q5 Q2 Q3 Q4 Q5
      go_wp2_with (go_at_call 28; fail)
      refine y2.mono ?_
      rintro r wb ⟨rfl, ρb, vhb, vwb, Hb, ab, zb, kb⟩
      have q4 : OwnP wb v3 PD := Q6.out.1.kept zb (fun k hk => kb k (Q6.out.1.lt k hk) (by rw [Q6.out.2 k hk]; omega) (by rw [Q6.out.2 k hk]; omega) (by rw [Q6.out.2 k hk]; omega))
      have q5 : OwnP wb u2 PD := Q7.out.1.kept zb (fun k hk => kb k (Q7.out.1.lt k hk) (by rw [Q7.out.2 k hk]; omega) (by rw [Q7.out.2 k hk]; omega) (by rw [Q7.out.2 k hk]; omega))
      have y3 := holds_any Hb hB (by rw [List.length_append, List.length_append]; simp; omega) PD v3 u2 q4 (fun k hk => by rw [ab k (Q6.out.1.lt k hk), Q6.out.2 k hk, List.length_append, List.length_append]; rfl) q5 (fun k hk => by rw [ab k (Q7.out.1.lt k hk)]; exact Q7.out.2 k hk)
      clear y2 Hb ab zb kb q4 q5 Q6 Q7
      go_wp2_with (go_at_call 28; fail)
      refine y3.mono ?_
      rintro r we ⟨rfl, ρe, vhe, vwe, He, _, _, _⟩
      have HE := hid He
      have x1 : (E == E) = true := by simp
      have x2 : (ED == ED) = true := by simp
      clear y3
      go_wp2
      go_ret
      exact ⟨rfl, ρe, vhe, vwe, _, _, by rw [HP.out, HPD.out]; exact HE.out⟩
end Go.Proofs.YtejdecfpegpgcaaDoor

namespace Go.Proofs.YtejdecfpegpgcaaDoor
open Go.RowKit Go.Shelf
set_option maxRecDepth 100000 in
set_option maxHeartbeats 1000000 in
theorem rProof8_ok (N idx : Nat) (h0 : 1 ≤ idx) (h1 : idx < N) (h2 : N ≤ 1099511627776) (w : World) :
    Calls Tryd.prog 27 #[.int .i64 (idx : Int), .int .i64 (N : Int)] w (SpP w 0 (Tree.prfF N 0 N idx)) := by
  have S0 := SpI.new w 0 (N : Int)
  have B0 := (Below.refl _ w).alloc (Nat.le_refl _) (.cells #[.int .i64 0, .int .i64 (N : Int)] 25)
  have D0 : Dn w (w.alloc (.cells #[.int .i64 0, .int .i64 (N : Int)] 25)) (.slice none 0 0) 0 (0 + N) [] := ⟨by rw [Nat.zero_add]; exact S0, OwnM.nil 2 _, (fun k hk => by cases hk), B0⟩
  have HD := hid D0
  obtain ⟨R, hR⟩ : ∃ R, Tree.prfF N 0 N idx = R := ⟨_, rfl⟩
  have HR := hid hR
  rw [hR]
  clear S0 B0 D0 hR
  have a1 : ¬ (N : Int) < 1 := by omega
  have a2 : ¬ 1099511627776 < (N : Int) := by omega
  have a3 : ¬ (idx : Int) < 0 := by omega
  have a4 : ¬ (N : Int) ≤ (idx : Int) := by omega
  have a5 : (idx : Int) < (N : Int) := by omega
  go_enter Tryd.func27, Tryd.ntmps27
  go_wp2
  go_loopw [6] (fun v w' => ∃ (b m f : Nat) (l : List (Nat × Nat)), m ≤ f ∧ 1 ≤ m ∧ b < idx ∧ idx ≤ b + m ∧ b + m ≤ N ∧ l.length + m ≤ N ∧ Hid (Dn w w' v b (b + m) l) ∧ Hid (R = Tree.prfF f b m idx ++ l.reverse)) (fun v _ => N - slLen v)
  case atStart => exact ⟨0, N, N, [], Nat.le_refl _, by omega, by omega, by omega, by omega, by simp, HD, by rw [Hid, List.reverse_nil, List.append_nil]; exact HR.out.symm⟩
  case round =>
    clear HD HR
    obtain ⟨b, m, f, l, hmf, hm1, hb1, hb2, hbN, hlN, hD, hE⟩ := hrel
    have hsl := hD.out.ow.slLen
    obtain ⟨va, vc, hva, _, _⟩ := hD.out.ow.shape
    subst hva
    have c0 := hD.out.sp.c0
    have c1 := hD.out.sp.c1
    have g0 := hD.out.sp.f0
    have g1 := hD.out.sp.f1
    by_cases hm2 : b + m ≠ idx
    · have hm2 : 2 ≤ m := by omega
      obtain ⟨f, rfl⟩ : ∃ f', f = f' + 1 := ⟨f - 1, by omega⟩
      have s1 := Tree.sp_lt hm2
      have s2 := Tree.sp_pos hm2
      obtain ⟨mid, hmid⟩ : ∃ mid, b + Tree.sp m = mid := ⟨_, rfl⟩
      have hmh : Hid (mid = b + Tree.sp (b + m - b)) := by rw [Hid, Nat.add_sub_cancel_left]; exact hmid.symm
      have i1 := fun w' => rMiddle_at b (b + m) mid (by omega) (by omega) hmh w'
      have i2 := fun w' => rleft_at b (b + m) mid (by omega) (by omega) hmh w'
      have i3 := fun w' => rright_at b (b + m) mid (by omega) (by omega) hmh w'
      have hE := hE.out
      rw [Tree.prfF] at hE
      rw [if_neg (by omega)] at hE
      have HD := hD
      clear hD hmh
      obtain ⟨ee, hee⟩ : ∃ ee, b + m = ee := ⟨_, rfl⟩
      rw [hee] at HD i1 i2 i3 c1
      have q1 : ¬ (ee : Int) = (idx : Int) := by omega
      by_cases ht : idx ≤ mid
      · have t1 : (idx : Int) ≤ (mid : Int) := by omega
        rw [if_pos (by omega)] at hE
        have hE2 : R = Tree.prfF f b (Tree.sp m) idx ++ (l ++ [(mid, ee)]).reverse := by rw [List.reverse_append, List.reverse_singleton, hE, hmid, hee, List.append_assoc]
        have HE := hid hE2
        have hsum : b + (Tree.sp m) = mid := by omega
        clear hE hE2
        go_wp2_with (go_at_call 42; fail)
        refine (i1 _).mono ?_
        rintro r wa ⟨rfl, ba⟩
        have HDa := hid (HD.out.below ba)
        have e0 := HDa.out.sp.c0
        have e1 := HDa.out.sp.c1
        clear ba c0 c1 g0 g1 HD
        go_wp2_with (go_at_call 48; fail)
        refine (i3 _).mono ?_
        rintro r wb ⟨rfl, bb⟩
        have HDb := HDa.out.below bb
        obtain ⟨v', wc, hap, Oc, Gc⟩ := append_pair wb _ l mid ee HDb.ow (by omega)
        have HDc := hid (HDb.grow Gc Oc)
        have k0 := HDc.out.sp.c0
        have k1 := HDc.out.sp.c1
        clear bb HDb HDa Oc Gc e0 e1
        rw [show sg mid ee = Value.agg #[.int .i64 (mid : Int), .int .i64 (ee : Int)] from rfl]
        go_wp2_with (first
          | (go_at_call 47; fail)
          | (at_builtin; go_must (refine Lib.wpList_append_run _ rfl _ _ 34 34 rfl _ _ rfl rfl _ _ hap ?_)))
        refine (i2 _).mono ?_
        rintro r wd ⟨rfl, bd⟩
        have HDd := HDc.out.below bd
        have n0 := HDd.sp.c0
        have n1 := HDd.sp.c1
        have m0 := HDd.sp.f0
        have m1 := HDd.sp.f1
        have HDf := HDd.set b mid
        have HDf := hid HDf
        have hsl2 := HDd.ow.slLen
        clear bd HDc HDd k0 k1
        rw [show sg b mid = Value.agg #[.int .i64 (b : Int), .int .i64 (mid : Int)] from rfl]
        go_wp2
        refine ⟨⟨b, (Tree.sp m), f, l ++ [(mid, ee)], by omega, by omega, by omega, by omega, by omega, by rw [List.length_append]; simp; omega, by rw [hsum]; exact HDf, HE⟩, ?_⟩
        rw [hsl2, hsl, List.length_append]
        simp
        omega
      · have t1 : ¬ (idx : Int) ≤ (mid : Int) := by omega
        rw [if_neg (by omega)] at hE
        have hE2 : R = Tree.prfF f mid (m - Tree.sp m) idx ++ (l ++ [(b, mid)]).reverse := by rw [List.reverse_append, List.reverse_singleton, hE, hmid, List.append_assoc]
        have HE := hid hE2
        have hsum : mid + (m - Tree.sp m) = ee := by omega
        clear hE hE2
        go_wp2_with (go_at_call 42; fail)
        refine (i1 _).mono ?_
        rintro r wa ⟨rfl, ba⟩
        have HDa := hid (HD.out.below ba)
        have e0 := HDa.out.sp.c0
        have e1 := HDa.out.sp.c1
        clear ba c0 c1 g0 g1 HD
        go_wp2_with (go_at_call 47; fail)
        refine (i2 _).mono ?_
        rintro r wb ⟨rfl, bb⟩
        have HDb := HDa.out.below bb
        obtain ⟨v', wc, hap, Oc, Gc⟩ := append_pair wb _ l b mid HDb.ow (by omega)
        have HDc := hid (HDb.grow Gc Oc)
        have k0 := HDc.out.sp.c0
        have k1 := HDc.out.sp.c1
        clear bb HDb HDa Oc Gc e0 e1
        rw [show sg b mid = Value.agg #[.int .i64 (b : Int), .int .i64 (mid : Int)] from rfl]
        go_wp2_with (first
          | (go_at_call 48; fail)
          | (at_builtin; go_must (refine Lib.wpList_append_run _ rfl _ _ 34 34 rfl _ _ rfl rfl _ _ hap ?_)))
        refine (i3 _).mono ?_
        rintro r wd ⟨rfl, bd⟩
        have HDd := HDc.out.below bd
        have n0 := HDd.sp.c0
        have n1 := HDd.sp.c1
        have m0 := HDd.sp.f0
        have m1 := HDd.sp.f1
        have HDf := HDd.set mid ee
        have HDf := hid HDf
        have hsl2 := HDd.ow.slLen
        clear bd HDc HDd k0 k1
        rw [show sg mid ee = Value.agg #[.int .i64 (mid : Int), .int .i64 (ee : Int)] from rfl]
        go_wp2
        refine ⟨⟨mid, (m - Tree.sp m), f, l ++ [(b, mid)], by omega, by omega, by omega, by omega, by omega, by rw [List.length_append]; simp; omega, by rw [hsum]; exact HDf, HE⟩, ?_⟩
        rw [hsl2, hsl, List.length_append]
        simp
        omega
    · have hm3 : b + m = idx := Classical.not_not.1 hm2
      obtain ⟨f, rfl⟩ : ∃ f', f = f' + 1 := ⟨f - 1, by omega⟩
      have hE := hE.out
      rw [Tree.prfF, if_pos hm3] at hE
      rw [hm3] at c1
      by_cases hb0 : b = 0
      · subst hb0
        rw [if_pos rfl, List.nil_append] at hE
        have i4 := turned_any l va vc wr (by omega) (OwnP.atP hD.out.ow)
        have HB := hid hD.out.bel
        subst hE
        clear hD
        go_wp2_with (first
          | (go_at_call 58; refine i4.mono ?_; rintro r wt ⟨vt, rfl, Ot, Ft, bt⟩; have HO := hid Ot; have HF := hid Ft; have HB2 := hid (HB.out.trans (bt.mono HB.out.size)); have hbs := HB.out.size; clear Ot Ft bt))
        refine bodyPost_ret (results_tmp2 rfl _ _ _) rfl ?_
        exact ⟨HB2.out, vt, rfl, HO.out, fun k hk => Nat.le_trans hbs (HF.out k hk)⟩
      · rw [if_neg hb0] at hE
        have b1 : (0 : Int) < (b : Int) := by omega
        obtain ⟨v', wc, hap, Oc, Gc⟩ := append_pair wr _ l b idx hD.out.ow (by omega)
        have HDc := hD.out.grow Gc Oc
        obtain ⟨va', vc', hva', _, _⟩ := HDc.ow.shape
        subst hva'
        have hE2 : R = (l ++ [(b, idx)]).reverse := by rw [List.reverse_append, List.reverse_singleton, hE, hm3]
        have i4 := turned_any (l ++ [(b, idx)]) va' vc' wc (by rw [List.length_append]; simp; omega) (OwnP.atP HDc.ow)
        have HB := hid HDc.bel
        have hln : (l ++ [(b, idx)]).length = l.length + 1 := by simp
        rw [hln] at i4 hap
        subst hE2
        clear hD HDc Oc Gc hE
        go_wp2_with (first
          | (go_at_call 58; refine i4.mono ?_; rintro r wt ⟨vt, rfl, Ot, Ft, bt⟩; have HO := hid Ot; have HF := hid Ft; have HB2 := hid (HB.out.trans (bt.mono HB.out.size)); have hbs := HB.out.size; clear Ot Ft bt)
          | (at_builtin; go_must (refine Lib.wpList_append_run _ rfl _ _ 34 34 rfl _ _ rfl rfl _ _ hap ?_)))
        refine bodyPost_ret (results_tmp2 rfl _ _ _) rfl ?_
        exact ⟨HB2.out, vt, rfl, HO.out, fun k hk => Nat.le_trans hbs (HF.out k hk)⟩
theorem rProof8_any (m n : Int) (w : World) : Calls Tryd.prog 27 #[.int .i64 m, .int .i64 n] w (SpP w (proofE m n) (proofL m n)) := by
  by_cases h1 : 1 ≤ m ∧ m ≤ n ∧ n ≤ 1099511627776
  · obtain ⟨N, rfl⟩ : ∃ N : Nat, n = (N : Int) := ⟨n.toNat, by omega⟩
    obtain ⟨I, rfl⟩ : ∃ I : Nat, m = (I : Int) := ⟨m.toNat, by omega⟩
    have hE : proofE (I : Int) (N : Int) = 0 := by unfold proofE; rw [if_pos h1]
    have hL : proofL (I : Int) (N : Int) = Tree.prfF N 0 N I := by unfold proofL; rw [if_pos hE, Int.toNat_natCast, Int.toNat_natCast]
    rw [hE, hL]
    by_cases h2 : I = N
    · subst h2
      have e0 : Tree.prfF I 0 I I = [] := by
        obtain ⟨k, rfl⟩ : ∃ k, I = k + 1 := ⟨I - 1, by omega⟩
        rw [Tree.prfF, if_pos (by omega), if_pos rfl]
      rw [e0]
      have fin := SpP.nil (w := w) (c := 0)
      have a1 : ¬ (I : Int) < 1 := by omega
      have a2 : ¬ 1099511627776 < (I : Int) := by omega
      have a3 : ¬ (I : Int) < (I : Int) := by omega
      go_enter Tryd.func27, Tryd.ntmps27
      go_wp2
      refine bodyPost_ret (results_tmp2 rfl _ _ _) rfl ?_
      exact fin
    · exact rProof8_ok N I (by omega) (by omega) (by omega) w
  · have hE : proofE m n = 81 := by unfold proofE; rw [if_neg h1]
    have hL : proofL m n = [] := by unfold proofL; rw [if_neg (by rw [hE]; decide)]
    rw [hE, hL]
    have fin := SpP.nil (w := w) (c := 81)
    go_enter Tryd.func27, Tryd.ntmps27
    by_cases h3 : m < 1
    · go_wp2
      refine bodyPost_ret (results_tmp2 rfl _ _ _) rfl ?_
      exact fin
    · by_cases h4 : n < m
      · go_wp2
        refine bodyPost_ret (results_tmp2 rfl _ _ _) rfl ?_
        exact fin
      · have h5 : 1099511627776 < n := by omega
        go_wp2
        refine bodyPost_ret (results_tmp2 rfl _ _ _) rfl ?_
        exact fin
end Go.Proofs.YtejdecfpegpgcaaDoor
