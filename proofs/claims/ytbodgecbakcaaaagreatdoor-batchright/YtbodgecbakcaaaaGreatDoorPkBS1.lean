import Derived.Test.YtbodgecbakcaaaaGreatDoorPkBP11
import Derived.Test.YtbodgecbakcaaaaGreatDoorPkO23
import Derived.Test.YtbodgecbakcaaaaGreatDoorPkBL11
import Derived.Test.YtbodgecbakcaaaaGreatDoorPkBR1
import Derived.Test.YtbodgecbakcaaaaGreatDoorPkBR7
import Derived.Test.YtbodgecbakcaaaaGreatDoorPkBS6
namespace Go.Proofs.YtbodgecbakcaaaaGreatDoor
open Go.RowKit Go.Shelf
namespace Bat
def ivz (l : List Int) : List Value := l.map fun x => .int .i64 x
theorem ivz_len (l : List Int) : (ivz l).length = l.length := by simp [ivz]
theorem ivz_one {L : List Int} {v : Value} (h : v ∈ ivz L) : v.oneCell' = true := by
  simp only [ivz, List.mem_map] at h
  obtain ⟨n, _, rfl⟩ := h
  rfl
theorem infoZ : (Tryz.prog.info? 3).map (fun i => (i.zero, i.size, i.bytes)) = some (some (.int .i64 0), 1, 8) := by kernel_rfl
theorem infoZ1 : (Tryz.prog.info? 3).map (·.size) = some 1 := by kernel_rfl
def RowZ (w : World) (H : Nat) (L : List Int) : Prop := w.heap[H]? = some (.cells (ivz L).toArray 3 (0, 0))
theorem RowZ.lt {w : World} {H : Nat} {L : List Int} (h : RowZ w H L) : H < w.heap.size := lt_of_heap h
theorem RowZ.cell {w : World} {H : Nat} {L : List Int} (h : RowZ w H L) {j : Nat} {p : Int} (hp : L[j]? = some p) : w.cell? ⟨H, j, none⟩ = some (.int .i64 p) := by
  rw [cell_of_row _ _ _ _ _ _ h]; simp [ivz, hp]
theorem RowZ.at {w : World} {H : Nat} {L : List Int} (h : RowZ w H L) : AtI w (some ⟨H, 0, none⟩) L := fun j p hp => ⟨_, rfl, h.lt, by rw [Addr.add_mid, Nat.zero_add]; exact h.cell hp⟩
theorem RowZ.free {w : World} {H : Nat} {L : List Int} (h : RowZ w H L) (j : Nat) : w.frozen? ⟨H, j, none⟩ = false := frozen_of_row _ _ _ _ _ h
theorem RowZ.below {w w' : World} {H B : Nat} {L : List Int} (h : RowZ w H L) (hb : Below B w w') (hB : H < B) : RowZ w' H L := (hb.block H hB).trans h
theorem RowZ.set {w : World} {H : Nat} {L : List Int} (h : RowZ w H L) (k : Nat) (x : Int) : RowZ (w.setCell ⟨H, k, none⟩ (.int .i64 x)) H (L.set k x) := by
  have e := setCell_eq_setRow w H k (ivz L).toArray 3 (0, 0) (.int .i64 x) h
  unfold RowZ
  rw [e, setRow_heap _ _ _ _ _ _ h]
  refine congrArg (fun A => some (Obj.cells A 3 (0, 0))) ?_
  simp [ivz, List.map_set]
theorem make_ints12 (w : World) (c : Nat) (hc : c ≤ 17592186044416) :
    (Instr.makeSlice 22 (.int .i64 (c : Int)) (.int .i64 (c : Int))).run Tryz.prog w = .ok (.slice (some ⟨w.heap.size, 0, none⟩) c c) (w.alloc (.cells (ivz (List.replicate c 0)).toArray 3)) := by
  obtain ⟨i0, hi, hz0, hz1, hz2⟩ := info_parts infoZ
  have h := run_make (P := Tryz.prog) w 22 3 i0 (.int .i64 0) Tryz.underlying22 hi hz0 .i64 .i64 (c : Int) (c : Int) (by omega) (by omega) (by rw [hz2]; omega) (by omega)
  rw [Int.toNat_natCast, hz1, Nat.mul_one] at h
  have e : madeCells (Value.int .i64 0).cells c = (ivz (List.replicate c 0)).toArray := by
    apply Array.ext'
    rw [show (madeCells (Value.int .i64 0).cells c).toList = List.replicate c (.int .i64 0) from toList_madeCells_one _ _]
    simp [ivz]
  rw [e] at h
  exact h
theorem copy_ints12 (w : World) (H : Nat) (a : Option Addr) (cap' : Nat) (ps rest : List Int) (hs : AtI w a ps) (hR : RowZ w H (List.replicate ps.length 0 ++ rest)) (m cap : Nat) (hm : m = ps.length + rest.length) :
    ∃ w', (Builtin.copy_ #[22, 22] 3 #[.slice (some ⟨H, 0, none⟩) m cap, .slice a ps.length cap']).run Tryz.prog w = .ok (goInt ps.length) w' ∧ RowZ w' H (ps ++ rest) ∧ But H w w' := by
  by_cases h0 : ps.length = 0
  · obtain rfl : ps = [] := List.length_eq_zero_iff.1 h0
    exact ⟨w, run_copy_none (P := Tryz.prog) w _ _ _ 3 _ _ _ _ _ _ Tryz.underlying22 infoZ1 (by simp), by simpa using hR, But.refl _ _⟩
  · obtain ⟨x, rfl, hx, _⟩ := hs 0 _ (List.getElem?_eq_getElem (by omega))
    have h := run_copy_row (P := Tryz.prog) w 22 22 3 3 H 0 m cap x ps.length cap' _ 3 (ivz ps) Tryz.underlying22 infoZ1 hR
      (by rw [ivz_len]; exact (Nat.min_eq_left (by omega)).symm) (fun j u hu => by
        simp only [ivz, List.getElem?_map, Option.map_eq_some_iff] at hu
        obtain ⟨p, hp, rfl⟩ := hu
        obtain ⟨y, hy, _, hc⟩ := hs j p hp
        cases hy
        exact hc) (by simp [ivz]) (fun u hu => ivz_one hu)
    refine ⟨_, h.trans (by rw [ivz_len]), ?_, (But.refl _ _).setRow _⟩
    unfold RowZ
    rw [setRow_heap _ _ _ _ _ _ hR]
    refine congrArg (fun A => some (Obj.cells A 3 (0, 0))) ?_
    simp [ivz]
def b71 (j : Nat) : List Int := List.replicate j (-71) ++ List.replicate (8 - j) 0
theorem b71_set (ps : List Int) {j : Nat} (hj : j < 8) : (ps ++ b71 j).set (ps.length + j) (-71) = ps ++ b71 (j + 1) := by
  rw [List.set_append_right _ _ (by omega), Nat.add_sub_cancel_left, b71, b71, show 8 - j = (8 - (j + 1)) + 1 by omega, List.replicate_succ, List.set_append_right _ _ (by simp), List.length_replicate, Nat.sub_self, List.replicate_succ', List.append_assoc]
  rfl
theorem b71_len (j : Nat) (hj : j ≤ 8) : (b71 j).length = 8 := by simp [b71]; omega
set_option maxRecDepth 100000 in
set_option maxHeartbeats 2000000 in
theorem lentInts12_any (ps : List Int) (a : Option Addr) (cap : Nat) (w : World) (hn : ps.length ≤ 17592186044400) (hA : AtI w a ps) :
    Calls Tryz.prog 17 #[.slice a ps.length cap] w fun e w' => e = .returned (.slice (some ⟨w.heap.size, 0, none⟩) (ps.length + 8) (ps.length + 8)) ∧ RowZ w' w.heap.size (ps ++ List.replicate 8 (-71)) ∧ Below w.heap.size w w' := by
  have hmk := make_ints12 w (ps.length + 8) (by omega)
  have e8 : ((ps.length + 8 : Nat) : Int) = (ps.length : Int) + 8 := by omega
  rw [e8] at hmk
  have R1 : RowZ (w.alloc (.cells (ivz (List.replicate (ps.length + 8) 0)).toArray 3)) w.heap.size (List.replicate ps.length 0 ++ List.replicate 8 0) := by
    rw [List.replicate_append_replicate]; exact heap_alloc_new w _
  have hb1 := (Below.refl w.heap.size w).alloc (Nat.le_refl _) (.cells (ivz (List.replicate (ps.length + 8) 0)).toArray 3)
  obtain ⟨w2, hcp, hR2, hb2⟩ := copy_ints12 _ w.heap.size a cap ps (List.replicate 8 0) (hA.below hb1 (Nat.le_refl _)) R1 (ps.length + 8) (ps.length + 8) (by simp)
  have B2 : Below w.heap.size w w2 := hb1.trans (hb2.below (Nat.le_refl _) (by rw [size_alloc]; omega))
  have HR2 : Hid (RowZ w2 w.heap.size (ps ++ b71 0)) := hR2
  have HB2 := hid B2
  clear hR2 B2 R1 hb2 hb1 hA
  generalize w.alloc (.cells (ivz (List.replicate (ps.length + 8) 0)).toArray 3) = w1 at *
  obtain ⟨n, hpn⟩ : ∃ n, ps.length = n := ⟨_, rfl⟩
  rw [hpn] at hmk hcp hn ⊢
  go_enter Tryz.func17, Tryz.ntmps17
  go_wp2
  clear hcp hmk
  go_loopw [4] (fun i w' => ∃ j : Nat, j ≤ 8 ∧ i = .int .i64 ((n : Int) + (j : Int)) ∧ Hid (RowZ w' w.heap.size (ps ++ b71 j)) ∧ Hid (Below w.heap.size w w')) (fun i _ => n + 8 - (intOf i).toNat)
  case atStart => exact ⟨0, by omega, by simp, HR2, HB2⟩
  case round =>
    clear HR2 HB2
    obtain ⟨j, hj, rfl, hR, hB⟩ := hrel
    by_cases hlt : j < 8
    · have b0 : (n : Int) + (j : Int) < (n : Int) + 8 := by omega
      have b1 : (0 : Int) ≤ (n : Int) + (j : Int) := by omega
      have t1 : ((n : Int) + (j : Int)).toNat = n + j := by omega
      have hl : (ps ++ b71 j).length = n + 8 := by rw [List.length_append, b71_len j (by omega), hpn]
      have cp := hR.out.cell (List.getElem?_eq_getElem (show n + j < (ps ++ b71 j).length by omega))
      have fz := hR.out.free (n + j)
      have R' := hR.out.set (n + j) (-71)
      rw [← hpn, b71_set ps hlt, hpn] at R'
      have B' := hid (hB.out.setCell (p := ⟨w.heap.size, n + j, none⟩) (Nat.le_refl _) (.int .i64 (-71)))
      have R'' := hid R'
      clear R' hR hB
      go_wp2
      exact ⟨⟨j + 1, by omega, by rw [show (n : Int) + (j : Int) + 1 = (n : Int) + ((j + 1 : Nat) : Int) from by omega], R'', B'⟩, by simp [intOf]; omega⟩
    · obtain rfl : j = 8 := by omega
      have b0 : ¬ (n : Int) + ((8 : Nat) : Int) < (n : Int) + 8 := by omega
      go_wp2
      go_ret
      exact ⟨rfl, hR.out, hB.out⟩
set_option maxRecDepth 100000 in
set_option maxHeartbeats 2000000 in
theorem keptInts12_any (ps : List Int) (H : Nat) (c : Nat) (a : Option Addr) (cap : Nat) (w : World) (hn : ps.length ≤ 17592186044400) (hc : ps.length + 8 ≤ c) (hR : RowZ w H (ps ++ List.replicate 8 (-71))) (hA : AtI w a ps) :
    Calls Tryz.prog 27 #[.slice (some ⟨H, 0, none⟩) (ps.length + 8) c, .slice a ps.length cap] w fun e w' => e = .returned (.bool true) ∧ Below w.heap.size w w' ∧ w'.heap = w.heap := by
  have hA1 : AtI w (some ⟨H, 0, none⟩) ps := fun j p hp => hR.at j p (by rw [List.getElem?_append_left (List.getElem?_eq_some_iff.1 hp).1]; exact hp)
  have cS := fun w' (hb : Below w.heap.size w w') => sameI_yes ps (some ⟨H, 0, none⟩) a c cap w' (hA1.below hb (Nat.le_refl _)) (hA.below hb (Nat.le_refl _)) (by omega)
  have HR := hid hR
  obtain ⟨n, hpn⟩ : ∃ n, ps.length = n := ⟨_, rfl⟩
  rw [hpn] at cS hn hc ⊢
  clear hA hA1 hR
  have hnn : (n : Int) ≤ (n : Int) + 8 := by omega
  have hnc : (n : Int) ≤ (c : Int) := by omega
  have HS := hid cS
  clear cS
  go_enter Tryz.func27, Tryz.ntmps27
  go_wp2
  go_loopw [5] (fun i w' => ∃ j : Nat, j ≤ 8 ∧ i = .int .i64 ((n : Int) + (j : Int)) ∧ Hid (Below w.heap.size w w' ∧ w'.heap = w.heap)) (fun i _ => n + 8 - (intOf i).toNat)
  case atStart => exact ⟨0, by omega, by simp, hid ⟨Below.refl _ _, rfl⟩⟩
  case round =>
    obtain ⟨j, hj, rfl, hB⟩ := hrel
    by_cases hlt : j < 8
    · have b0 : (n : Int) + (j : Int) < (n : Int) + 8 := by omega
      have b1 : (0 : Int) ≤ (n : Int) + (j : Int) := by omega
      have t1 : ((n : Int) + (j : Int)).toNat = n + j := by omega
      have cp := HR.out.cell (j := n + j) (p := -71) (by
        rw [List.getElem?_append_right (by omega), hpn, show n + j - n = j from by omega, List.getElem?_replicate, if_pos hlt])
      rw [← hB.out.1.cell (p := ⟨H, n + j, none⟩) HR.out.lt] at cp
      go_wp2
      exact ⟨⟨j + 1, by omega, by rw [show (n : Int) + (j : Int) + 1 = (n : Int) + ((j + 1 : Nat) : Int) from by omega], hB⟩, by simp [intOf]; omega⟩
    · obtain rfl : j = 8 := by omega
      have b0 : ¬ (n : Int) + ((8 : Nat) : Int) < (n : Int) + 8 := by omega
      go_wp2_with (go_at_call 45; refine (HS.out _ hB.out.1).mono ?_; rintro e w9 ⟨rfl, hw9, hh9⟩)
      go_ret
      exact ⟨rfl, hB.out.1.trans (hw9.mono hB.out.1.size), hh9.trans hB.out.2⟩
end Bat
end Go.Proofs.YtbodgecbakcaaaaGreatDoor

namespace Go.Proofs.YtbodgecbakcaaaaGreatDoor
open Go.RowKit
structure Bk (w : World) (X : Nat) (vf vw : Value) (us cs : List Value) (Ls : List (List (List UInt8))) : Prop where
  row : w.heap[X]? = some (.cells #[vf, vw, .slice none 0 0, .slice none 0 0, .slice none 0 0] 51 (0, 0))
  free : Own w X vf us
  was : Own w X vw cs
  l1 : us.length = Ls.length
  l2 : cs.length = Ls.length
  dX : vf.ownBlock ≠ some X ∧ vw.ownBlock ≠ some X
  dFW : ∀ k, vf.ownBlock = some k → vw.ownBlock ≠ some k
  own : ∀ (i : Nat) (u : Value) (L : List (List UInt8)), us[i]? = some u → Ls[i]? = some L → Own w X u (svs L) ∧ L.length ≤ 1000000
  cpy : ∀ (i : Nat) (c : Value) (L : List (List UInt8)), cs[i]? = some c → Ls[i]? = some L → Own w X c (svs L)
  apU : ∀ (i : Nat) (u : Value) (g : Nat), us[i]? = some u → u.ownBlock = some g → g ≠ X ∧ vf.ownBlock ≠ some g ∧ vw.ownBlock ≠ some g
  apC : ∀ (i : Nat) (c : Value) (g : Nat), cs[i]? = some c → c.ownBlock = some g → g ≠ X ∧ vf.ownBlock ≠ some g ∧ vw.ownBlock ≠ some g
  di : ∀ (i j : Nat) (u v : Value) (g : Nat), us[i]? = some u → us[j]? = some v → u.ownBlock = some g → v.ownBlock = some g → i = j
theorem Bk.nil {w : World} {X : Nat} (h : w.heap[X]? = some (.cells #[.slice none 0 0, .slice none 0 0, .slice none 0 0, .slice none 0 0, .slice none 0 0] 51 (0, 0))) : Bk w X (.slice none 0 0) (.slice none 0 0) [] [] [] :=
  ⟨h, Own.nil _ _, Own.nil _ _, rfl, rfl, ⟨fun e => (by cases e), fun e => (by cases e)⟩, fun k e => (by cases e), fun i u L e => by simp at e, fun i u L e => by simp at e, fun i u g e => by simp at e, fun i u g e => by simp at e, fun i j u v g e => by simp at e⟩
theorem Bk.same {w w' : World} {X : Nat} {vf vw : Value} {us cs : List Value} {Ls : List (List (List UInt8))} (h : Bk w X vf vw us cs Ls) (hs : w.heap.size ≤ w'.heap.size) (hb : ∀ k, X ≤ k → k < w.heap.size → w'.heap[k]? = w.heap[k]?) : Bk w' X vf vw us cs Ls where
  row := (hb X (Nat.le_refl _) (lt_of_heap h.row)).trans h.row
  free := h.free.same hs fun k hk => hb k (h.free.ge k hk) (h.free.lt k hk)
  was := h.was.same hs fun k hk => hb k (h.was.ge k hk) (h.was.lt k hk)
  l1 := h.l1
  l2 := h.l2
  dX := h.dX
  dFW := h.dFW
  own := fun i u L h1 h2 => ⟨(h.own i u L h1 h2).1.same hs fun k hk => hb k ((h.own i u L h1 h2).1.ge k hk) ((h.own i u L h1 h2).1.lt k hk), (h.own i u L h1 h2).2⟩
  cpy := fun i c L h1 h2 => (h.cpy i c L h1 h2).same hs fun k hk => hb k ((h.cpy i c L h1 h2).ge k hk) ((h.cpy i c L h1 h2).lt k hk)
  apU := h.apU
  apC := h.apC
  di := h.di
theorem Bk.blocks {w : World} {X : Nat} {vf vw : Value} {us cs : List Value} {Ls : List (List (List UInt8))} (h : Bk w X vf vw us cs Ls) {i : Nat} {u : Value} (hu : us[i]? = some u) {k : Nat} (hk : u.ownBlock = some k) : k < w.heap.size := by
  have hi := (List.getElem?_eq_some_iff.1 hu).1
  exact (h.own i u (Ls[i]'(by rw [← h.l1]; exact hi)) hu (List.getElem?_eq_getElem _)).1.lt k hk
def Fr (X : Nat) (vf vw : Value) (us : List Value) (u : Value) : Prop := ∀ k, u.ownBlock = some k → k ≠ X ∧ vf.ownBlock ≠ some k ∧ vw.ownBlock ≠ some k ∧ ∀ (i : Nat) (v : Value), us[i]? = some v → v.ownBlock ≠ some k
theorem getSnoc {α : Type} {l : List α} {x y : α} {i : Nat} (h : (l ++ [x])[i]? = some y) : (i < l.length ∧ l[i]? = some y) ∨ (i = l.length ∧ y = x) := by
  by_cases hi : i < l.length
  · rw [List.getElem?_append_left hi] at h
    exact .inl ⟨hi, h⟩
  · have hl := (List.getElem?_eq_some_iff.1 h).1
    simp at hl
    have hm : i = l.length := by omega
    subst hm
    rw [List.getElem?_append_right (Nat.le_refl _), Nat.sub_self] at h
    exact .inr ⟨rfl, (Option.some.inj h).symm⟩
theorem Bk.take {w w' : World} {X b2 : Nat} {vf vw u : Value} {us cs : List Value} {Ls : List (List (List UInt8))} {L : List (List UInt8)} {vf' vw' c : Value} (h : Bk w X vf vw us cs Ls) (T : Took w w' X X vf vw (.slice none 0 0) (.slice none 0 0) (.slice none 0 0) u us cs L vf' vw' c)
    (hu : Own w b2 u (svs L)) (hb2 : X ≤ b2) (hL : L.length ≤ 1000000) (hF : Fr X vf vw us u) : Bk w' X vf' vw' (us ++ [u]) (cs ++ [c]) (Ls ++ [L]) := by
  have hXl := lt_of_heap h.row
  have hX : ∀ k, vf'.ownBlock = some k ∨ vw'.ownBlock = some k → k ≠ X := fun k hk e => by
    subst e
    rcases hk with hk | hk
    · rcases T.srcF k hk with e | e
      · exact h.dX.1 e
      · omega
    · rcases T.srcW k hk with e | e
      · exact h.dX.2 e
      · omega
  have hold : ∀ k, k < w.heap.size → k ≠ X ∧ vf.ownBlock ≠ some k ∧ vw.ownBlock ≠ some k → k ≠ X ∧ vf'.ownBlock ≠ some k ∧ vw'.ownBlock ≠ some k := fun k hk ⟨a1, a2, a3⟩ => by
    refine ⟨a1, fun e => ?_, fun e => ?_⟩
    · rcases T.srcF k e with e | e
      · exact a2 e
      · omega
    · rcases T.srcW k e with e | e
      · exact a3 e
      · omega
  have hkeep : ∀ k, k < w.heap.size → k ≠ X ∧ vf.ownBlock ≠ some k ∧ vw.ownBlock ≠ some k → w'.heap[k]? = w.heap[k]? := fun k hk ⟨a1, a2, a3⟩ => T.keep.block k hk fun e => by
    rcases e with e | e | e
    · exact a1 e
    · exact a2 e
    · exact a3 e
  have hFu : ∀ k, u.ownBlock = some k → k ≠ X ∧ vf.ownBlock ≠ some k ∧ vw.ownBlock ≠ some k := fun k hk => ⟨(hF k hk).1, (hF k hk).2.1, (hF k hk).2.2.1⟩
  refine ⟨T.row, T.free, T.was, by simp [h.l1], by simp [h.l2], ⟨fun e => hX X (.inl e) rfl, fun e => hX X (.inr e) rfl⟩, T.apart, fun i v M h1 h2 => ?_, fun i v M h1 h2 => ?_, fun i v g h1 h2 => ?_, fun i v g h1 h2 => ?_, fun i j v v' g h1 h2 h3 h4 => ?_⟩
  · rcases getSnoc h1 with ⟨hi, h1⟩ | ⟨hi, rfl⟩
    · rw [List.getElem?_append_left (by rw [← h.l1]; exact hi)] at h2
      obtain ⟨o, ol⟩ := h.own i v M h1 h2
      exact ⟨o.same T.keep.size fun k hk => hkeep k (o.lt k hk) (h.apU i v k h1 hk), ol⟩
    · rw [hi, h.l1, List.getElem?_append_right (Nat.le_refl _), Nat.sub_self] at h2
      obtain rfl := Option.some.inj h2
      exact ⟨(hu.mono hb2).same T.keep.size fun k hk => hkeep k (hu.lt k hk) (hFu k hk), hL⟩
  · rcases getSnoc h1 with ⟨hi, h1⟩ | ⟨hi, rfl⟩
    · rw [List.getElem?_append_left (by rw [← h.l2]; exact hi)] at h2
      have o := h.cpy i v M h1 h2
      exact o.same T.keep.size fun k hk => hkeep k (o.lt k hk) (h.apC i v k h1 hk)
    · rw [hi, h.l2, List.getElem?_append_right (Nat.le_refl _), Nat.sub_self] at h2
      obtain rfl := Option.some.inj h2
      exact T.copy.mono (by omega)
  · rcases getSnoc h1 with ⟨hi, h1⟩ | ⟨hi, rfl⟩
    · exact hold g (h.blocks h1 h2) (h.apU i v g h1 h2)
    · exact hold g (hu.lt g h2) (hFu g h2)
  · rcases getSnoc h1 with ⟨hi, h1⟩ | ⟨hi, rfl⟩
    · have o := h.cpy i v (Ls[i]'(by rw [← h.l2]; exact hi)) h1 (List.getElem?_eq_getElem _)
      exact hold g (o.lt g h2) (h.apC i v g h1 h2)
    · exact T.fresh g h2
  · rcases getSnoc h1 with ⟨hi, k1⟩ | ⟨hi, k1⟩
    · rcases getSnoc h2 with ⟨hj, k2⟩ | ⟨hj, k2⟩
      · exact h.di i j v v' g k1 k2 h3 h4
      · exact absurd h3 ((hF g (k2 ▸ h4)).2.2.2 i v k1)
    · rcases getSnoc h2 with ⟨hj, k2⟩ | ⟨hj, k2⟩
      · exact absurd h4 ((hF g (k1 ▸ h3)).2.2.2 j v' k2)
      · omega
end Go.Proofs.YtbodgecbakcaaaaGreatDoor

namespace Go.Proofs.YtbodgecbakcaaaaGreatDoor
open Go.RowKit Go.Shelf
namespace Bat
theorem own_m1 {w : World} {base : Nat} {v : Value} {cs : List Value} (h : Own w base v cs) : OwnM 1 w v cs.length cs := by
  rcases h with ⟨rfl, h⟩ | ⟨g, cap, rfl, h1, h2, h3, h4, h5, h6⟩
  · subst h; exact OwnM.nil 1 w
  · exact .inr ⟨g, cap, rfl, h2, h3, by rw [Nat.mul_one], h4, by rw [Nat.mul_one]; exact h5, h6⟩
def BkB (X : Nat) (vf vw : Value) (us cc : List Value) (k : Nat) : Prop := k = X ∨ vf.ownBlock = some k ∨ vw.ownBlock = some k ∨ (∃ (i : Nat) (u : Value), us[i]? = some u ∧ u.ownBlock = some k) ∨ ∃ (i : Nat) (c : Value), cc[i]? = some c ∧ c.ownBlock = some k
theorem bk_get {w : World} {X : Nat} {vf vw : Value} {us cc : List Value} {Ls : List (List (List UInt8))} (h : Bk w X vf vw us cc Ls) {i : Nat} {u : Value} (hu : us[i]? = some u) : ∃ L, Ls[i]? = some L := ⟨_, List.getElem?_eq_getElem (by have := (List.getElem?_eq_some_iff.1 hu).1; have := h.l1; omega)⟩
theorem bk_getC {w : World} {X : Nat} {vf vw : Value} {us cc : List Value} {Ls : List (List (List UInt8))} (h : Bk w X vf vw us cc Ls) {i : Nat} {u : Value} (hu : cc[i]? = some u) : ∃ L, Ls[i]? = some L := ⟨_, List.getElem?_eq_getElem (by have := (List.getElem?_eq_some_iff.1 hu).1; have := h.l2; omega)⟩
theorem bk_lt {w : World} {X : Nat} {vf vw : Value} {us cc : List Value} {Ls : List (List (List UInt8))} (h : Bk w X vf vw us cc Ls) {k : Nat} (hk : BkB X vf vw us cc k) : X ≤ k ∧ k < w.heap.size := by
  rcases hk with rfl | e | e | ⟨i, u, e1, e2⟩ | ⟨i, u, e1, e2⟩
  · exact ⟨Nat.le_refl _, lt_of_heap h.row⟩
  · exact ⟨h.free.ge k e, h.free.lt k e⟩
  · exact ⟨h.was.ge k e, h.was.lt k e⟩
  · obtain ⟨L, hL⟩ := bk_get h e1
    have := (h.own i u L e1 hL).1
    exact ⟨this.ge k e2, this.lt k e2⟩
  · obtain ⟨L, hL⟩ := bk_getC h e1
    have := h.cpy i u L e1 hL
    exact ⟨this.ge k e2, this.lt k e2⟩
theorem bk_keep {S : Nat → Prop} {w w' : World} {X : Nat} {vf vw : Value} {us cc : List Value} {Ls : List (List (List UInt8))} (h : Bk w X vf vw us cc Ls) (hk : Keep S w w') (hd : ∀ k, BkB X vf vw us cc k → ¬ S k) : Bk w' X vf vw us cc Ls where
  row := (hk.block X (lt_of_heap h.row) (hd X (.inl rfl))).trans h.row
  free := h.free.keep hk fun k e => hd k (.inr (.inl e))
  was := h.was.keep hk fun k e => hd k (.inr (.inr (.inl e)))
  l1 := h.l1
  l2 := h.l2
  dX := h.dX
  dFW := h.dFW
  own := fun i u L h1 h2 => ⟨(h.own i u L h1 h2).1.keep hk fun k e => hd k (.inr (.inr (.inr (.inl ⟨i, u, h1, e⟩)))), (h.own i u L h1 h2).2⟩
  cpy := fun i c L h1 h2 => (h.cpy i c L h1 h2).keep hk fun k e => hd k (.inr (.inr (.inr (.inr ⟨i, c, h1, e⟩))))
  apU := h.apU
  apC := h.apC
  di := h.di
def Ns (ns : List Value) (k : Nat) : Prop := ∃ (j : Nat) (v : Value), ns[j]? = some v ∧ v.ownBlock = some k
def NmB (vn : Value) (ns : List Value) (k : Nat) : Prop := vn.ownBlock = some k ∨ Ns ns k
section
variable {wX w w' : World} {X : Nat} {vf vw : Value} {us cc : List Value} {Ls : List (List (List UInt8))} {vn : Value} {ns : List Value} {Is : List (List Int)}
def Fv (X : Nat) (vf vw : Value) (us cc : List Value) (vn : Value) (ns : List Value) (v : Value) : Prop := ∀ k, v.ownBlock = some k → ¬ BkB X vf vw us cc k ∧ ¬ NmB vn ns k
theorem Fv.fr {v : Value} (h : Fv X vf vw us cc vn ns v) : Fr X vf vw us v := fun k hk =>
  ⟨fun e => (h k hk).1 (.inl e), fun e => (h k hk).1 (.inr (.inl e)), fun e => (h k hk).1 (.inr (.inr (.inl e))), fun i u hu e => (h k hk).1 (.inr (.inr (.inr (.inl ⟨i, u, hu, e⟩))))⟩
theorem took_src {vh vf' vw' c : Value} {H : List (List UInt8)} (T : Took w w' X X vf vw (.slice none 0 0) (.slice none 0 0) (.slice none 0 0) vh us cc H vf' vw' c) {k : Nat} (hk : BkB X vf' vw' (us ++ [vh]) (cc ++ [c]) k) : BkB X vf vw us cc k ∨ vh.ownBlock = some k ∨ w.heap.size ≤ k := by
  rcases hk with rfl | e | e | ⟨i, u, e1, e2⟩ | ⟨i, u, e1, e2⟩
  · exact .inl (.inl rfl)
  · rcases T.srcF k e with e | e
    · exact .inl (.inr (.inl e))
    · exact .inr (.inr e)
  · rcases T.srcW k e with e | e
    · exact .inl (.inr (.inr (.inl e)))
    · exact .inr (.inr e)
  · rcases getSnoc e1 with ⟨_, e⟩ | ⟨_, rfl⟩
    · exact .inl (.inr (.inr (.inr (.inl ⟨i, u, e, e2⟩))))
    · exact .inr (.inl e2)
  · rcases getSnoc e1 with ⟨_, e⟩ | ⟨_, rfl⟩
    · exact .inl (.inr (.inr (.inr (.inr ⟨i, u, e, e2⟩))))
    · exact .inr (.inr (T.copy.ge k e2))
end
end Bat
end Go.Proofs.YtbodgecbakcaaaaGreatDoor

/- Layer 12, the law: the book and the lists of lists that came out, while asks goes on -/
namespace Go.Proofs.YtbodgecbakcaaaaGreatDoor
open Go.RowKit Go.Shelf
namespace Bat
theorem append_zeroLS (w : World) (x : Value) (hs : Src Tryz.prog 1 41 x 0 [] w) :
    (Builtin.append_ #[41, 41] 41 #[.slice none 0 0, x]).run Tryz.prog w = .ok (.slice none 0 0) w := by
  obtain ⟨i0, hi, hz0, hz1, hz2⟩ := info_parts infoLS
  have hc := hs.cells
  rw [← hz1] at hc
  simp [Builtin.append_, run_underlying Tryz.underlying41, sizeOf, typeInfo, hi, hs.len, hc]
theorem append_noneLS (w : World) (a : Option Addr) (c : Nat) :
    (Builtin.append_ #[41, 41] 41 #[.slice none 0 0, .slice a 0 c]).run Tryz.prog w = .ok (.slice none 0 0) w := by
  refine append_zeroLS w _ ?_
  cases a with
  | none => exact Src.ofNil w Tryz.underlying41 c
  | some x => exact Src.ofSlice w Tryz.underlying41 x 0 c [] (by simp) (fun j u hj => by simp at hj) (fun u hu => by simp at hu)
set_option maxRecDepth 100000 in
set_option maxHeartbeats 4000000 in
theorem still_none (X : Nat) (a : Option Addr) (c : Nat) (vw : Value) (w : World)
    (hX : w.heap[X]? = some (.cells #[.slice a 0 c, vw, .slice none 0 0, .slice none 0 0, .slice none 0 0] 51 (0, 0))) :
    Calls Tryz.prog 29 #[.pointer (some ⟨X, 0, none⟩)] w fun e w' => e = .returned (.bool true) ∧ Keep (fun k => k = X) w w' := by
  have c0 : w.cell? ⟨X, 0, none⟩ = some (.slice a 0 c) := by rw [cell_of_row _ _ _ _ _ _ hX]; rfl
  have c2 : w.cell? ⟨X, 2, none⟩ = some (.slice none 0 0) := by rw [cell_of_row _ _ _ _ _ _ hX]; rfl
  have hap3 := append_noneLS w.drew a c
  obtain ⟨wd, hwd⟩ : ∃ wd, w.drew = wd := ⟨_, rfl⟩
  have hXd : wd.heap[X]? = some (.cells #[.slice a 0 c, vw, .slice none 0 0, .slice none 0 0, .slice none 0 0] 51 (0, 0)) := by rw [← hwd]; exact hX
  have e2 : wd.cell? ⟨X, 2, none⟩ = some (.slice none 0 0) := by rw [cell_of_row _ _ _ _ _ _ hXd]; rfl
  have f2 : wd.frozen? ⟨X, 2, none⟩ = false := frozen_of_row _ _ _ _ _ hXd
  have r4 := heap_setCell_same wd X 2 _ _ (.slice none 0 0) hXd
  have r5 := heap_setCell_same _ X 0 _ _ (.slice none 0 0) r4
  have r6 := heap_setCell_same _ X 1 _ _ (.slice none 0 0) r5
  have g4 : (wd.setCell ⟨X, 2, none⟩ (.slice none 0 0)).cell? ⟨X, 0, none⟩ = some (.slice a 0 c) := by rw [cell_of_row _ _ _ _ _ _ r4]; rfl
  have f4 : (wd.setCell ⟨X, 2, none⟩ (.slice none 0 0)).frozen? ⟨X, 0, none⟩ = false := frozen_of_row _ _ _ _ _ r4
  have g5 : ((wd.setCell ⟨X, 2, none⟩ (.slice none 0 0)).setCell ⟨X, 0, none⟩ (.slice none 0 0)).cell? ⟨X, 1, none⟩ = some vw := by rw [cell_of_row _ _ _ _ _ _ r5]; rfl
  have f5 : ((wd.setCell ⟨X, 2, none⟩ (.slice none 0 0)).setCell ⟨X, 0, none⟩ (.slice none 0 0)).frozen? ⟨X, 1, none⟩ = false := frozen_of_row _ _ _ _ _ r5
  have HBW : Hid (Keep (fun k => k = X) w (((wd.setCell ⟨X, 2, none⟩ (.slice none 0 0)).setCell ⟨X, 0, none⟩ (.slice none 0 0)).setCell ⟨X, 1, none⟩ (.slice none 0 0))) := by
    have b1 : Keep (fun k => k = X) w wd := by rw [← hwd]; exact Keep.ofBelow (Below.refl w.heap.size w).drew
    exact ((b1.trans (Keep.ofSet (S := fun k => k = X) _ X 2 _ rfl) (fun _ _ h => h)).trans (Keep.ofSet (S := fun k => k = X) _ X 0 _ rfl) (fun _ _ h => h)).trans (Keep.ofSet (S := fun k => k = X) _ X 1 _ rfl) (fun _ _ h => h)
  have k2 : (((wd.setCell ⟨X, 2, none⟩ (.slice none 0 0)).setCell ⟨X, 0, none⟩ (.slice none 0 0)).setCell ⟨X, 1, none⟩ (.slice none 0 0)).cell? ⟨X, 2, none⟩ = some (.slice none 0 0) := by rw [cell_of_row _ _ _ _ _ _ r6]; rfl
  have k3 : (((wd.setCell ⟨X, 2, none⟩ (.slice none 0 0)).setCell ⟨X, 0, none⟩ (.slice none 0 0)).setCell ⟨X, 1, none⟩ (.slice none 0 0)).cell? ⟨X, 3, none⟩ = some (.slice none 0 0) := by rw [cell_of_row _ _ _ _ _ _ r6]; rfl
  obtain ⟨W, hW⟩ : ∃ W, ((wd.setCell ⟨X, 2, none⟩ (.slice none 0 0)).setCell ⟨X, 0, none⟩ (.slice none 0 0)).setCell ⟨X, 1, none⟩ (.slice none 0 0) = W := ⟨_, rfl⟩
  rw [hW] at HBW k2 k3
  have HW := hid hW
  clear hX hXd r4 r5 r6 hW
  go_enter Tryz.func29, Tryz.ntmps29
  go_wp2
  go_loopw [3] (fun i w' => i = .int .i64 0 ∧ w' = w) (fun _ _ => 0)
  case atStart => exact ⟨rfl, rfl⟩
  case round =>
    obtain ⟨rfl, hwr⟩ := hrel
    have hwr := hwr.symm
    subst hwr
    go_wp2
    go_cut [5] (fun v w' => v = .int .i64 0 ∧ w' = wd.setCell ⟨X, 2, none⟩ (.slice none 0 0))
    case first =>
      subst hwd
      go_region_law (refine step_append_run rfl _ _ 41 rfl (.slice none 0 0) _ _ _ rfl rfl hap3 ?_)
      all_goals
        go_wp2_with fail
        go_meet
        exact ⟨rfl, rfl⟩
    case rest =>
      obtain ⟨rfl, hwc⟩ := hcut
      subst hwc
      clear c0 c2 hap3 e2 f2
      go_upto_region 11 with fail
      rw [HW.out]
      clear g4 f4 g5 f5
      go_wp2
      go_loopw [6] (fun i w' => i = .int .i64 0 ∧ w' = W) (fun _ _ => 0)
      case atStart => exact ⟨rfl, rfl⟩
      case round =>
        obtain ⟨rfl, hwr⟩ := hrel
        have hwr := hwr.symm
        subst hwr
        go_wp2
        go_loopw [8] (fun i w' => i = .int .i64 0 ∧ w' = W) (fun _ _ => 0)
        case atStart => exact ⟨rfl, rfl⟩
        case round =>
          obtain ⟨rfl, hwr⟩ := hrel
          have hwr := hwr.symm
          subst hwr
          go_wp2
          go_loopw [11] (fun i w' => i = .int .i64 0 ∧ w' = W) (fun _ _ => 0)
          case atStart => exact ⟨rfl, rfl⟩
          case round =>
            obtain ⟨rfl, hwr⟩ := hrel
            have hwr := hwr.symm
            subst hwr
            go_wp2
            go_loopw [13] (fun i w' => i = .int .i64 0 ∧ w' = W) (fun _ _ => 0)
            case atStart => exact ⟨rfl, rfl⟩
            case round =>
              obtain ⟨rfl, hwr⟩ := hrel
              have hwr := hwr.symm
              subst hwr
              go_wp2
              go_ret
              exact ⟨rfl, HBW.out⟩
end Bat
end Go.Proofs.YtbodgecbakcaaaaGreatDoor

/- Layer 12, the law: the book and the lists of lists that came out, while asks goes on -/
namespace Go.Proofs.YtbodgecbakcaaaaGreatDoor
open Go.RowKit Go.Shelf
namespace Bat
structure Om (w : World) (vn : Value) (ns : List Value) (Is : List (List Value)) : Prop where
  lst : OwnM 1 w vn ns.length ns
  len : Is.length = ns.length
  own : ∀ (j : Nat) (v : Value) (I : List Value), ns[j]? = some v → Is[j]? = some I → OwnM 1 w v I.length I ∧ I.length ≤ 256
  ap : ∀ (j : Nat) (v : Value) (k : Nat), ns[j]? = some v → v.ownBlock = some k → vn.ownBlock ≠ some k
  di : ∀ (i j : Nat) (u v : Value) (k : Nat), ns[i]? = some u → ns[j]? = some v → u.ownBlock = some k → v.ownBlock = some k → i = j
theorem Om.nil (w : World) : Om w (.slice none 0 0) [] [] := ⟨OwnM.nil 1 w, rfl, fun j v I e => by simp at e, fun j v k e => by simp at e, fun i j u v k e => by simp at e⟩
theorem Om.lt {w : World} {vn : Value} {ns : List Value} {Is : List (List Value)} (h : Om w vn ns Is) {k : Nat} (hk : NmB vn ns k) : k < w.heap.size := by
  rcases hk with e | ⟨j, v, e1, e2⟩
  · exact h.lst.lt k e
  · exact (h.own j v _ e1 (List.getElem?_eq_getElem (by have := (List.getElem?_eq_some_iff.1 e1).1; have := h.len; omega))).1.lt k e2
theorem Om.kept {w w' : World} {vn : Value} {ns : List Value} {Is : List (List Value)} (h : Om w vn ns Is) (hs : w.heap.size ≤ w'.heap.size) (hb : ∀ k, NmB vn ns k → w'.heap[k]? = w.heap[k]?) : Om w' vn ns Is where
  lst := h.lst.kept hs fun k e => hb k (.inl e)
  len := h.len
  own := fun j v I h1 h2 => ⟨(h.own j v I h1 h2).1.kept hs fun k e => hb k (.inr ⟨j, v, h1, e⟩), (h.own j v I h1 h2).2⟩
  ap := h.ap
  di := h.di
theorem Om.keep {S : Nat → Prop} {w w' : World} {vn : Value} {ns : List Value} {Is : List (List Value)} (h : Om w vn ns Is) (hk : Keep S w w') (hd : ∀ k, NmB vn ns k → ¬ S k) : Om w' vn ns Is :=
  h.kept hk.size fun k e => hk.block k (h.lt e) (hd k e)
structure Cx (w : World) (X : Nat) (vf vw : Value) (us cc : List Value) (Ls : List (List (List UInt8))) (vn : Value) (ns : List Value) (Is : List (List Value)) : Prop where
  bk : Bk w X vf vw us cc Ls
  nm : Om w vn ns Is
  ge : ∀ k, NmB vn ns k → X ≤ k
  ap : ∀ k, BkB X vf vw us cc k → ¬ NmB vn ns k
section
variable {w w' : World} {X : Nat} {vf vw : Value} {us cc : List Value} {Ls : List (List (List UInt8))} {vn : Value} {ns : List Value} {Is : List (List Value)}
theorem Cx.lx (h : Cx w X vf vw us cc Ls vn ns Is) : X < w.heap.size := lt_of_heap h.bk.row
theorem Cx.same (h : Cx w X vf vw us cc Ls vn ns Is) (hs : w.heap.size ≤ w'.heap.size) (hb : ∀ k, X ≤ k → k < w.heap.size → w'.heap[k]? = w.heap[k]?) : Cx w' X vf vw us cc Ls vn ns Is :=
  ⟨h.bk.same hs hb, h.nm.kept hs fun k e => hb k (h.ge k e) (h.nm.lt e), h.ge, h.ap⟩
theorem Cx.below (h : Cx w X vf vw us cc Ls vn ns Is) (hb : Below w.heap.size w w') : Cx w' X vf vw us cc Ls vn ns Is := h.same hb.size fun k _ hk => hb.block k hk
theorem Cx.set (h : Cx w X vf vw us cc Ls vn ns Is) {g : Nat} (hg : g < X) (i : Nat) (v : Value) : Cx (w.setCell ⟨g, i, none⟩ v) X vf vw us cc Ls vn ns Is :=
  h.same (by simp [World.setCell]) fun k hk _ => heap_setCell_other _ _ _ _ (by simp; omega)
theorem Cx.fresh (h : Cx w X vf vw us cc Ls vn ns Is) {v : Value} (hv : ∀ k, v.ownBlock = some k → w.heap.size ≤ k) : Fv X vf vw us cc vn ns v := fun k hk =>
  ⟨fun e => by have := (bk_lt h.bk e).2; have := hv k hk; omega, fun e => by have := h.nm.lt e; have := hv k hk; omega⟩
theorem Cx.took (h : Cx w X vf vw us cc Ls vn ns Is) {vh vf' vw' c : Value} {H : List (List UInt8)} {b : Nat} (T : Took w w' X X vf vw (.slice none 0 0) (.slice none 0 0) (.slice none 0 0) vh us cc H vf' vw' c)
    (ho : Own w b vh (svs H)) (hb : X ≤ b) (hl : H.length ≤ 1000000) (fr : Fv X vf vw us cc vn ns vh) : Cx w' X vf' vw' (us ++ [vh]) (cc ++ [c]) (Ls ++ [H]) vn ns Is ∧ Below X w w' where
  left := {
    bk := h.bk.take T ho hb hl fr.fr
    nm := h.nm.keep T.keep fun k hk e => by
      rcases e with rfl | e | e
      · exact h.ap k (.inl rfl) hk
      · exact h.ap k (.inr (.inl e)) hk
      · exact h.ap k (.inr (.inr (.inl e))) hk
    ge := h.ge
    ap := fun k hk e => by
      rcases took_src T hk with a | a | a
      · exact h.ap k a e
      · exact (fr k a).2 e
      · have := h.nm.lt e; omega }
  right := keep_below T.keep (Nat.le_of_lt h.lx) fun k hk => by
    rcases hk with rfl | e | e
    · exact Nat.le_refl _
    · exact h.bk.free.ge k e
    · exact h.bk.was.ge k e
theorem Cx.push (h : Cx w X vf vw us cc Ls vn ns Is) {vi vn' : Value} {I : List Value} (oi : OwnM 1 w vi I.length I) (hI : I.length ≤ 256) (hX : ∀ k, vi.ownBlock = some k → X ≤ k) (fi : Fv X vf vw us cc vn ns vi) (hg : Grow w w' vn vn') (ho : OwnM 1 w' vn' (ns.length + 1) (ns ++ [vi])) :
    Cx w' X vf vw us cc Ls vn' (ns ++ [vi]) (Is ++ [I]) ∧ Below X w w' := by
  have hk := hg.keepQ
  have hnew : ∀ k, NmB vn' (ns ++ [vi]) k → NmB vn ns k ∨ vi.ownBlock = some k ∨ w.heap.size ≤ k := fun k e => by
    rcases e with e | ⟨j, v, e1, e2⟩
    · rcases hg.new e with e | e
      · exact .inl (.inl e)
      · exact .inr (.inr e)
    · rcases getSnoc e1 with ⟨_, e⟩ | ⟨_, rfl⟩
      · exact .inl (.inr ⟨j, v, e, e2⟩)
      · exact .inr (.inl e2)
  refine ⟨⟨bk_keep h.bk hk (fun k a e => h.ap k a (.inl e)), ?_, fun k e => ?_, fun k a e => ?_⟩, keep_below hk (Nat.le_of_lt h.lx) fun k e => h.ge k (.inl e)⟩
  · refine ⟨by rw [List.length_append]; exact ho, by rw [List.length_append, List.length_append, h.nm.len]; rfl, fun j v J e1 e2 => ?_, fun j v k e1 e2 e3 => ?_, fun i j u v k e1 e2 e3 e4 => ?_⟩
    · rcases getSnoc e1 with ⟨a1, a2⟩ | ⟨a1, rfl⟩
      · rw [List.getElem?_append_left (by rw [h.nm.len]; exact a1)] at e2
        exact ⟨(h.nm.own j v J a2 e2).1.keep hk fun k a => h.nm.ap j v k a2 a, (h.nm.own j v J a2 e2).2⟩
      · rw [a1, ← h.nm.len, List.getElem?_append_right (Nat.le_refl _), Nat.sub_self] at e2
        obtain rfl := Option.some.inj e2
        exact ⟨oi.keep hk fun k a b => (fi k a).2 (.inl b), hI⟩
    · rcases hg.new e3 with e3 | e3
      · rcases getSnoc e1 with ⟨_, a2⟩ | ⟨_, rfl⟩
        · exact h.nm.ap j v k a2 e2 e3
        · exact (fi k e2).2 (.inl e3)
      · rcases getSnoc e1 with ⟨_, a2⟩ | ⟨_, rfl⟩
        · have := h.nm.lt (.inr ⟨j, v, a2, e2⟩); omega
        · have := oi.lt k e2; omega
    · rcases getSnoc e1 with ⟨a1, a2⟩ | ⟨a1, rfl⟩
      · rcases getSnoc e2 with ⟨b1, b2⟩ | ⟨b1, rfl⟩
        · exact h.nm.di i j u v k a2 b2 e3 e4
        · exact absurd (.inr ⟨i, u, a2, e3⟩) (fi k e4).2
      · rcases getSnoc e2 with ⟨b1, b2⟩ | ⟨b1, rfl⟩
        · exact absurd (.inr ⟨j, v, b2, e4⟩) (fi k e3).2
        · omega
  · rcases hnew k e with e | e | e
    · exact h.ge k e
    · exact hX k e
    · have := h.lx; omega
  · rcases hnew k e with e | e | e
    · exact h.ap k a e
    · exact (fi k e).1 a
    · have := (bk_lt h.bk a).2; omega
theorem Cx.still (h : Cx w X vf vw us cc Ls vn ns Is) (h2 : us.length ≤ 1000) :
    Calls Tryz.prog 29 #[.pointer (some ⟨X, 0, none⟩)] w fun e w' => e = .returned (.bool true) ∧ Om w' vn ns Is ∧ Below X w w' := by
  have hS : ∀ k, Sd X us k → BkB X vf vw us cc k := fun k e => by
    rcases e with e | e
    · exact .inl e
    · exact .inr (.inr (.inr (.inl e)))
  rcases Nat.eq_zero_or_pos us.length with h0 | h0
  · obtain rfl : us = [] := List.length_eq_zero_iff.1 h0
    obtain ⟨a, c, e⟩ := h.bk.free.shape
    rw [List.length_nil] at e
    have hr := h.bk.row
    rw [e] at hr
    refine (still_none X a c vw w hr).mono ?_
    rintro e w' ⟨rfl, hk⟩
    exact ⟨rfl, h.nm.keep hk fun k a e => h.ap k (.inl e) a, keep_below hk (Nat.le_of_lt h.lx) fun k e => Nat.le_of_eq e.symm⟩
  · refine (B16.still16_any X X us.length vf vw us cc Ls w h.bk.row h.bk.free h.bk.was rfl (by have := h.bk.l1; have := h.bk.l2; omega) (by have := h.bk.l1; omega) h0 h2 h.bk.own h.bk.cpy (fun i u g a b => (h.bk.apU i u g a b).1) h.bk.di (Nat.le_of_lt h.lx)).mono ?_
    rintro e w' ⟨rfl, hk⟩
    exact ⟨rfl, h.nm.keep hk fun k a e => h.ap k (hS k e) a, keep_below hk (Nat.le_of_lt h.lx) fun k e => (bk_lt h.bk (hS k e)).1⟩
end
theorem Om.owned {w : World} {vn : Value} {ns : List Value} {Is : List (List Value)} (h : Om w vn ns Is) (h0 : 0 < ns.length) (h2 : ns.length ≤ 100) :
    Calls Tryz.prog 30 #[vn] w fun r w' => r = .returned (.bool true) ∧ Keep (Ns ns) w w' := by
  classical
  have hl := h.lst
  rcases hl with ⟨_, e, _⟩ | ⟨gl, cl, rfl, l1, l2, l3, l4, l5, l6⟩
  · omega
  obtain ⟨ρ, r0, r1⟩ : ∃ ρ : Nat → Nat, (∀ k, ¬ Ns ns k → ρ k = 0) ∧ ∀ (j : Nat) (v : Value) (k : Nat), ns[j]? = some v → v.ownBlock = some k → ρ k = 3 + j := by
    refine ⟨fun k => if hh : Ns ns k then 3 + hh.choose else 0, fun k hk => by simp only; rw [dif_neg hk], fun j v k e1 e2 => ?_⟩
    have hh : Ns ns k := ⟨j, v, e1, e2⟩
    simp only
    rw [dif_pos hh]
    obtain ⟨v', a, b⟩ := hh.choose_spec
    rw [h.di _ _ v' v k a e1 b e2]
  have hg : ¬ Ns ns gl := fun ⟨j, v, a, b⟩ => h.ap j v gl a b rfl
  refine Od.owned12_any (Ns ns) w gl ns.length cl ns (fun j => Is.getD j []) ρ ?_ rfl h2 (fun j => ?_)
  · refine ⟨Keep.refl _ _, fun k _ hk => r0 k hk, l4, r0 gl hg, l6, fun j v _ e => ?_, OwnM.nil 1 w, fun k hk => (by cases hk), fun t v e => (by simp at e)⟩
    have hj : Is[j]? = some (Is.getD j []) := by
      have : j < Is.length := by have := (List.getElem?_eq_some_iff.1 e).1; have := h.len; omega
      simp [List.getD, List.getElem?_eq_getElem this]
    exact ⟨(h.own j v _ e hj).1, fun k hk => r1 j v k e hk⟩
  · by_cases hj : j < Is.length
    · have hj2 : j < ns.length := by have := h.len; omega
      have := (h.own j ns[j] Is[j] (List.getElem?_eq_getElem hj2) (List.getElem?_eq_getElem hj)).2
      simp only [List.getD, List.getElem?_eq_getElem hj, Option.getD_some]
      omega
    · simp [List.getD, List.getElem?_eq_none (show Is.length ≤ j by omega)]
end Bat
end Go.Proofs.YtbodgecbakcaaaaGreatDoor
