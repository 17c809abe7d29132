import Derived.Test.YtdbbemcddhgbcaaGreatDoorPpR4
import Derived.Test.YtdbbemcddhgbcaaGreatDoorPpNB4
import Derived.Deep.QuietTactic
namespace Go.Proofs.YtdbbemcddhgbcaaGreatDoor
open Go.RowKit

theorem beSt_step (l : List Nat) (k : Nat) (h : k < l.length) : ((l.take (k + 1)).map (Sha.be · 4)).flatten = ((l.take k).map (Sha.be · 4)).flatten ++ Sha.be (l.getD k 0) 4 := by
  rw [List.take_succ_eq_append_getElem h, List.map_append, List.flatten_append, List.getD_eq_getElem?_getD, List.getElem?_eq_getElem h]
  simp
theorem beSt_all (s : Sha.St) : (s.l.map (Sha.be · 4)).flatten = s.bytes := by
  simp [Sha.St.l, Sha.St.bytes]
theorem beSt_len (l : List Nat) (k : Nat) : ((l.take k).map (Sha.be · 4)).flatten.length ≤ 4 * k := by
  induction k with
  | zero => simp
  | succ k ih =>
    by_cases h : k < l.length
    · rw [beSt_step l k h, List.length_append, Sha.be_length]; omega
    · rw [List.take_of_length_le (by omega)] at ih ⊢; omega

/-- the reference's Sum: behind k blocks -/
structure RSum (t : List UInt8) (w : World) (H : Nat) (k : Nat) (w' : World) : Prop where
  h : w'.heap[H]? = some (.cells (nv (Sha.foldAll Sha.iv k t).l).toArray 92 (0, 0))
  ge : w.heap.size ≤ H
  below : Below w.heap.size w w'
theorem mid_size' (s : ByteArray) (a b : Nat) (h : b ≤ s.size) : (s.extract a b).size = b - a := by
  rw [← data_length, Lib.extract_data, List.length_take, List.length_drop, data_length]; omega
theorem foldAll_ok : ∀ (k : Nat) (s : Sha.St) (l : List UInt8), s.ok → (Sha.foldAll s k l).ok
  | 0, _, _, h => h
  | k + 1, _, _, _ => foldAll_ok k _ _ (Sha.fold_ok _ _)

theorem rsum_start {t : List UInt8} {w w1 w2 w3 : World} {Z : Array Value} (hW : (w2.alloc (.cells Z 92)).setRow w2.heap.size (nv Sha.iv.l).toArray = w3) (hw1 : Below w.heap.size w w1) (hw2 : Below w1.heap.size w1 w2) : RSum t w w2.heap.size 0 w3 := by
  subst hW
  have s1 := hw1.size
  have s2 := hw2.size
  exact ⟨setRow_heap _ _ _ _ _ _ (heap_alloc_new w2 _), by omega, Below.setRow (((hw1.trans (hw2.mono (by omega)))).alloc (by omega) _) (by omega) _⟩
theorem store_nv (P : Program) (b : Nat) (F : Sha.St) (w : World) (h : w.there b 0 8) : (storeCells ⟨b, 0, none⟩ (nv F.l)).run P w = .ok () (w.setCells b 0 (nv F.l)) := by
  have h8 : (nv F.l).length = 8 := by simp [Sha.St.l]
  have := run_storeCells_cells (P := P) b 0 (nv F.l) 0 w (fun j hj => by simpa using (h j (by omega)).1) (fun j hj => by simpa using (h j (by omega)).2) (fun v hv => nv_mem hv)
  simpa using this
theorem block_at (s F : Sha.St) (hs : s.ok) (bl : ByteArray) (hb : bl.size = 64) (hF : Hid (Sha.fold s bl.data.toList = F)) (w : World) :
    Calls Tryz.prog 64 #[.agg (nv s.l).toArray, .string bl] w fun e w' => e = .returned (.agg (nv F.l).toArray) ∧ Below w.heap.size w w' := by
  have := block_any s hs bl hb w
  rwa [hF.out] at this
theorem heap_setNv {w : World} {b : Nat} {st F : Sha.St} (hh : w.heap[b]? = some (.cells (nv st.l).toArray 92 (0, 0))) :
    (w.setCells b 0 (nv F.l)).heap[b]? = some (.cells (nv F.l).toArray 92 (0, 0)) := by
  have := heap_setCells b 92 (nv F.l) [] (nv st.l) [] w (by simp [Sha.St.l]) (by simpa using hh)
  simpa using this

set_option maxRecDepth 100000 in
set_option maxHeartbeats 1000000 in
theorem rsum_any (s : ByteArray) (hs : s.size ≤ 140737488355000) (w : World) :
    Calls Tryz.prog 40 #[.string s] w fun e w' => e = .returned (sv (Sha.sha s.data.toList)) ∧ Below w.heap.size w w' := by
  have hfm := Sha.filling_mod s.size
  obtain ⟨t, ht⟩ : ∃ t, t = s.data.toList ++ Sha.filling s.size := ⟨_, rfl⟩
  have htl : t.length = s.size + (Sha.filling s.size).length := by rw [ht, List.length_append, data_length]
  have hsha := hid (show Sha.sha s.data.toList = (Sha.foldAll Sha.iv (t.length / 64) t).bytes by rw [Sha.sha, htl, ht, data_length])
  obtain ⟨m, hm⟩ : ∃ m, t.length = 64 * m := ⟨t.length / 64, by omega⟩
  have hml : m ≤ 140737488355328 := by omega
  have hF := hid (show t.length / 64 = m by omega)
  go_enter Tryz.func40, Tryz.ntmps40
  go_wp2_with (go_at_call 62; fail)
  refine (filled_any s hs _).mono ?_
  rintro e w1 ⟨rfl, hw1⟩
  rw [← ht]
  have HM := hid hm
  have hsv : sv t = .string ⟨t.toArray⟩ := rfl
  have hts : (ByteArray.mk t.toArray).size = 64 * m := by rw [sv_size]; exact hm
  have htd : (ByteArray.mk t.toArray).data.toList = t := sv_data t
  rw [hsv]
  have Htd := hid htd
  generalize ByteArray.mk t.toArray = tb at *
  clear ht htl hm hsv htd hfm
  have s1 := hw1.size
  go_wp2_with (first
    | (go_at_call 63; refine (begins_any _).mono ?_; rintro e w2 ⟨rfl, hw2⟩)
    | (with_reducible show wpList _ _ _ (Oper.mk _ (Op.store 92 _ _) _ _ _ _ :: _) _ _; go_must (refine wpList_store_row rfl 92 _ _ rfl w2.heap.size _ rfl rfl 92 _ (heap_alloc_new w2 _) (size8n rfl) (by rw [nv8_size]; decide +kernel) (nv_one _) ?_); go_must (generalize hW : (w2.alloc _).setRow w2.heap.size (nv Sha.iv.l).toArray = w3; have inv := rsum_start (t := t) hW hw1 hw2; have inv0 := hid inv; clear hW hw1 hw2 inv; generalize w2.heap.size = H at *)))
  go_loopw [5] (fun i w' => ∃ k : Nat, k ≤ m ∧ i = .int .i64 ((64 * k : Nat) : Int) ∧ RSum t w H k w') (fun i _ => 64 * m - (intOf i).toNat)
  case atStart => exact ⟨0, by omega, rfl, inv0.out⟩
  case round =>
    clear inv0
    obtain ⟨k, hk, rfl, inv⟩ := hrel
    have Inv := hid inv
    by_cases hlt : k < m
    · have b0 : ((64 * k : Nat) : Int) < ((64 * m : Nat) : Int) := by omega
      have b1 : ((64 * k : Nat) : Int) + 64 ≤ ((64 * m : Nat) : Int) := by omega
      have t1 : (64 * (k : Int) + 64).toNat = 64 * k + 64 := by omega
      have t2 : (64 * (k : Int)).toNat = 64 * k := by omega
      have d0 : (0 : Int) ≤ 64 * (k : Int) := by omega
      have d1 : 64 * (k : Int) ≤ 64 * (k : Int) + 64 := by omega
      have d2 : 64 * (k : Int) + 64 ≤ 64 * (m : Int) := by omega
      have d3 : IntKind.i64.wrap (64 * (k : Int) + 64) = 64 * (k : Int) + 64 := wrap_small _ (by omega) (by omega)
      obtain ⟨gg, hgg⟩ : ∃ gg, gg = tb.extract (64 * k) (64 * k + 64) := ⟨_, rfl⟩
      have hgs : gg.size = 64 := by rw [hgg, mid_size' _ _ _ (by omega)]; omega
      have Hgd := hid (show gg.data.toList = (t.drop (64 * k)).take 64 by rw [hgg, Lib.extract_data, Htd.out]; congr 1; omega)
      have hge := hgg.symm
      clear hgg
      have hok := foldAll_ok k Sha.iv t Sha.iv_ok
      have Hlast := hid (Sha.foldAll_last k Sha.iv t)
      have hh := inv.h
      generalize Sha.foldAll Sha.iv k t = st at *
      obtain ⟨F, hF⟩ : ∃ F, Sha.fold st gg.data.toList = F := ⟨_, rfl⟩
      have HF := hid hF
      clear hF
      have z0 := nv_cell hh 0 (by simp [Sha.St.l])
      have z1 := nv_cell hh 1 (by simp [Sha.St.l])
      have z2 := nv_cell hh 2 (by simp [Sha.St.l])
      have z3 := nv_cell hh 3 (by simp [Sha.St.l])
      have z4 := nv_cell hh 4 (by simp [Sha.St.l])
      have z5 := nv_cell hh 5 (by simp [Sha.St.l])
      have z6 := nv_cell hh 6 (by simp [Sha.St.l])
      have z7 := nv_cell hh 7 (by simp [Sha.St.l])
      simp only [Sha.St.l, List.getD_cons_zero, List.getD_cons_succ] at z0 z1 z2 z3 z4 z5 z6 z7
      have Hh := hid hh
      have hlH := lt_of_heap hh
      have Th := hid (there_of_row hh 0 8 (by rw [nv8_size]; omega))
      have Hok := hid hok
      have hstore := store_nv Tryz.prog H F
      clear hh inv hok
      go_wp2
      go_region_with (go_at_call 64; refine (block_at st F Hok.out gg hgs HF _).mono ?_; rintro e w4 ⟨rfl, hw4⟩; have th4 := there_below (w := wr.drew) Th.out hw4 hlH)
      have hh5 : (w4.setCells H 0 (nv F.l)).heap[H]? = some (.cells (nv F.l).toArray 92 (0, 0)) := heap_setNv ((hw4.block H hlH).trans Hh.out)
      have hbw : Below w.heap.size w w4 := Inv.out.below.drew.trans (hw4.mono Inv.out.below.size)
      have hb5 : Below w.heap.size w (w4.setCells H 0 (nv F.l)) := hbw.trans ((But.setCells (nv F.l) 0 (But.refl H w4)).below Inv.out.ge hbw.size)
      have Hh5 := hid hh5
      have Hb5 := hid hb5
      clear hh5 hb5 hbw th4 hw4 hstore z0 z1 z2 z3 z4 z5 z6 z7
      generalize w4.setCells H 0 (nv F.l) = w5 at *
      go_wp2
      refine ⟨⟨k + 1, by omega, by go_num, ?_, Inv.out.ge, Hb5.out⟩, by simp [intOf]; omega⟩
      rw [Hlast.out, ← Hgd.out, HF.out]; exact Hh5.out
    · obtain rfl : k = m := by omega
      have b0 : ¬ ((64 * k : Nat) : Int) < ((64 * k : Nat) : Int) := by omega
      have hok := foldAll_ok k Sha.iv t Sha.iv_ok
      rw [hF.out] at hsha
      have hH := inv.h
      have hge := inv.ge
      have hbl := inv.below
      clear inv Inv
      generalize Sha.foldAll Sha.iv k t = D at *
      have HH := hid hH
      have Hbl := hid hbl
      clear hH hbl
      go_wp2
      go_loopw [6, 7] (fun o i w' => ∃ j : Nat, j ≤ 8 ∧ i = .int .i64 j ∧ o = sv (((D.l.take j).map (Sha.be · 4)).flatten) ∧ Hid (w'.heap[H]? = some (.cells (nv D.l).toArray 92 (0, 0))) ∧ Hid (Below w.heap.size w w')) (fun _ i _ => 8 - (intOf i).toNat)
      case atStart => exact ⟨0, by omega, rfl, rfl, HH, Hbl⟩
      case round =>
        clear HH Hbl
        obtain ⟨j, hj, rfl, rfl, hh, hbl⟩ := hrel
        by_cases hj8 : j < 8
        · have b8 : (j : Int) < 8 := by omega
          obtain ⟨x, ex, lx, cx⟩ : ∃ y : Nat, Hid (y = D.l.getD j 0) ∧ y < 4294967296 ∧ wr.cell? ⟨H, j, none⟩ = some (.int .i64 (y : Int)) := ⟨_, rfl, Sha.l_lt hok j, nv_cell hh.out j (by simpa [Sha.St.l] using hj8)⟩
          have hlH := lt_of_heap hh.out
          have hst := beSt_step D.l j (by simpa [Sha.St.l] using hj8)
          rw [← ex.out] at hst
          have hle := beSt_len D.l j
          have hadd := add_sv Tryz.prog 9 ((D.l.take j).map (Sha.be · 4)).flatten (Sha.be x 4) (by rw [Sha.be_length]; omega)
          rw [← hst] at hadd
          clear hst hle
          generalize hA : ((D.l.take j).map (Sha.be · 4)).flatten = A at *
          generalize hA' : ((D.l.take (j + 1)).map (Sha.be · 4)).flatten = A' at *
          have HA' := hid hA'
          clear hA hA'
          go_wp2_with (go_at_call 65; refine (big4 x _ rfl _).mono ?_; rintro e w4 ⟨rfl, hw4⟩)
          refine ⟨⟨j + 1, by omega, by go_num, by rw [HA'.out], ?_, ?_⟩, by simp [intOf]; omega⟩
          · exact (hw4.block H hlH).trans hh.out
          · exact hbl.out.trans (hw4.mono hbl.out.size)
        · obtain rfl : j = 8 := by omega
          go_wp2
          go_ret
          refine ⟨?_, hbl.out⟩
          show Ending.returned (sv ((D.l.take 8).map (Sha.be · 4)).flatten) = _
          rw [hsha.out, show D.l.take 8 = D.l from rfl, beSt_all]
end Go.Proofs.YtdbbemcddhgbcaaGreatDoor

namespace Go.Proofs.YtdbbemcddhgbcaaGreatDoor
open Go.RowKit

theorem app_data (a b : ByteArray) : (a ++ b).data.toList = a.data.toList ++ b.data.toList := by
  have h := ByteArray.mk_append_mk a.data.toList b.data.toList
  rw [Array.toArray_toList, Array.toArray_toList] at h
  have h2 : a ++ b = ⟨(a.data.toList ++ b.data.toList).toArray⟩ := h
  rw [h2]
theorem app_size (a b : ByteArray) : (a ++ b).size = a.size + b.size := by rw [← data_length, app_data, List.length_append, data_length, data_length]
theorem joined_size (l r : ByteArray) (hl : l.size = 32) (hr : r.size = 32) : ({ data := #[1] } ++ l ++ r : ByteArray).size = 65 := by
  rw [app_size, app_size, hl, hr]; rfl
theorem joined_data (l r : ByteArray) : ({ data := #[1] } ++ l ++ r : ByteArray).data.toList = 1 :: (l.data.toList ++ r.data.toList) := by
  rw [app_data, app_data, List.append_assoc]; rfl
theorem rsum_at (s : ByteArray) (D : List UInt8) (hs : s.size ≤ 140737488355000) (hD : Hid (Sha.sha s.data.toList = D)) (w : World) :
    Calls Tryz.prog 40 #[.string s] w fun e w' => e = .returned (sv D) ∧ Below w.heap.size w w' := by
  have := rsum_any s hs w
  rwa [hD.out] at this
end Go.Proofs.YtdbbemcddhgbcaaGreatDoor

namespace Go.Proofs.YtdbbemcddhgbcaaGreatDoor
open Go.RowKit

theorem node_sv (l r : List UInt8) (w : World) (T : Tabs w) :
    Calls Tryz.prog 198 #[sv l, sv r] w fun e w' => e = .returned (.tuple #[sv (nodeOf l r).1, .int .i64 (nodeOf l r).2]) ∧ Below w.heap.size w w' :=
  node_any ⟨l.toArray⟩ ⟨r.toArray⟩ w T
theorem eq_sv (P : Program) (t : TypeId) (a : List UInt8) (w : World) : (binOp .eql t (sv a) (sv a)).run P w = .ok (.bool true) w := by
  rw [sv, binOp_string_eql]; simp [go_sem]
theorem node_at {l r n : List UInt8} {c : Int} (h : Hid (nodeOf l r = (n, c))) (w : World) (T : Tabs w) :
    Calls Tryz.prog 198 #[sv l, sv r] w fun e w' => e = .returned (.tuple #[sv n, .int .i64 c]) ∧ Below w.heap.size w w' := by
  have := node_sv l r w T
  rwa [h.out] at this
end Go.Proofs.YtdbbemcddhgbcaaGreatDoor

namespace Go.Proofs.YtdbbemcddhgbcaaGreatDoor
open Go.RowKit

/-- a slice of texts, wherever it lies -/
def Slc (w : World) (v : Value) (ps : List (List UInt8)) : Prop :=
  ∃ a cap, v = .slice a ps.length cap ∧ ∀ j p, ps[j]? = some p → ∃ x : Addr, a = some x ∧ x.block < w.heap.size ∧ w.cell? (x.add j) = some (sv p)
theorem add_block (x : Addr) (j : Nat) : (x.add j).block = x.block := by unfold Addr.add; split <;> rfl
theorem Slc.below {w w' : World} {v : Value} {ps : List (List UInt8)} {B : Nat} (h : Slc w v ps) (hb : Below B w w') (hB : w.heap.size ≤ B) : Slc w' v ps := by
  obtain ⟨a, cap, rfl, h⟩ := h
  refine ⟨a, cap, rfl, fun j p hp => ?_⟩
  obtain ⟨x, rfl, hx, hc⟩ := h j p hp
  exact ⟨x, rfl, Nat.lt_of_lt_of_le hx hb.size, (hb.cell (p := x.add j) (by rw [add_block]; omega)).trans hc⟩
theorem Slc.of_texts {w : World} {g o cap : Nat} {ps : List (List UInt8)} (hg : g < w.heap.size) (h : Texts w g o ps) : Slc w (.slice (some ⟨g, o, none⟩) ps.length cap) ps :=
  ⟨_, cap, rfl, fun j p hp => ⟨_, rfl, hg, by rw [Addr.add_mid]; exact h j p hp⟩⟩

theorem emptyData : (ByteArray.mk #[]).data.toList = ([] : List UInt8) := rfl
theorem emptySize : (ByteArray.mk #[]).size = 0 := rfl
theorem rsum_nil {D : List UInt8} (hD : Hid (Sha.sha [] = D)) (w : World) :
    Calls Tryz.prog 40 #[.string ⟨#[]⟩] w fun e w' => e = .returned (sv D) ∧ Below w.heap.size w w' := by
  have h := rsum_any ⟨#[]⟩ (by rw [emptySize]; omega) w
  rw [emptyData, hD.out] at h
  exact h
theorem zero_size (l : ByteArray) : ({ data := #[0] } ++ l : ByteArray).size = 1 + l.size := by
  rw [app_size]; rfl
theorem zero_data (l : ByteArray) : ({ data := #[0] } ++ l : ByteArray).data.toList = 0 :: l.data.toList := by
  rw [app_data]; rfl
end Go.Proofs.YtdbbemcddhgbcaaGreatDoor

namespace Go.Proofs.YtdbbemcddhgbcaaGreatDoor
open Go.RowKit

def svs (L : List (List UInt8)) : List Value := L.map sv
theorem svs_length (L : List (List UInt8)) : (svs L).length = L.length := by simp [svs]
theorem svs_mem {L : List (List UInt8)} {v : Value} (h : v ∈ svs L) : v.oneCell' = true := by
  simp only [svs, List.mem_map] at h
  obtain ⟨n, _, rfl⟩ := h
  rfl
/-- a row of texts -/
def Row (w : World) (H : Nat) (L : List (List UInt8)) : Prop := w.heap[H]? = some (.cells (svs L).toArray 9 (0, 0))
theorem Row.lt {w : World} {H : Nat} {L : List (List UInt8)} (h : Row w H L) : H < w.heap.size := lt_of_heap h
theorem Row.cell {w : World} {H : Nat} {L : List (List UInt8)} (h : Row w H L) {j : Nat} {p : List UInt8} (hp : L[j]? = some p) : w.cell? ⟨H, j, none⟩ = some (sv p) := by
  rw [cell_of_row _ _ _ _ _ _ h]; simp [svs, hp]
theorem Row.texts {w : World} {H : Nat} {L : List (List UInt8)} (h : Row w H L) (n : Nat) : Texts w H 0 (L.take n) := fun j p hp => by
  rw [Nat.zero_add]
  refine h.cell ?_
  rw [List.getElem?_take] at hp
  split at hp
  · exact hp
  · cases hp
theorem Row.free {w : World} {H : Nat} {L : List (List UInt8)} (h : Row w H L) {j : Nat} (hj : j < L.length) : w.frozen? ⟨H, j, none⟩ = false := by
  have := (there_of_row h 0 L.length (by simp [svs])) j hj
  rw [Nat.zero_add] at this
  exact this.2
theorem Row.below {w w' : World} {H B : Nat} {L : List (List UInt8)} (h : Row w H L) (hb : Below B w w') (hB : H < B) : Row w' H L := by
  unfold Row; rw [hb.block H hB]; exact h
theorem Row.set {w : World} {H : Nat} {L : List (List UInt8)} (h : Row w H L) (k : Nat) (x : List UInt8) : Row (w.setCell ⟨H, k, none⟩ (sv x)) H (L.set k x) := by
  have e := setCell_eq_setRow w H k (svs L).toArray 9 (0, 0) (sv x) h
  unfold Row
  rw [e, setRow_heap _ _ _ _ _ _ h]
  congr 2
  simp [svs, List.map_set]
theorem infoS : (Tryz.prog.info? 9).map (fun i => (i.zero, i.size, i.bytes)) = some (some (.string ⟨#[]⟩), 1, 16) := by kernel_rfl
theorem infoS1 : (Tryz.prog.info? 9).map (·.size) = some 1 := by kernel_rfl
set_option maxRecDepth 100000 in
/-- make([]string, c) -/
theorem make_texts (w : World) (c : Nat) (hc : c ≤ 20000000) :
    (Instr.makeSlice 70 (.int .i64 (c : Int)) (.int .i64 (c : Int))).run Tryz.prog w = .ok (.slice (some ⟨w.heap.size, 0, none⟩) c c) (w.alloc (.cells (svs (List.replicate c [])).toArray 9)) := by
  obtain ⟨i0, hi, hz0, hz1, hz2⟩ := info_parts infoS
  have h := run_make (P := Tryz.prog) w 70 9 i0 (.string ⟨#[]⟩) Tryz.underlying70 hi hz0 .i64 .i64 (c : Int) (c : Int) (by omega) (by omega) (by rw [hz2]; omega) (by omega)
  rw [Int.toNat_natCast, hz1, Nat.mul_one] at h
  rw [h]
  congr 3
  apply Array.ext'
  rw [show (madeCells (Value.string ⟨#[]⟩).cells c).toList = List.replicate c (.string ⟨#[]⟩) from toList_madeCells_one _ _]
  simp [svs]; exact .inr rfl
set_option maxRecDepth 100000 in
/-- copy(all, parts) -/
theorem copy_texts (w : World) (H : Nat) (v : Value) (ps rest : List (List UInt8)) (hs : Slc w v ps) (hR : Row w H (List.replicate ps.length [] ++ rest)) (m cap : Nat) (hm : m = ps.length + rest.length) :
    ∃ w', (Builtin.copy_ #[70, 70] 3 #[.slice (some ⟨H, 0, none⟩) m cap, v]).run Tryz.prog w = .ok (goInt ps.length) w' ∧ Row w' H (ps ++ rest) ∧ But H w w' := by
  obtain ⟨a, cap', rfl, hs⟩ := hs
  by_cases h0 : ps.length = 0
  · obtain rfl : ps = [] := List.length_eq_zero_iff.1 h0
    exact ⟨w, run_copy_none (P := Tryz.prog) w _ _ _ 9 _ _ _ _ _ _ Tryz.underlying70 infoS1 (by simp), by simpa using hR, But.refl _ _⟩
  · obtain ⟨x, rfl, hx, _⟩ := hs 0 _ (List.getElem?_eq_getElem (by omega))
    have h := run_copy_row (P := Tryz.prog) w 70 70 3 9 H 0 m cap x ps.length cap' _ 9 (svs ps) Tryz.underlying70 infoS1 hR
      (by rw [svs_length]; exact (Nat.min_eq_left (by omega)).symm) (fun j u hu => by
        simp only [svs, List.getElem?_map, Option.map_eq_some_iff] at hu
        obtain ⟨p, hp, rfl⟩ := hu
        obtain ⟨y, hy, _, hc⟩ := hs j p hp
        cases hy
        exact hc) (by simp [svs]) (fun u hu => svs_mem hu)
    refine ⟨_, h.trans (by rw [svs_length]), ?_, (But.refl _ _).setRow _⟩
    unfold Row
    rw [setRow_heap _ _ _ _ _ _ hR]
    congr 2
    simp [svs]
end Go.Proofs.YtdbbemcddhgbcaaGreatDoor

namespace Go.Proofs.YtdbbemcddhgbcaaGreatDoor
open Go.RowKit

def behind : List UInt8 := [98, 101, 104, 105, 110, 100]
theorem behind_sv : Value.string { data := #[98, 101, 104, 105, 110, 100] } = sv behind := rfl
/-- the list `all`: the parts ahead, "behind" in the places n to k -/
structure AllP (n : Nat) (ps : List (List UInt8)) (k : Nat) (L : List (List UInt8)) : Prop where
  len : L.length = n + 8
  fst : L.take n = ps
  snd : ∀ j, n ≤ j → j < k → L[j]? = some behind
theorem AllP.start (ps : List (List UInt8)) : AllP ps.length ps ps.length (ps ++ List.replicate 8 []) :=
  ⟨by simp, by simp, fun j h1 h2 => by omega⟩
theorem AllP.step {n k : Nat} {ps L : List (List UInt8)} (h : AllP n ps k L) (hk : n ≤ k) (hk8 : k < n + 8) : AllP n ps (k + 1) (L.set k behind) :=
  ⟨by rw [List.length_set]; exact h.len, by rw [List.take_set_of_le hk]; exact h.fst, fun j h1 h2 => by
    rw [List.getElem?_set]
    have := h.len
    by_cases e : k = j
    · rw [if_pos e, if_pos (by omega)]
    · rw [if_neg e]; exact h.snd j h1 (by omega)⟩

theorem sum_at {g o cap n : Nat} {ps : List (List UInt8)} {d : ByteArray} (hD : Hid (sv (Sha.sha ps.flatten) = .string d)) (hn : ps.length = n) (hlen : total ps < 2305843009213693800) (hps : ps.length ≤ 9223372036854775807) (w : World) (T : Tabs w) (hg : g < w.heap.size) (hp : Texts w g o ps) :
    Calls Tryz.prog 131 #[.slice (some ⟨g, o, none⟩) n cap] w fun e w' => e = .returned (.string d) ∧ Below w.heap.size w w' := by
  subst hn
  have h := sum_any g o cap ps hlen hps w T hg hp
  rwa [hD.out] at h
theorem rsum_sv {t : List UInt8} {d : ByteArray} (hD : Hid (sv (Sha.sha t) = .string d)) (ht : t.length ≤ 140737488355000) (w : World) :
    Calls Tryz.prog 40 #[sv t] w fun e w' => e = .returned (.string d) ∧ Below w.heap.size w w' := by
  have h := rsum_any ⟨t.toArray⟩ (by rw [sv_size]; exact ht) w
  rw [sv_data, hD.out] at h
  exact h
theorem leaf_sv {t : List UInt8} {d : ByteArray} (hD : Hid (sv (Sha.sha (0 :: t)) = .string d)) (ht : t.length ≤ 2305843009213690000) (w : World) (T : Tabs w) :
    Calls Tryz.prog 109 #[sv t] w fun e w' => e = .returned (.string d) ∧ Below w.heap.size w w' := by
  have h := leaf_any ⟨t.toArray⟩ (by rw [sv_size]; exact ht) w T
  rw [sv_data, hD.out] at h
  exact h
theorem AllP.bound {n k : Nat} {ps L : List (List UInt8)} (h : AllP n ps k L) (hk : n + 8 ≤ k) (ht : total ps ≤ 1048576) : ∀ p ∈ L, p.length ≤ 1048576 := by
  intro p hp
  obtain ⟨j, hj⟩ := List.getElem?_of_mem hp
  have hl := h.len
  have hjl := (List.getElem?_eq_some_iff.1 hj).1
  by_cases e : j < n
  · have hj2 : ps[j]? = some p := by rw [← h.fst, List.getElem?_take, if_pos e]; exact hj
    obtain ⟨hj3, hj4⟩ := List.getElem?_eq_some_iff.1 hj2
    have := total_take ps j hj3
    rw [hj4] at this
    omega
  · rw [h.snd j (by omega) (by omega)] at hj
    cases hj; decide
theorem total_le {L : List (List UInt8)} (h : ∀ p ∈ L, p.length ≤ 1048576) : total L ≤ L.length * 1048576 := by
  induction L with
  | nil => simp [total]
  | cons a l ih =>
    have h1 := h a (by simp)
    have h2 := ih (fun p hp => h p (by simp [hp]))
    simp only [total, List.flatten_cons, List.length_append, List.length_cons] at *
    omega
/-- the list behind the second loop: written over -/
structure Over (n : Nat) (L : List (List UInt8)) : Prop where
  len : L.length = n + 8
  le : ∀ p ∈ L, p.length ≤ 1048576
theorem Over.set {n : Nat} {L : List (List UInt8)} (h : Over n L) (k : Nat) {x : List UInt8} (hx : x.length ≤ 1048576) : Over n (L.set k x) :=
  ⟨by rw [List.length_set]; exact h.len, fun p hp => (List.mem_or_eq_of_mem_set hp).elim (h.le p) (fun e => e ▸ hx)⟩
theorem below_drewN {B : Nat} {a w : World} (h : Below B a w) (n : Nat) : Below B a (w.drewN n) := ⟨h.os, h.tape, h.output, h.size, h.block⟩
theorem x_sv : Value.string { data := #[120] } = sv [120] := rfl
theorem cell_setCell_other (w : World) (a b : Addr) (v : Value) (h : b.block ≠ a.block) : (w.setCell a v).cell? b = w.cell? b := World.cell?_of_block (w := w) (Below.heap_setCell w a v b.block h)

end Go.Proofs.YtdbbemcddhgbcaaGreatDoor

namespace Go.Proofs.YtdbbemcddhgbcaaGreatDoor
open Go.RowKit

/-- which of n things -/
def pk (c n : Int) : Int := (if c < 0 then -(c + 1) else c) % n
theorem pk_nonneg (c n : Int) (hn : 0 < n) : 0 ≤ pk c n := Int.emod_nonneg _ (by omega)
theorem pk_lt (c n : Int) (hn : 0 < n) : pk c n < n := Int.emod_lt_of_pos _ hn
/-- append(parts, s) -/
theorem append_text (w : World) (base : Nat) (v : Value) (L : List (List UInt8)) (p : List UInt8) (C : Array Value) (hC : C = #[sv p]) (hown : Own w base v (svs L)) (hlen : L.length ≤ 2000000) (hbase : base ≤ w.heap.size) :
    ∃ v' w', (Builtin.append_ #[70, 70] 70 #[v, .slice (some ⟨w.heap.size, 0, none⟩) 1 1]).run Tryz.prog (w.alloc (.cells C 9)) = .ok v' w' ∧ Own w' base v' (svs (L ++ [p])) ∧ Below base w w' := by
  subst hC
  obtain ⟨i0, hi, hz0, hz1, hz2⟩ := info_parts infoS
  have hsrc : Src Tryz.prog 1 70 (.slice (some ⟨w.heap.size, 0, none⟩) 1 1) 1 [sv p] (w.alloc (.cells #[sv p] 9)) :=
    Src.ofSlice _ Tryz.underlying70 ⟨w.heap.size, 0, none⟩ 1 1 [sv p] (by simp) (fun j u hj => by
      rw [Addr.add_mid, cell_of_row _ _ _ _ _ _ (heap_alloc_new w _), Nat.zero_add]; simpa using hj) (fun u hu => by simp at hu; subst hu; rfl)
  obtain ⟨v', w', h1, h2, h3, h4⟩ := run_append_O (P := Tryz.prog) (w.alloc (.cells #[sv p] 9)) base 70 70 70 9 i0 (.string ⟨#[]⟩) Tryz.underlying70 hi hz0 hz1 rfl v (svs L) (hown.alloc _) _ 1 [sv p] hsrc
    (by rw [svs_length, hz2]; omega) (by rw [svs_length, maxLen]; omega) (by rw [size_alloc]; omega) (fun _ => by omega)
  refine ⟨v', w', h1, by simpa [svs] using h2, ?_⟩
  exact ((Below.refl base w).alloc hbase _).trans (Below.ofGrown h3 hown.ge (by rw [size_alloc]; omega))
end Go.Proofs.YtdbbemcddhgbcaaGreatDoor

namespace Go.Proofs.YtdbbemcddhgbcaaGreatDoor
open Go.RowKit

/-- a slice of whole numbers, wherever it lies -/
def SlcI (w : World) (v : Value) (cs : List Int) : Prop :=
  ∃ a cap, v = .slice a cs.length cap ∧ ∀ j c, cs[j]? = some c → ∃ x : Addr, a = some x ∧ x.block < w.heap.size ∧ w.cell? (x.add j) = some (.int .i64 c)
theorem texts1 (w : World) (a : List UInt8) (t : TypeId) : Texts (w.alloc (.cells #[sv a] t)) w.heap.size 0 [a] := fun j p h => by
  rw [cell_of_row _ _ _ _ _ _ (heap_alloc_new w _), Nat.zero_add]
  match j, h with
  | 0, h => obtain rfl := Option.some.inj h; rfl
theorem hsum_sv {b : Nat} {t : List UInt8} {d : ByteArray} (hD : Hid (sv (Sha.sha t) = .string d)) (hlen : t.length < 2305843009213693800) (w : World) (T : Tabs w) (hb : Has b t w) :
    Calls Tryz.prog 158 #[.pointer (some ⟨b, 0, none⟩)] w fun e w' => e = .returned (.string d) ∧ Below w.heap.size w w' := by
  have h := hsum_any b t hlen w T hb
  rwa [hD.out] at h
theorem take_mid (l : List UInt8) (a r : Nat) : l.take a ++ (l.drop a).take r = l.take (a + r) := by rw [List.take_add]
theorem take_end (l : List UInt8) (a : Nat) (h : a ≤ l.length) : l.take a ++ (l.drop a).take (l.length - a) = l := by rw [← List.take_add, show a + (l.length - a) = l.length by omega, List.take_length]
theorem sha_size {t : List UInt8} {d : ByteArray} (h : sv (Sha.sha t) = .string d) : d.size = 32 := by
  have e : ByteArray.mk (Sha.sha t).toArray = d := by injection h
  rw [← e, sv_size, Sha.sha_length]

end Go.Proofs.YtdbbemcddhgbcaaGreatDoor
