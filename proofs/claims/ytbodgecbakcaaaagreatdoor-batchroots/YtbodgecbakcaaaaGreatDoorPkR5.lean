import Derived.Test.YtbodgecbakcaaaaGreatDoorPkR4
import Derived.Test.YtbodgecbakcaaaaGreatDoorPkO1
import Derived.Lib.Strings
import Derived.Lib.Slices
import Derived.Lib.Small
import Derived.Lib.Walk
import Derived.Lib.BitFns
import Derived.Test.YtbodgecbakcaaaaGreatDoorPkW7
import Derived.Laws.EntriesVeiled
import Derived.Test.YtbodgecbakcaaaaGreatDoorCards
import Derived.Test.YtbodgecbakcaaaaGreatDoorTie
import Derived.WalkKit
import Derived.ProofKit
import Derived.OpenShut
import Derived.Deep.DeepHandedRow
import Derived.Lib.LaidTab
import Derived.Carry
import Derived.ChangeOld
import Derived.Stop.LaidErr
import Derived.Test.YtbodgecbakcaaaaGreatDoorPkW3
import Derived.SliceStrings
namespace Go.Proofs.YtbodgecbakcaaaaGreatDoor
open Go.RowKit
theorem beSt_step (l : List Nat) (k : Nat) (h : k < l.length) : ((l.take (k + 1)).map (Sha.be · 4)).flatten = ((l.take k).map (Sha.be · 4)).flatten ++ Sha.be (l.getD k 0) 4 := by
  rw [List.take_succ_eq_append_getElem h, List.map_append, List.flatten_append, List.getD_eq_getElem?_getD, List.getElem?_eq_getElem h]
  simp
theorem beSt_all (s : Sha.St) : (s.l.map (Sha.be · 4)).flatten = s.bytes := by
  simp [Sha.St.l, Sha.St.bytes]
theorem beSt_len (l : List Nat) (k : Nat) : ((l.take k).map (Sha.be · 4)).flatten.length ≤ 4 * k := by
  induction k with
  | zero => simp
  | succ k ih =>
    by_cases h : k < l.length
    · rw [beSt_step l k h, List.length_append, Sha.be_length]; omega
    · rw [List.take_of_length_le (by omega)] at ih ⊢; omega
structure RSum (t : List UInt8) (w : World) (H : Nat) (k : Nat) (w' : World) : Prop where
  h : w'.heap[H]? = some (.cells (nv (Sha.foldAll Sha.iv k t).l).toArray 143 (0, 0))
  ge : w.heap.size ≤ H
  below : Below w.heap.size w w'
theorem mid_size' (s : ByteArray) (a b : Nat) (h : b ≤ s.size) : (s.extract a b).size = b - a := by
  rw [← data_length, Lib.extract_data, List.length_take, List.length_drop, data_length]; omega
theorem foldAll_ok : ∀ (k : Nat) (s : Sha.St) (l : List UInt8), s.ok → (Sha.foldAll s k l).ok
  | 0, _, _, h => h
  | k + 1, _, _, _ => foldAll_ok k _ _ (Sha.fold_ok _ _)
theorem rsum_start {t : List UInt8} {w w1 w2 w3 : World} {Z : Array Value} (hW : (w2.alloc (.cells Z 143)).setRow w2.heap.size (nv Sha.iv.l).toArray = w3) (hw1 : Below w.heap.size w w1) (hw2 : Below w1.heap.size w1 w2) : RSum t w w2.heap.size 0 w3 := by
  subst hW
  have s1 := hw1.size
  have s2 := hw2.size
  exact ⟨setRow_heap _ _ _ _ _ _ (heap_alloc_new w2 _), by omega, Below.setRow (((hw1.trans (hw2.mono (by omega)))).alloc (by omega) _) (by omega) _⟩
theorem store_nv (P : Program) (b : Nat) (F : Sha.St) (w : World) (h : w.there b 0 8) : (storeCells ⟨b, 0, none⟩ (nv F.l)).run P w = .ok () (w.setCells b 0 (nv F.l)) := by
  have h8 : (nv F.l).length = 8 := by simp [Sha.St.l]
  have := run_storeCells_cells (P := P) b 0 (nv F.l) 0 w (fun j hj => by simpa using (h j (by omega)).1) (fun j hj => by simpa using (h j (by omega)).2) (fun v hv => nv_mem hv)
  simpa using this
theorem block_at (s F : Sha.St) (hs : s.ok) (bl : ByteArray) (hb : bl.size = 64) (hF : Hid (Sha.fold s bl.data.toList = F)) (w : World) :
    Calls Tryz.prog 97 #[.agg (nv s.l).toArray, .string bl] w fun e w' => e = .returned (.agg (nv F.l).toArray) ∧ Below w.heap.size w w' := by
  have := block_any s hs bl hb w
  rwa [hF.out] at this
theorem heap_setNv {w : World} {b : Nat} {st F : Sha.St} (hh : w.heap[b]? = some (.cells (nv st.l).toArray 143 (0, 0))) :
    (w.setCells b 0 (nv F.l)).heap[b]? = some (.cells (nv F.l).toArray 143 (0, 0)) := by
  have := heap_setCells b 143 (nv F.l) [] (nv st.l) [] w (by simp [Sha.St.l]) (by simpa using hh)
  simpa using this
set_option maxRecDepth 100000 in
set_option maxHeartbeats 1000000 in
theorem rsum_any (s : ByteArray) (hs : s.size ≤ 140737488355000) (w : World) :
    Calls Tryz.prog 80 #[.string s] w fun e w' => e = .returned (sv (Sha.sha s.data.toList)) ∧ Below w.heap.size w w' := by
  have hfm := Sha.filling_mod s.size
  obtain ⟨t, ht⟩ : ∃ t, t = s.data.toList ++ Sha.filling s.size := ⟨_, rfl⟩
  have htl : t.length = s.size + (Sha.filling s.size).length := by rw [ht, List.length_append, data_length]
  have hsha := hid (show Sha.sha s.data.toList = (Sha.foldAll Sha.iv (t.length / 64) t).bytes by rw [Sha.sha, htl, ht, data_length])
  obtain ⟨m, hm⟩ : ∃ m, t.length = 64 * m := ⟨t.length / 64, by omega⟩
  have hml : m ≤ 140737488355328 := by omega
  have hF := hid (show t.length / 64 = m by omega)
  go_enter Tryz.func80, Tryz.ntmps80
  go_wp2_with (go_at_call 95; fail)
  refine (filled_any s hs _).mono ?_
  rintro e w1 ⟨rfl, hw1⟩
  rw [← ht]
  have HM := hid hm
  have hsv : sv t = .string ⟨t.toArray⟩ := rfl
  have hts : (ByteArray.mk t.toArray).size = 64 * m := by rw [sv_size]; exact hm
  have htd : (ByteArray.mk t.toArray).data.toList = t := sv_data t
  rw [hsv]
  have Htd := hid htd
  generalize ByteArray.mk t.toArray = tb at *
  clear ht htl hm hsv htd hfm
  have s1 := hw1.size
  go_wp2_with (first
    | (go_at_call 96; refine (begins_any _).mono ?_; rintro e w2 ⟨rfl, hw2⟩)
    | (with_reducible show wpList _ _ _ (Oper.mk _ (Op.store 143 _ _) _ _ _ _ :: _) _ _; go_must (refine wpList_store_row rfl 143 _ _ rfl w2.heap.size _ rfl rfl 143 _ (heap_alloc_new w2 _) (size8n rfl) (by rw [nv8_size]; decide +kernel) (nv_one _) ?_); go_must (generalize hW : (w2.alloc _).setRow w2.heap.size (nv Sha.iv.l).toArray = w3; have inv := rsum_start (t := t) hW hw1 hw2; have inv0 := hid inv; clear hW hw1 hw2 inv; generalize w2.heap.size = H at *)))
  go_loopw [5] (fun i w' => ∃ k : Nat, k ≤ m ∧ i = .int .i64 ((64 * k : Nat) : Int) ∧ RSum t w H k w') (fun i _ => 64 * m - (intOf i).toNat)
  case atStart => exact ⟨0, by omega, rfl, inv0.out⟩
  case round =>
    clear inv0
    obtain ⟨k, hk, rfl, inv⟩ := hrel
    have Inv := hid inv
    by_cases hlt : k < m
    · have b0 : ((64 * k : Nat) : Int) < ((64 * m : Nat) : Int) := by omega
      have b1 : ((64 * k : Nat) : Int) + 64 ≤ ((64 * m : Nat) : Int) := by omega
      have t1 : (64 * (k : Int) + 64).toNat = 64 * k + 64 := by omega
      have t2 : (64 * (k : Int)).toNat = 64 * k := by omega
      have d0 : (0 : Int) ≤ 64 * (k : Int) := by omega
      have d1 : 64 * (k : Int) ≤ 64 * (k : Int) + 64 := by omega
      have d2 : 64 * (k : Int) + 64 ≤ 64 * (m : Int) := by omega
      have d3 : IntKind.i64.wrap (64 * (k : Int) + 64) = 64 * (k : Int) + 64 := wrap_small _ (by omega) (by omega)
      obtain ⟨gg, hgg⟩ : ∃ gg, gg = tb.extract (64 * k) (64 * k + 64) := ⟨_, rfl⟩
      have hgs : gg.size = 64 := by rw [hgg, mid_size' _ _ _ (by omega)]; omega
      have Hgd := hid (show gg.data.toList = (t.drop (64 * k)).take 64 by rw [hgg, Lib.extract_data, Htd.out]; congr 1; omega)
      have hge := hgg.symm
      clear hgg
      have hok := foldAll_ok k Sha.iv t Sha.iv_ok
      have Hlast := hid (Sha.foldAll_last k Sha.iv t)
      have hh := inv.h
      generalize Sha.foldAll Sha.iv k t = st at *
      obtain ⟨F, hF⟩ : ∃ F, Sha.fold st gg.data.toList = F := ⟨_, rfl⟩
      have HF := hid hF
      clear hF
      have z0 := nv_cell hh 0 (by simp [Sha.St.l])
      have z1 := nv_cell hh 1 (by simp [Sha.St.l])
      have z2 := nv_cell hh 2 (by simp [Sha.St.l])
      have z3 := nv_cell hh 3 (by simp [Sha.St.l])
      have z4 := nv_cell hh 4 (by simp [Sha.St.l])
      have z5 := nv_cell hh 5 (by simp [Sha.St.l])
      have z6 := nv_cell hh 6 (by simp [Sha.St.l])
      have z7 := nv_cell hh 7 (by simp [Sha.St.l])
      simp only [Sha.St.l, List.getD_cons_zero, List.getD_cons_succ] at z0 z1 z2 z3 z4 z5 z6 z7
      have Hh := hid hh
      have hlH := lt_of_heap hh
      have Th := hid (there_of_row hh 0 8 (by rw [nv8_size]; omega))
      have Hok := hid hok
      have hstore := store_nv Tryz.prog H F
      clear hh inv hok
      go_wp2
      go_region_with (go_at_call 97; refine (block_at st F Hok.out gg hgs HF _).mono ?_; rintro e w4 ⟨rfl, hw4⟩; have th4 := there_below (w := wr.drew) Th.out hw4 hlH)
      have hh5 : (w4.setCells H 0 (nv F.l)).heap[H]? = some (.cells (nv F.l).toArray 143 (0, 0)) := heap_setNv ((hw4.block H hlH).trans Hh.out)
      have hbw : Below w.heap.size w w4 := Inv.out.below.drew.trans (hw4.mono Inv.out.below.size)
      have hb5 : Below w.heap.size w (w4.setCells H 0 (nv F.l)) := hbw.trans ((But.setCells (nv F.l) 0 (But.refl H w4)).below Inv.out.ge hbw.size)
      have Hh5 := hid hh5
      have Hb5 := hid hb5
      clear hh5 hb5 hbw th4 hw4 hstore z0 z1 z2 z3 z4 z5 z6 z7
      generalize w4.setCells H 0 (nv F.l) = w5 at *
      go_wp2
      refine ⟨⟨k + 1, by omega, by go_num, ?_, Inv.out.ge, Hb5.out⟩, by simp [intOf]; omega⟩
      rw [Hlast.out, ← Hgd.out, HF.out]; exact Hh5.out
    · obtain rfl : k = m := by omega
      have b0 : ¬ ((64 * k : Nat) : Int) < ((64 * k : Nat) : Int) := by omega
      have hok := foldAll_ok k Sha.iv t Sha.iv_ok
      rw [hF.out] at hsha
      have hH := inv.h
      have hge := inv.ge
      have hbl := inv.below
      clear inv Inv
      generalize Sha.foldAll Sha.iv k t = D at *
      have HH := hid hH
      have Hbl := hid hbl
      clear hH hbl
      go_wp2
      go_loopw [6, 7] (fun o i w' => ∃ j : Nat, j ≤ 8 ∧ i = .int .i64 j ∧ o = sv (((D.l.take j).map (Sha.be · 4)).flatten) ∧ Hid (w'.heap[H]? = some (.cells (nv D.l).toArray 143 (0, 0))) ∧ Hid (Below w.heap.size w w')) (fun _ i _ => 8 - (intOf i).toNat)
      case atStart => exact ⟨0, by omega, rfl, rfl, HH, Hbl⟩
      case round =>
        clear HH Hbl
        obtain ⟨j, hj, rfl, rfl, hh, hbl⟩ := hrel
        by_cases hj8 : j < 8
        · have b8 : (j : Int) < 8 := by omega
          obtain ⟨x, ex, lx, cx⟩ : ∃ y : Nat, Hid (y = D.l.getD j 0) ∧ y < 4294967296 ∧ wr.cell? ⟨H, j, none⟩ = some (.int .i64 (y : Int)) := ⟨_, rfl, Sha.l_lt hok j, nv_cell hh.out j (by simpa [Sha.St.l] using hj8)⟩
          have hlH := lt_of_heap hh.out
          have hst := beSt_step D.l j (by simpa [Sha.St.l] using hj8)
          rw [← ex.out] at hst
          have hle := beSt_len D.l j
          have hadd := add_sv Tryz.prog 9 ((D.l.take j).map (Sha.be · 4)).flatten (Sha.be x 4) (by rw [Sha.be_length]; omega)
          rw [← hst] at hadd
          clear hst hle
          generalize hA : ((D.l.take j).map (Sha.be · 4)).flatten = A at *
          generalize hA' : ((D.l.take (j + 1)).map (Sha.be · 4)).flatten = A' at *
          have HA' := hid hA'
          clear hA hA'
          go_wp2_with (go_at_call 98; refine (big4 x _ rfl _).mono ?_; rintro e w4 ⟨rfl, hw4⟩)
          refine ⟨⟨j + 1, by omega, by go_num, by rw [HA'.out], ?_, ?_⟩, by simp [intOf]; omega⟩
          · exact (hw4.block H hlH).trans hh.out
          · exact hbl.out.trans (hw4.mono hbl.out.size)
        · obtain rfl : j = 8 := by omega
          go_wp2
          go_ret
          refine ⟨?_, hbl.out⟩
          show Ending.returned (sv ((D.l.take 8).map (Sha.be · 4)).flatten) = _
          rw [hsha.out, show D.l.take 8 = D.l from rfl, beSt_all]
end Go.Proofs.YtbodgecbakcaaaaGreatDoor

namespace Go.Proofs.YtbodgecbakcaaaaGreatDoor
open Go.RowKit
theorem app_data (a b : ByteArray) : (a ++ b).data.toList = a.data.toList ++ b.data.toList := by
  have h := ByteArray.mk_append_mk a.data.toList b.data.toList
  rw [Array.toArray_toList, Array.toArray_toList] at h
  have h2 : a ++ b = ⟨(a.data.toList ++ b.data.toList).toArray⟩ := h
  rw [h2]
theorem app_size (a b : ByteArray) : (a ++ b).size = a.size + b.size := by rw [← data_length, app_data, List.length_append, data_length, data_length]
theorem joined_size (l r : ByteArray) (hl : l.size = 32) (hr : r.size = 32) : ({ data := #[1] } ++ l ++ r : ByteArray).size = 65 := by
  rw [app_size, app_size, hl, hr]; rfl
theorem joined_data (l r : ByteArray) : ({ data := #[1] } ++ l ++ r : ByteArray).data.toList = 1 :: (l.data.toList ++ r.data.toList) := by
  rw [app_data, app_data, List.append_assoc]; rfl
theorem rsum_at (s : ByteArray) (D : List UInt8) (hs : s.size ≤ 140737488355000) (hD : Hid (Sha.sha s.data.toList = D)) (w : World) :
    Calls Tryz.prog 80 #[.string s] w fun e w' => e = .returned (sv D) ∧ Below w.heap.size w w' := by
  have := rsum_any s hs w
  rwa [hD.out] at this
set_option maxRecDepth 100000 in
set_option maxHeartbeats 1000000 in
theorem rnode_ok (l r : ByteArray) (hl : l.size = 32) (hr : r.size = 32) (w : World) :
    Calls Tryz.prog 61 #[.string l, .string r] w fun e w' => e = .returned (.tuple #[sv (Sha.sha (1 :: (l.data.toList ++ r.data.toList))), .int .i64 0]) ∧ Below w.heap.size w w' := by
  go_enter Tryz.func61, Tryz.ntmps61
  obtain ⟨q, hq⟩ : ∃ q, q = ({ data := #[1] } ++ l ++ r : ByteArray) := ⟨_, rfl⟩
  have hqs := joined_size l r hl hr
  have hqd := joined_data l r
  rw [← hq] at hqs hqd
  obtain ⟨D, hD⟩ : ∃ D, Sha.sha (1 :: (l.data.toList ++ r.data.toList)) = D := ⟨_, rfl⟩
  rw [hD]
  rw [← hqd] at hD
  have HD := hid hD
  clear hD hqd
  go_wp2_with (go_at_call 80; fail)
  rw [← hq]
  clear hq
  refine (rsum_at q D (by omega) HD _).mono ?_
  rintro e w1 ⟨rfl, hw1⟩
  go_wp2
  go_ret2
  exact ⟨rfl, hw1⟩
set_option maxRecDepth 100000 in
set_option maxHeartbeats 400000 in
theorem rnode_bad1 (l r : ByteArray) (hl : ¬ l.size = 32) (w : World) :
    Calls Tryz.prog 61 #[.string l, .string r] w fun e w' => e = .returned (.tuple #[sv [], .int .i64 12]) ∧ w' = w := by
  have h1 : ((l.size : Int) != 32) = true := by simp; omega
  go_enter Tryz.func61, Tryz.ntmps61
  go_wp2
  go_ret2
  exact ⟨rfl, rfl⟩
set_option maxRecDepth 100000 in
set_option maxHeartbeats 400000 in
theorem rnode_bad2 (l r : ByteArray) (hl : l.size = 32) (hr : ¬ r.size = 32) (w : World) :
    Calls Tryz.prog 61 #[.string l, .string r] w fun e w' => e = .returned (.tuple #[sv [], .int .i64 12]) ∧ w' = w := by
  have h1 : ((r.size : Int) != 32) = true := by simp; omega
  go_enter Tryz.func61, Tryz.ntmps61
  go_wp2
  go_ret2
  exact ⟨rfl, rfl⟩
theorem rnode_any (l r : ByteArray) (w : World) :
    Calls Tryz.prog 61 #[.string l, .string r] w fun e w' => e = .returned (.tuple #[sv (nodeOf l.data.toList r.data.toList).1, .int .i64 (nodeOf l.data.toList r.data.toList).2]) ∧ Below w.heap.size w w' := by
  unfold nodeOf
  rw [data_length, data_length]
  by_cases hl : l.size = 32
  · by_cases hr : r.size = 32
    · rw [if_pos ⟨hl, hr⟩]; exact rnode_ok l r hl hr w
    · rw [if_neg (fun h => hr h.2)]
      refine (rnode_bad2 l r hl hr w).mono ?_
      rintro e w' ⟨rfl, rfl⟩
      exact ⟨rfl, Below.refl _ _⟩
  · rw [if_neg (fun h => hl h.1)]
    refine (rnode_bad1 l r hl w).mono ?_
    rintro e w' ⟨rfl, rfl⟩
    exact ⟨rfl, Below.refl _ _⟩
end Go.Proofs.YtbodgecbakcaaaaGreatDoor

namespace Go.Proofs.YtbodgecbakcaaaaGreatDoor
open Go.RowKit
theorem bitLen_log : ∀ (f x : Nat), x ≤ f → 1 ≤ x → x < 18446744073709551616 → Lib.bitLen x = x.log2 + 1
  | 0, x, h, h1, _ => by omega
  | f + 1, x, h, h1, h2 => by
    rw [Lib.bitLen_half x (by omega) h2]
    by_cases hx : x = 1
    · subst hx; decide
    · rw [bitLen_log f (x / 2) (by omega) (by omega) (by omega), Nat.log2_def x, if_pos (by omega)]; omega
theorem fold_tab (a b c d : List UInt8) (h : (a.append b).append (c.append d) = Lib.len8tab.data.toList) : ByteArray.mk ((a.append b).append (c.append d)).toArray = Lib.len8tab := by
  rw [h]
theorem tab_get (y : Int) (hb : y.toNat < Lib.len8tab.size) : (((Lib.len8tab[y.toNat]'hb).toNat : Nat) : Int) = Lib.len8 y := by
  unfold Lib.len8
  rw [ByteArray.getElem?_lt' _ _ hb]
  rfl
theorem len_end {x y : Int} (s : Nat) (hx0 : 0 ≤ x) (hx : x < 18446744073709551616) (hs : s ≤ 56) (h : s = 0 ∨ 2 ^ s ≤ x.toNat) (hy : x.toNat / 2 ^ s = y.toNat) (hy0 : 0 ≤ y) (hy2 : y ≤ 255) (hb : y.toNat < Lib.len8tab.size) :
    wrap64 ((s : Int) + wrap64 (((Lib.len8tab[y.toNat]'hb).toNat : Nat) : Int)) = ((Lib.bitLen x.toNat : Nat) : Int) := by
  have h8 := Lib.bitLen_le8' y hy0 hy2
  rw [tab_get y hb, Lib.len8_of y hy0 hy2]
  have e1 : wrap64 ((Lib.bitLen y.toNat : Nat) : Int) = (Lib.bitLen y.toNat : Nat) := by unfold wrap64; omega
  have e2 : wrap64 ((s : Int) + ((Lib.bitLen y.toNat : Nat) : Int)) = (s : Int) + (Lib.bitLen y.toNat : Nat) := by unfold wrap64; omega
  rw [e1, e2]
  rcases h with rfl | h
  · rw [show x.toNat = y.toNat from by simpa using hy]; omega
  · rw [Lib.bitLen_shift s x.toNat h (by omega), hy]; omega
set_option maxRecDepth 100000 in
set_option maxHeartbeats 2000000 in
theorem len64_any (x : Int) (h0 : 0 ≤ x) (hx : x < 18446744073709551616) (w : World) :
    Calls Tryz.prog 91 #[.int .u64 x] w fun e w' => e = .returned (.int .i64 (Lib.bitLen x.toNat : Nat)) ∧ w' = w := by
  have h := Tryz.func91
  unfold Tryz.f91 at h
  rw [fold_tab _ _ _ _ (by decide +kernel)] at h
  go_enter h, Tryz.ntmps91
  clear h
  go_wp2
  all_goals first | (exfalso; have := Lib.len8tab_size; omega) | skip
  all_goals go_ret
  all_goals refine ⟨congrArg Ending.returned (congrArg (Value.int IntKind.i64) ?_), rfl⟩
  all_goals first
    | exact len_end 56 h0 hx (by omega) (.inr (by omega)) (by omega) (by omega) (by omega) _
    | exact len_end 48 h0 hx (by omega) (.inr (by omega)) (by omega) (by omega) (by omega) _
    | exact len_end 40 h0 hx (by omega) (.inr (by omega)) (by omega) (by omega) (by omega) _
    | exact len_end 32 h0 hx (by omega) (.inr (by omega)) (by omega) (by omega) (by omega) _
    | exact len_end 24 h0 hx (by omega) (.inr (by omega)) (by omega) (by omega) (by omega) _
    | exact len_end 16 h0 hx (by omega) (.inr (by omega)) (by omega) (by omega) (by omega) _
    | exact len_end 8 h0 hx (by omega) (.inr (by omega)) (by omega) (by omega) (by omega) _
    | (have e := len_end 0 h0 hx (by omega) (.inl rfl) (by omega) h0 (by omega) (by omega); rw [show ((0 : Nat) : Int) = 0 from rfl, Int.zero_add] at e; exact e)
set_option maxRecDepth 100000 in
set_option maxHeartbeats 2000000 in
theorem lenU_any (x : Int) (h0 : 0 ≤ x) (hx : x < 18446744073709551616) (w : World) :
    Calls Tryz.prog 72 #[.int .u64 x] w fun e w' => e = .returned (.int .i64 (Lib.bitLen x.toNat : Nat)) ∧ w' = w := by
  go_enter Tryz.func72, Tryz.ntmps72
  go_wp2_with (go_at_call 91; refine (len64_any x h0 hx _).mono ?_; rintro e w' ⟨rfl, rfl⟩)
  go_ret
  exact ⟨rfl, rfl⟩
end Go.Proofs.YtbodgecbakcaaaaGreatDoor

namespace Go.Proofs.YtbodgecbakcaaaaGreatDoor
open Go.RowKit
def spI (n : Int) : Int := (Tree.sp n.toNat : Nat)
theorem log_le {x : Nat} (h1 : 1 ≤ x) (h : x < 9223372036854775808) : x.log2 ≤ 62 := by
  have := (Nat.log2_lt (n := x) (k := 63) (by omega)).2 h
  omega
theorem wrap_pow {L : Nat} (h : L ≤ 62) : wrap64 ((2 : Int) ^ L) = ((2 ^ L : Nat) : Int) := by
  have := Nat.pow_le_pow_right (n := 2) (by decide) h
  have e : ((2 : Int) ^ L) = ((2 ^ L : Nat) : Int) := by simp
  rw [e]
  generalize 2 ^ L = x at *
  unfold wrap64
  omega
set_option maxRecDepth 100000 in
set_option maxHeartbeats 2000000 in
theorem rsplit_any (n : Int) (h0 : -9223372036854775808 ≤ n) (h1 : n ≤ 9223372036854775807) (w : World) :
    Calls Tryz.prog 32 #[.int .i64 n] w fun e w' => e = .returned (.int .i64 (spI n)) ∧ w' = w := by
  by_cases hn : n < 2
  · go_enter Tryz.func32, Tryz.ntmps32
    go_wp2
    go_ret
    exact ⟨by rw [spI, Tree.sp_small (by omega)]; rfl, rfl⟩
  · go_enter Tryz.func32, Tryz.ntmps32
    go_wp2
    go_loopw [3] (fun k w' => ∃ a x : Nat, Hid (2 ^ a = x) ∧ k = .int .i64 (x : Int) ∧ (x : Int) < n ∧ 0 < x ∧ w' = w) (fun k _ => n.toNat - (intOf k).toNat)
    case atStart => exact ⟨0, 1, rfl, rfl, by omega, by omega, rfl⟩
    case round =>
      obtain ⟨a, x, hx, rfl, hlt, hpos, rfl⟩ := hrel
      by_cases hk : 2 * (x : Int) < n
      · have b0 : (x : Int) < n - (x : Int) := by omega
        go_wp2
        exact ⟨⟨a + 1, 2 * x, by rw [Hid, Nat.pow_succ, hx.out, Nat.mul_comm], by go_num, by omega, by omega, trivial⟩, by simp [intOf]; omega⟩
      · have b0 : ¬ (x : Int) < n - (x : Int) := by omega
        have e := hid (show spI n = (x : Int) by rw [spI, Tree.sp_one (by omega) a (by rw [hx.out]; omega) (by rw [hx.out]; omega), hx.out])
        go_wp2
        go_ret
        exact ⟨by rw [e.out]; rfl, rfl⟩
end Go.Proofs.YtbodgecbakcaaaaGreatDoor

namespace Go.Proofs.YtbodgecbakcaaaaGreatDoor
open Go.RowKit
theorem nodeOf_nd (l r : List UInt8) : (nodeOf l r).1 = Tree.nd l r := by unfold nodeOf Tree.nd; split <;> rfl
theorem node_at {l r n : List UInt8} {c : Int} (h : Hid (nodeOf l r = (n, c))) (w : World) (T : Tabs w) :
    Calls Tryz.prog 84 #[sv l, sv r] w fun e w' => e = .returned (.tuple #[sv n, .int .i64 c]) ∧ Below w.heap.size w w' := by
  have := node_any ⟨l.toArray⟩ ⟨r.toArray⟩ w T
  rw [show (ByteArray.mk l.toArray).data.toList = l from rfl, show (ByteArray.mk r.toArray).data.toList = r from rfl, h.out] at this
  exact this
theorem rnode_at {l r n : List UInt8} {c : Int} (h : Hid (nodeOf l r = (n, c))) (w : World) :
    Calls Tryz.prog 61 #[sv l, sv r] w fun e w' => e = .returned (.tuple #[sv n, .int .i64 c]) ∧ Below w.heap.size w w' := by
  have := rnode_any ⟨l.toArray⟩ ⟨r.toArray⟩ w
  rw [show (ByteArray.mk l.toArray).data.toList = l from rfl, show (ByteArray.mk r.toArray).data.toList = r from rfl, h.out] at this
  exact this
def At (w : World) (a : Option Addr) (l : List (List UInt8)) : Prop := ∀ j p, l[j]? = some p → ∃ x : Addr, a = some x ∧ x.block < w.heap.size ∧ w.cell? (x.add j) = some (sv p)
theorem addr_block (x : Addr) (j : Nat) : (x.add j).block = x.block := by unfold Addr.add; split <;> rfl
theorem addr_add (x : Addr) (i j : Nat) : (x.add i).add j = x.add (i + j) := by
  unfold Addr.add
  by_cases hi : i = 0
  · subst hi; simp
  · by_cases hj : j = 0
    · subst hj; simp
    · rw [if_neg hi, if_neg hj, if_neg (by omega)]; simp; omega
theorem At.nil (w : World) (a : Option Addr) : At w a [] := fun j p h => by simp at h
theorem At.below {w w' : World} {a : Option Addr} {l : List (List UInt8)} {B : Nat} (h : At w a l) (hb : Below B w w') (hB : w.heap.size ≤ B) : At w' a l := fun j p hp => by
  obtain ⟨x, rfl, hx, hc⟩ := h j p hp
  exact ⟨x, rfl, Nat.lt_of_lt_of_le hx hb.size, (hb.cell (p := x.add j) (by rw [addr_block]; omega)).trans hc⟩
theorem At.heap {w w' : World} {a : Option Addr} {l : List (List UInt8)} (h : At w a l) (e : w'.heap = w.heap) : At w' a l := fun j p hp => by
  obtain ⟨x, rfl, hx, hc⟩ := h j p hp
  refine ⟨x, rfl, by rw [e]; exact hx, ?_⟩
  rw [← hc]
  exact World.cell?_of_block (w := w) (by rw [e])
theorem At.take {w : World} {a : Option Addr} {l : List (List UInt8)} (h : At w a l) (k : Nat) : At w a (l.take k) := fun j p hp => by
  rw [List.getElem?_take] at hp
  split at hp
  · exact h j p hp
  · cases hp
theorem At.drop {w : World} {x : Addr} {l : List (List UInt8)} (h : At w (some x) l) (k : Nat) : At w (some (x.add k)) (l.drop k) := fun j p hp => by
  rw [List.getElem?_drop] at hp
  obtain ⟨y, hy, hx, hc⟩ := h (k + j) p hp
  obtain rfl := Option.some.inj hy
  exact ⟨_, rfl, by rw [addr_block]; exact hx, by rw [addr_add]; exact hc⟩
theorem At.pos {w : World} {a : Option Addr} {l : List (List UInt8)} (h : At w a l) (hl : 0 < l.length) : ∃ x, a = some x := by
  obtain ⟨x, hx, _⟩ := h 0 _ (List.getElem?_eq_getElem hl)
  exact ⟨x, hx⟩
theorem At.cell {w : World} {x : Addr} {l : List (List UInt8)} (h : At w (some x) l) (j : Nat) (hj : j < l.length) : ∃ s : ByteArray, Hid (s.data.toList = l[j]) ∧ w.cell? (x.add j) = some (.string s) := by
  obtain ⟨y, hy, _, hc⟩ := h j _ (List.getElem?_eq_getElem hj)
  obtain rfl := Option.some.inj hy
  exact ⟨⟨(l[j]).toArray⟩, rfl, hc⟩
end Go.Proofs.YtbodgecbakcaaaaGreatDoor

namespace Go.Proofs.YtbodgecbakcaaaaGreatDoor
open Go.RowKit
def wrg (l : List (List UInt8)) : Int := if 4096 < l.length then 31 else if l.all (·.length == 32) then 0 else 32
theorem all_take (l : List (List UInt8)) (k : Nat) (hk : k < l.length) (h : (l.take k).all (·.length == 32) = true) (h2 : (l[k]).length = 32) : (l.take (k + 1)).all (·.length == 32) = true := by
  rw [List.take_succ_eq_append_getElem hk, List.all_append, h]
  simp [h2]
theorem all_not (l : List (List UInt8)) (k : Nat) (hk : k < l.length) (h2 : ¬ (l[k]).length = 32) : l.all (·.length == 32) = false := by
  rw [List.all_eq_false]
  exact ⟨l[k], List.getElem_mem hk, by simpa using h2⟩
end Go.Proofs.YtbodgecbakcaaaaGreatDoor

namespace Go.Proofs.YtbodgecbakcaaaaGreatDoor.Tree
end Go.Proofs.YtbodgecbakcaaaaGreatDoor.Tree
namespace Go.Proofs.YtbodgecbakcaaaaGreatDoor
open Go.RowKit
def svs (L : List (List UInt8)) : List Value := L.map sv
theorem svs_length (L : List (List UInt8)) : (svs L).length = L.length := by simp [svs]
theorem infoS : (Tryz.prog.info? 9).map (fun i => (i.zero, i.size, i.bytes)) = some (some (.string ⟨#[]⟩), 1, 16) := by kernel_rfl
theorem append_text (w : World) (base : Nat) (v : Value) (L : List (List UInt8)) (p : List UInt8) (hown : Own w base v (svs L)) (hlen : L.length ≤ 2000000) (hbase : base ≤ w.heap.size) :
    ∃ v' w', (Builtin.append_ #[23, 23] 23 #[v, .slice (some ⟨w.heap.size, 0, none⟩) 1 1]).run Tryz.prog (w.alloc (.cells #[sv p] 9)) = .ok v' w' ∧ Own w' base v' (svs (L ++ [p])) ∧ Below base w w' := by
  obtain ⟨i0, hi, hz0, hz1, hz2⟩ := info_parts infoS
  have hsrc : Src Tryz.prog 1 23 (.slice (some ⟨w.heap.size, 0, none⟩) 1 1) 1 [sv p] (w.alloc (.cells #[sv p] 9)) :=
    Src.ofSlice _ Tryz.underlying23 ⟨w.heap.size, 0, none⟩ 1 1 [sv p] (by simp) (fun j u hj => by
      rw [Addr.add_mid, cell_of_row _ _ _ _ _ _ (heap_alloc_new w _), Nat.zero_add]; simpa using hj) (fun u hu => by simp at hu; subst hu; rfl)
  obtain ⟨v', w', h1, h2, h3, h4⟩ := run_append_O (P := Tryz.prog) (w.alloc (.cells #[sv p] 9)) base 23 23 23 9 i0 (.string ⟨#[]⟩) Tryz.underlying23 hi hz0 hz1 rfl v (svs L) (hown.alloc _) _ 1 [sv p] hsrc
    (by rw [svs_length, hz2]; omega) (by rw [svs_length, maxLen]; omega) (by rw [size_alloc]; omega) (fun _ => by omega)
  refine ⟨v', w', h1, by simpa [svs] using h2, ?_⟩
  exact ((Below.refl base w).alloc hbase _).trans (Below.ofGrown h3 hown.ge (by rw [size_alloc]; omega))
end Go.Proofs.YtbodgecbakcaaaaGreatDoor

namespace Go.Proofs.YtbodgecbakcaaaaGreatDoor
open Go.RowKit
def u8 (c : Int) : UInt8 := UInt8.ofNat (c % 256).toNat
theorem u8_toNat (c : Int) : (((u8 c).toNat : Nat) : Int) = c % 256 := by
  unfold u8
  rw [UInt8.toNat_ofNat']
  omega
def lf (c : Int) : List UInt8 := u8 c :: (List.replicate 30 0 ++ [u8 (c / 256)])
theorem lf_length (c : Int) : (lf c).length = 32 := by simp [lf]
theorem make32 (w : World) : (Instr.makeSlice 64 (.int .i64 32) (.int .i64 32)).run Tryz.prog w = .ok (.slice (some ⟨w.heap.size, 0, none⟩) 32 32) (w.alloc (.cells (bv (List.replicate 32 0)).toArray 5)) := by
  obtain ⟨i0, hi, hz0, hz1, hz2⟩ := info_parts info5'
  have h := run_make (P := Tryz.prog) w 64 5 i0 (.int .u8 0) Tryz.underlying64 hi hz0 .i64 .i64 32 32 (by omega) (by omega) (by rw [hz2]; decide) (by omega)
  rw [hz1] at h
  have e : madeCells (Value.int .u8 0).cells (Int.toNat 32 * 1) = (bv (List.replicate 32 0)).toArray := by
    apply Array.ext'
    have h1 : (madeCells (Value.int .u8 0).cells (Int.toNat 32 * 1)).toList = List.replicate (Int.toNat 32 * 1) (.int .u8 0) := toList_madeCells_one _ _
    rw [h1, bv, List.map_replicate]
    rfl
  rw [e] at h
  exact h
theorem lf_one (c : Int) : (bv (List.replicate 32 0)).toArray.setIfInBounds 0 (.int .u8 (c % 256)) = (bv (u8 c :: List.replicate 31 0)).toArray := by
  rw [← u8_toNat c]; rfl
theorem lf_two (c : Int) : (bv (u8 c :: List.replicate 31 0)).toArray.setIfInBounds 31 (.int .u8 (c / 256 % 256)) = (bv (lf c)).toArray := by
  rw [← u8_toNat (c / 256)]; rfl
set_option maxRecDepth 100000 in
set_option maxHeartbeats 400000 in
theorem lleaf_any (c : Int) (w : World) :
    Calls Tryz.prog 10 #[.int .i64 c] w fun e w' => e = .returned (sv (lf c)) ∧ Below w.heap.size w w' := by
  have hmk := make32 w
  have hh := heap_alloc_new w (.cells (bv (List.replicate 32 0)).toArray 5)
  have hb := (Below.refl w.heap.size w).alloc (Nat.le_refl _) (.cells (bv (List.replicate 32 0)).toArray 5)
  generalize w.alloc (.cells (bv (List.replicate 32 0)).toArray 5) = w1 at *
  obtain ⟨y, _, _, c1⟩ := bv_cell hh 0 (by simp)
  have f1 : w1.frozen? ⟨w.heap.size, 0, none⟩ = false := frozen_of_row _ _ _ _ _ hh
  have hh2 := heap_setCell_same w1 w.heap.size 0 _ _ (.int .u8 (c % 256)) hh
  rw [lf_one] at hh2
  have hb2 := hb.setCell (Nat.le_refl _) (p := ⟨w.heap.size, 0, none⟩) (.int .u8 (c % 256))
  obtain ⟨y2, _, _, c2⟩ := bv_cell hh2 31 (by simp)
  have f2 : (w1.setCell ⟨w.heap.size, 0, none⟩ (.int .u8 (c % 256))).frozen? ⟨w.heap.size, 31, none⟩ = false := frozen_of_row _ _ _ _ _ hh2
  have hh3 := heap_setCell_same _ w.heap.size 31 _ _ (.int .u8 (c / 256 % 256)) hh2
  rw [lf_two] at hh3
  have hb3 := hid (hb2.setCell (Nat.le_refl _) (p := ⟨w.heap.size, 31, none⟩) (.int .u8 (c / 256 % 256)))
  have hcv := run_conv_bytes (P := Tryz.prog) _ 64 9 5 w.heap.size 0 32 32 (lf c) (lf_length c) Tryz.underlying64 Tryz.underlying5 Tryz.underlying9 (rangeAt_of_list hh3 (fun j v hv => by rw [Nat.zero_add]; exact hv))
  generalize lf c = L at *
  clear hh hb hh2 hb2 hh3
  go_enter Tryz.func10, Tryz.ntmps10
  go_wp2
  go_ret
  exact ⟨rfl, hb3.out⟩
end Go.Proofs.YtbodgecbakcaaaaGreatDoor

namespace Go.Proofs.YtbodgecbakcaaaaGreatDoor
open Go.RowKit
theorem lleaf_at (c : Int) (L : List UInt8) (h : Hid (lf c = L)) (w : World) : Calls Tryz.prog 10 #[.int .i64 c] w fun e w' => e = .returned (sv L) ∧ Below w.heap.size w w' := by
  have := lleaf_any c w
  rwa [h.out] at this
theorem svS (l : List UInt8) : sv l = .string ⟨l.toArray⟩ := rfl
end Go.Proofs.YtbodgecbakcaaaaGreatDoor

namespace Go.Proofs.YtbodgecbakcaaaaGreatDoor
open Go.ChangeShapes Go.WideShapes Go.ChangeAt Go.RowKit
theorem stays_all {H : Type} {enc : TypeId × Value → H} {P : Program} (hl : laidOutB P = true) {W W' : World} (hb : Below W.heap.size W W') {sp : Nat → Bool} :
    ∀ {ts : List TypeId} {vs : List Value} {ds : List (DataW H)} {p : List MemPlace}, (ts.all fun t => P.readableRec t && decide (t < P.types.size)) = true →
      DataW.TrodAll enc P W 0 (fun _ => true) true ts vs ds p → (∀ x ∈ p, x.block < W.heap.size) → (∀ x ∈ p, sp x.block = true) → DataW.TrodAll enc P W' 0 sp true ts vs ds p
  | [], _, _, _, _, h, _, _ => by obtain ⟨rfl, rfl, rfl⟩ := trodAll_nil h; exact trodAll_mk0
  | t :: ts, _, _, _, ht, h, hlt, hs => by
    obtain ⟨v, vs1, d, ds1, a, b, rfl, rfl, rfl, h1, h2⟩ := trodAll_cons h
    simp only [List.all_cons, Bool.and_eq_true, decide_eq_true_eq] at ht
    refine trodAll_cons_mk (WideElems.Trod_stays hl ht.1.1 ht.1.2 h1 (fun x hx => hb.same (hlt x (by simp [hx]))) (fun x hx => hs x (by simp [hx]))) ?_
    exact stays_all hl hb (by simpa using ht.2) h2 (fun x hx => hlt x (by simp [hx])) (fun x hx => hs x (by simp [hx]))
theorem post_true {H : Type} {enc : TypeId × Value → H} {P : Program} {f : Func} {s : ChangeSpec} {W W' : World} {args : Array Value} {ds gs : List (DataW H)} {before : List MemPlace} {bt : TypeId} (hl : laidOutB P = true)
    (hts : (f.params.toList.all fun t => P.readableRec t && decide (t < P.types.size)) = true) (hrt : f.resultTypes = #[bt]) (hbt : P.underlying bt = some .bool)
    (hvs : s.vars = []) (hr : (s.fn H (ds ++ gs)).results = [.lit (.bool true)]) (ha : (s.fn H (ds ++ gs)).args = ds) (hv : (s.fn H (ds ++ gs)).vars = [])
    (hW : DataW.Whole enc P f.params.toList s.vars false W args.toList ds gs before) (hb : Below W.heap.size W W') :
    s.post enc P f false true false false W args (.bool true) W' := by
  have hW' := hW
  have hlt : ∀ x ∈ before, x.block < W.heap.size := fun x hx => by simpa using hW.lt x hx
  obtain ⟨p, q, hA, hV, rfl, _, _⟩ := hW
  rw [hvs] at hV
  obtain ⟨rfl, rfl⟩ := trodVars_none hV
  refine ⟨ds, [], p ++ [], [], p, [], hW', ?_, ?_, ?_, hb.frame _, fun h => by cases h⟩
  · rw [hr, hrt]
    exact trodAll_cons_mk (shut_bool hbt true) trodAll_mk0
  · rw [ha]
    exact stays_all hl hb hts hA (fun x hx => hlt x (by simp [hx])) (fun x hx => by simpa using hlt x (by simp [hx]))
  · rw [hv, hvs]; rfl
theorem own : ownKnob Tryz.prog.godebug = none := by kernel_rfl
theorem laidOut : laidOutB Tryz.prog = true := by kernel_rfl
theorem gRounds : Tryz.prog.globalNamed "scrivener/digest.rounds" = some 2 := by kernel_rfl
theorem gRoundsType : (Tryz.prog.globals[2]?).map (·.type) = some 154 := by kernel_rfl
theorem gStart : Tryz.prog.globalNamed "scrivener/digest.start" = some 3 := by kernel_rfl
theorem gStartType : (Tryz.prog.globals[3]?).map (·.type) = some 137 := by kernel_rfl
theorem cells64 : Tryz.prog.cellsOf 154 = 64 := by kernel_rfl
theorem cells8 : Tryz.prog.cellsOf 137 = 8 := by kernel_rfl
theorem cells1 : Tryz.prog.cellsOf 131 = 1 := by kernel_rfl
def both : List (String × DataW Unit) := [("scrivener/digest.start", Rows.laid_scrivener_digest_start), ("scrivener/digest.rounds", Rows.laid_scrivener_digest_rounds)]
theorem tabs_of {W : World} (h : laidMet Tryz.prog both W) : Tabs W := by
  have h1 : Lib.TabIs Tryz.prog W "scrivener/digest.start" .u32 (Sha.iv.l.map Int.ofNat) :=
    Lib.tabIs_of_head gStart gStartType Tryz.underlying137 Tryz.underlying131 cells1 cells8 (show laidMet Tryz.prog (("scrivener/digest.start", Lib.tabData .u32 (Sha.iv.l.map Int.ofNat)) :: _) W from h)
  have h2 : Lib.TabIs Tryz.prog W "scrivener/digest.rounds" .u32 (Sha.kTab.map Int.ofNat) :=
    Lib.tabIs_of_head gRounds gRoundsType Tryz.underlying154 Tryz.underlying131 cells1 cells64 (show laidMet Tryz.prog (("scrivener/digest.rounds", Lib.tabData .u32 (Sha.kTab.map Int.ofNat)) :: []) W from laidMet.tail h)
  refine ⟨fun j hj => ?_, fun j hj => ?_⟩
  · have := h2.cell gRounds j (by rw [List.length_map]; exact hj)
    rw [this]
    simp [List.getD_eq_getElem?_getD]
    rw [List.getElem?_eq_getElem (show j < Sha.kTab.length from hj)]; simp
  · have := h1.cell gStart j (by rw [List.length_map]; exact hj)
    rw [this]
    simp [List.getD_eq_getElem?_getD]
    rw [List.getElem?_eq_getElem (show j < Sha.iv.l.length from hj)]; simp
def fillObj (cs : Array Value) : Obj → Obj
  | .cells _ t frozen => .cells cs t frozen
  | o => o
noncomputable def laidWorld (os : Os) : World :=
  { World.holding Tryz.prog os ⟨#[], #[], []⟩ with
    heap := ((World.holding Tryz.prog os ⟨#[], #[], []⟩).heap.modify 2 (fillObj (Sha.kTab.map fun n => Value.int .u32 (Int.ofNat n)).toArray)).modify 3 (fillObj (Sha.iv.l.map fun n => Value.int .u32 (Int.ofNat n)).toArray) }
end Go.Proofs.YtbodgecbakcaaaaGreatDoor

namespace Go.Proofs.YtbodgecbakcaaaaGreatDoor
open Go.ChangeShapes Go.WideShapes Go.ChangeAt Go.RowKit
theorem cellsS : Tryz.prog.cellsOf 9 = 1 := by kernel_rfl
theorem cellsI : Tryz.prog.cellsOf 3 = 1 := by kernel_rfl
theorem wf_i64 {n : Int} (h : (Lit.int .i64 n).wf = true) : -9223372036854775808 ≤ n ∧ n ≤ 9223372036854775807 := by
  simp only [Lit.wf, Bool.and_eq_true, decide_eq_true_eq] at h
  have e1 : IntKind.i64.min = -9223372036854775808 := by decide
  have e2 : IntKind.i64.max = 9223372036854775807 := by decide
  rw [e1, e2] at h
  exact h
def AtI (w : World) (a : Option Addr) (l : List Int) : Prop := ∀ j p, l[j]? = some p → ∃ x : Addr, a = some x ∧ x.block < w.heap.size ∧ w.cell? (x.add j) = some (.int .i64 p)
end Go.Proofs.YtbodgecbakcaaaaGreatDoor

namespace Go.Proofs.YtbodgecbakcaaaaGreatDoor
open Go.RowKit
def pk (c n : Int) : Int := (if c < 0 then -(c + 1) else c) % n
theorem pk_nonneg (c n : Int) (hn : 0 < n) : 0 ≤ pk c n := Int.emod_nonneg _ (by omega)
theorem pk_lt (c n : Int) (hn : 0 < n) : pk c n < n := Int.emod_lt_of_pos _ hn
set_option maxRecDepth 100000 in
set_option maxHeartbeats 400000 in
theorem pick_any (c n : Int) (hc1 : -9223372036854775808 ≤ c) (hc2 : c ≤ 9223372036854775807) (hn : 0 < n) (hn2 : n ≤ 9223372036854775807) (w : World) :
    Calls Tryz.prog 7 #[.int .i64 c, .int .i64 n] w fun e w' => e = .returned (.int .i64 (pk c n)) ∧ w' = w := by
  have hp0 := pk_nonneg c n hn
  have hp1 := pk_lt c n hn
  have hn0 : ¬ n = 0 := by omega
  by_cases h : c < 0
  · have e1 : IntKind.i64.wrap (c + 1) = c + 1 := by rw [IntKind.wrap_i64]; omega
    have e2 : IntKind.i64.wrap (-(c + 1)) = -(c + 1) := by rw [IntKind.wrap_i64]; omega
    have e3 : Int.tmod (-(c + 1)) n = pk c n := by rw [Int.tmod_eq_emod_of_nonneg (by omega), pk, if_pos h]
    have e4 : IntKind.i64.wrap (pk c n) = pk c n := wrap_small _ (by omega) (by omega)
    go_enter Tryz.func7, Tryz.ntmps7
    go_wp2
    go_ret
    exact ⟨rfl, rfl⟩
  · have e3 : Int.tmod c n = pk c n := by rw [Int.tmod_eq_emod_of_nonneg (by omega), pk, if_neg h]
    have e4 : IntKind.i64.wrap (pk c n) = pk c n := wrap_small _ (by omega) (by omega)
    go_enter Tryz.func7, Tryz.ntmps7
    go_wp2
    go_ret
    exact ⟨rfl, rfl⟩
theorem AtI.below {w w' : World} {a : Option Addr} {l : List Int} {B : Nat} (h : AtI w a l) (hb : Below B w w') (hB : w.heap.size ≤ B) : AtI w' a l := fun j p hp => by
  obtain ⟨x, rfl, hx, hc⟩ := h j p hp
  exact ⟨x, rfl, Nat.lt_of_lt_of_le hx hb.size, (hb.cell (p := x.add j) (by rw [addr_block]; omega)).trans hc⟩
theorem AtI.pos {w : World} {a : Option Addr} {l : List Int} (h : AtI w a l) (hl : 0 < l.length) : ∃ x, a = some x := by
  obtain ⟨x, hx, _⟩ := h 0 _ (List.getElem?_eq_getElem hl)
  exact ⟨x, hx⟩
theorem AtI.cell {w : World} {x : Addr} {l : List Int} (h : AtI w (some x) l) (j : Nat) (hj : j < l.length) : w.cell? (x.add j) = some (.int .i64 l[j]) := by
  obtain ⟨y, hy, _, hc⟩ := h j _ (List.getElem?_eq_getElem hj)
  obtain rfl := Option.some.inj hy
  exact hc
end Go.Proofs.YtbodgecbakcaaaaGreatDoor

namespace Go.Proofs.YtbodgecbakcaaaaGreatDoor
open Go.RowKit
theorem Own.at {w : World} {base : Nat} {v : Value} {L : List (List UInt8)} (h : Own w base v (svs L)) : ∃ a cap, v = .slice a L.length cap ∧ At w a L ∧ L.length ≤ cap ∧ cap ≤ 9223372036854775807 := by
  rcases h with ⟨rfl, h⟩ | ⟨g, cap, rfl, h1, h2, h3, h4, h5, h6⟩
  · obtain rfl : L = [] := by simpa [svs] using h
    exact ⟨none, 0, rfl, At.nil _ _, by simp, by omega⟩
  · rw [svs_length] at h2
    refine ⟨some ⟨g, 0, none⟩, cap, by rw [svs_length], fun j p hp => ⟨_, rfl, h6, ?_⟩, h2, h3⟩
    rw [Addr.add_mid]
    exact h4 j (sv p) (by simp [svs, hp])
end Go.Proofs.YtbodgecbakcaaaaGreatDoor
