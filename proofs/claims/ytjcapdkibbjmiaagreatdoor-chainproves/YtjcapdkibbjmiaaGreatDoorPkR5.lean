import Derived.Test.YtjcapdkibbjmiaaGreatDoorPkR4
import Derived.Test.YtjcapdkibbjmiaaGreatDoorPkW7
import Derived.Test.YtjcapdkibbjmiaaGreatDoorPkM1
import Derived.Lib.Strings
import Derived.Lib.Slices
import Derived.Lib.Small
import Derived.Lib.Walk
import Derived.Lib.BitFns
namespace Go.Proofs.YtjcapdkibbjmiaaGreatDoor
open Go.RowKit
theorem beSt_step (l : List Nat) (k : Nat) (h : k < l.length) : ((l.take (k + 1)).map (Sha.be · 4)).flatten = ((l.take k).map (Sha.be · 4)).flatten ++ Sha.be (l.getD k 0) 4 := by
  rw [List.take_succ_eq_append_getElem h, List.map_append, List.flatten_append, List.getD_eq_getElem?_getD, List.getElem?_eq_getElem h]
  simp
theorem beSt_all (s : Sha.St) : (s.l.map (Sha.be · 4)).flatten = s.bytes := by
  simp [Sha.St.l, Sha.St.bytes]
theorem beSt_len (l : List Nat) (k : Nat) : ((l.take k).map (Sha.be · 4)).flatten.length ≤ 4 * k := by
  induction k with
  | zero => simp
  | succ k ih =>
    by_cases h : k < l.length
    · rw [beSt_step l k h, List.length_append, Sha.be_length]; omega
    · rw [List.take_of_length_le (by omega)] at ih ⊢; omega
structure RSum (t : List UInt8) (w : World) (H : Nat) (k : Nat) (w' : World) : Prop where
  h : w'.heap[H]? = some (.cells (nv (Sha.foldAll Sha.iv k t).l).toArray 98 (0, 0))
  ge : w.heap.size ≤ H
  below : Below w.heap.size w w'
theorem mid_size' (s : ByteArray) (a b : Nat) (h : b ≤ s.size) : (s.extract a b).size = b - a := by
  rw [← data_length, Lib.extract_data, List.length_take, List.length_drop, data_length]; omega
theorem foldAll_ok : ∀ (k : Nat) (s : Sha.St) (l : List UInt8), s.ok → (Sha.foldAll s k l).ok
  | 0, _, _, h => h
  | k + 1, _, _, _ => foldAll_ok k _ _ (Sha.fold_ok _ _)
theorem rsum_start {t : List UInt8} {w w1 w2 w3 : World} {Z : Array Value} (hW : (w2.alloc (.cells Z 98)).setRow w2.heap.size (nv Sha.iv.l).toArray = w3) (hw1 : Below w.heap.size w w1) (hw2 : Below w1.heap.size w1 w2) : RSum t w w2.heap.size 0 w3 := by
  subst hW
  have s1 := hw1.size
  have s2 := hw2.size
  exact ⟨setRow_heap _ _ _ _ _ _ (heap_alloc_new w2 _), by omega, Below.setRow (((hw1.trans (hw2.mono (by omega)))).alloc (by omega) _) (by omega) _⟩
theorem store_nv (P : Program) (b : Nat) (F : Sha.St) (w : World) (h : w.there b 0 8) : (storeCells ⟨b, 0, none⟩ (nv F.l)).run P w = .ok () (w.setCells b 0 (nv F.l)) := by
  have h8 : (nv F.l).length = 8 := by simp [Sha.St.l]
  have := run_storeCells_cells (P := P) b 0 (nv F.l) 0 w (fun j hj => by simpa using (h j (by omega)).1) (fun j hj => by simpa using (h j (by omega)).2) (fun v hv => nv_mem hv)
  simpa using this
theorem block_at (s F : Sha.St) (hs : s.ok) (bl : ByteArray) (hb : bl.size = 64) (hF : Hid (Sha.fold s bl.data.toList = F)) (w : World) :
    Calls Tryz.prog 59 #[.agg (nv s.l).toArray, .string bl] w fun e w' => e = .returned (.agg (nv F.l).toArray) ∧ Below w.heap.size w w' := by
  have := block_any s hs bl hb w
  rwa [hF.out] at this
theorem heap_setNv {w : World} {b : Nat} {st F : Sha.St} (hh : w.heap[b]? = some (.cells (nv st.l).toArray 98 (0, 0))) :
    (w.setCells b 0 (nv F.l)).heap[b]? = some (.cells (nv F.l).toArray 98 (0, 0)) := by
  have := heap_setCells b 98 (nv F.l) [] (nv st.l) [] w (by simp [Sha.St.l]) (by simpa using hh)
  simpa using this
set_option maxRecDepth 100000 in
set_option maxHeartbeats 1000000 in
theorem rsum_any (s : ByteArray) (hs : s.size ≤ 140737488355000) (w : World) :
    Calls Tryz.prog 33 #[.string s] w fun e w' => e = .returned (sv (Sha.sha s.data.toList)) ∧ Below w.heap.size w w' := by
  have hfm := Sha.filling_mod s.size
  obtain ⟨t, ht⟩ : ∃ t, t = s.data.toList ++ Sha.filling s.size := ⟨_, rfl⟩
  have htl : t.length = s.size + (Sha.filling s.size).length := by rw [ht, List.length_append, data_length]
  have hsha := hid (show Sha.sha s.data.toList = (Sha.foldAll Sha.iv (t.length / 64) t).bytes by rw [Sha.sha, htl, ht, data_length])
  obtain ⟨m, hm⟩ : ∃ m, t.length = 64 * m := ⟨t.length / 64, by omega⟩
  have hml : m ≤ 140737488355328 := by omega
  have hF := hid (show t.length / 64 = m by omega)
  go_enter Tryz.func33, Tryz.ntmps33
  go_wp2_with (go_at_call 57; fail)
  refine (filled_any s hs _).mono ?_
  rintro e w1 ⟨rfl, hw1⟩
  rw [← ht]
  have HM := hid hm
  have hsv : sv t = .string ⟨t.toArray⟩ := rfl
  have hts : (ByteArray.mk t.toArray).size = 64 * m := by rw [sv_size]; exact hm
  have htd : (ByteArray.mk t.toArray).data.toList = t := sv_data t
  rw [hsv]
  have Htd := hid htd
  generalize ByteArray.mk t.toArray = tb at *
  clear ht htl hm hsv htd hfm
  have s1 := hw1.size
  go_wp2_with (first
    | (go_at_call 58; refine (begins_any _).mono ?_; rintro e w2 ⟨rfl, hw2⟩)
    | (with_reducible show wpList _ _ _ (Oper.mk _ (Op.store 98 _ _) _ _ _ _ :: _) _ _; go_must (refine wpList_store_row rfl 98 _ _ rfl w2.heap.size _ rfl rfl 98 _ (heap_alloc_new w2 _) (size8n rfl) (by rw [nv8_size]; decide +kernel) (nv_one _) ?_); go_must (generalize hW : (w2.alloc _).setRow w2.heap.size (nv Sha.iv.l).toArray = w3; have inv := rsum_start (t := t) hW hw1 hw2; have inv0 := hid inv; clear hW hw1 hw2 inv; generalize w2.heap.size = H at *)))
  go_loopw [5] (fun i w' => ∃ k : Nat, k ≤ m ∧ i = .int .i64 ((64 * k : Nat) : Int) ∧ RSum t w H k w') (fun i _ => 64 * m - (intOf i).toNat)
  case atStart => exact ⟨0, by omega, rfl, inv0.out⟩
  case round =>
    clear inv0
    obtain ⟨k, hk, rfl, inv⟩ := hrel
    have Inv := hid inv
    by_cases hlt : k < m
    · have b0 : ((64 * k : Nat) : Int) < ((64 * m : Nat) : Int) := by omega
      have b1 : ((64 * k : Nat) : Int) + 64 ≤ ((64 * m : Nat) : Int) := by omega
      have t1 : (64 * (k : Int) + 64).toNat = 64 * k + 64 := by omega
      have t2 : (64 * (k : Int)).toNat = 64 * k := by omega
      have d0 : (0 : Int) ≤ 64 * (k : Int) := by omega
      have d1 : 64 * (k : Int) ≤ 64 * (k : Int) + 64 := by omega
      have d2 : 64 * (k : Int) + 64 ≤ 64 * (m : Int) := by omega
      have d3 : IntKind.i64.wrap (64 * (k : Int) + 64) = 64 * (k : Int) + 64 := wrap_small _ (by omega) (by omega)
      obtain ⟨gg, hgg⟩ : ∃ gg, gg = tb.extract (64 * k) (64 * k + 64) := ⟨_, rfl⟩
      have hgs : gg.size = 64 := by rw [hgg, mid_size' _ _ _ (by omega)]; omega
      have Hgd := hid (show gg.data.toList = (t.drop (64 * k)).take 64 by rw [hgg, Lib.extract_data, Htd.out]; congr 1; omega)
      have hge := hgg.symm
      clear hgg
      have hok := foldAll_ok k Sha.iv t Sha.iv_ok
      have Hlast := hid (Sha.foldAll_last k Sha.iv t)
      have hh := inv.h
      generalize Sha.foldAll Sha.iv k t = st at *
      obtain ⟨F, hF⟩ : ∃ F, Sha.fold st gg.data.toList = F := ⟨_, rfl⟩
      have HF := hid hF
      clear hF
      have z0 := nv_cell hh 0 (by simp [Sha.St.l])
      have z1 := nv_cell hh 1 (by simp [Sha.St.l])
      have z2 := nv_cell hh 2 (by simp [Sha.St.l])
      have z3 := nv_cell hh 3 (by simp [Sha.St.l])
      have z4 := nv_cell hh 4 (by simp [Sha.St.l])
      have z5 := nv_cell hh 5 (by simp [Sha.St.l])
      have z6 := nv_cell hh 6 (by simp [Sha.St.l])
      have z7 := nv_cell hh 7 (by simp [Sha.St.l])
      simp only [Sha.St.l, List.getD_cons_zero, List.getD_cons_succ] at z0 z1 z2 z3 z4 z5 z6 z7
      have Hh := hid hh
      have hlH := lt_of_heap hh
      have Th := hid (there_of_row hh 0 8 (by rw [nv8_size]; omega))
      have Hok := hid hok
      have hstore := store_nv Tryz.prog H F
      clear hh inv hok
      go_wp2
      go_region_with (go_at_call 59; refine (block_at st F Hok.out gg hgs HF _).mono ?_; rintro e w4 ⟨rfl, hw4⟩; have th4 := there_below (w := wr.drew) Th.out hw4 hlH)
      have hh5 : (w4.setCells H 0 (nv F.l)).heap[H]? = some (.cells (nv F.l).toArray 98 (0, 0)) := heap_setNv ((hw4.block H hlH).trans Hh.out)
      have hbw : Below w.heap.size w w4 := Inv.out.below.drew.trans (hw4.mono Inv.out.below.size)
      have hb5 : Below w.heap.size w (w4.setCells H 0 (nv F.l)) := hbw.trans ((But.setCells (nv F.l) 0 (But.refl H w4)).below Inv.out.ge hbw.size)
      have Hh5 := hid hh5
      have Hb5 := hid hb5
      clear hh5 hb5 hbw th4 hw4 hstore z0 z1 z2 z3 z4 z5 z6 z7
      generalize w4.setCells H 0 (nv F.l) = w5 at *
      go_wp2
      refine ⟨⟨k + 1, by omega, by go_num, ?_, Inv.out.ge, Hb5.out⟩, by simp [intOf]; omega⟩
      rw [Hlast.out, ← Hgd.out, HF.out]; exact Hh5.out
    · obtain rfl : k = m := by omega
      have b0 : ¬ ((64 * k : Nat) : Int) < ((64 * k : Nat) : Int) := by omega
      have hok := foldAll_ok k Sha.iv t Sha.iv_ok
      rw [hF.out] at hsha
      have hH := inv.h
      have hge := inv.ge
      have hbl := inv.below
      clear inv Inv
      generalize Sha.foldAll Sha.iv k t = D at *
      have HH := hid hH
      have Hbl := hid hbl
      clear hH hbl
      go_wp2
      go_loopw [6, 7] (fun o i w' => ∃ j : Nat, j ≤ 8 ∧ i = .int .i64 j ∧ o = sv (((D.l.take j).map (Sha.be · 4)).flatten) ∧ Hid (w'.heap[H]? = some (.cells (nv D.l).toArray 98 (0, 0))) ∧ Hid (Below w.heap.size w w')) (fun _ i _ => 8 - (intOf i).toNat)
      case atStart => exact ⟨0, by omega, rfl, rfl, HH, Hbl⟩
      case round =>
        clear HH Hbl
        obtain ⟨j, hj, rfl, rfl, hh, hbl⟩ := hrel
        by_cases hj8 : j < 8
        · have b8 : (j : Int) < 8 := by omega
          obtain ⟨x, ex, lx, cx⟩ : ∃ y : Nat, Hid (y = D.l.getD j 0) ∧ y < 4294967296 ∧ wr.cell? ⟨H, j, none⟩ = some (.int .i64 (y : Int)) := ⟨_, rfl, Sha.l_lt hok j, nv_cell hh.out j (by simpa [Sha.St.l] using hj8)⟩
          have hlH := lt_of_heap hh.out
          have hst := beSt_step D.l j (by simpa [Sha.St.l] using hj8)
          rw [← ex.out] at hst
          have hle := beSt_len D.l j
          have hadd := add_sv Tryz.prog 9 ((D.l.take j).map (Sha.be · 4)).flatten (Sha.be x 4) (by rw [Sha.be_length]; omega)
          rw [← hst] at hadd
          clear hst hle
          generalize hA : ((D.l.take j).map (Sha.be · 4)).flatten = A at *
          generalize hA' : ((D.l.take (j + 1)).map (Sha.be · 4)).flatten = A' at *
          have HA' := hid hA'
          clear hA hA'
          go_wp2_with (go_at_call 60; refine (big4 x _ rfl _).mono ?_; rintro e w4 ⟨rfl, hw4⟩)
          refine ⟨⟨j + 1, by omega, by go_num, by rw [HA'.out], ?_, ?_⟩, by simp [intOf]; omega⟩
          · exact (hw4.block H hlH).trans hh.out
          · exact hbl.out.trans (hw4.mono hbl.out.size)
        · obtain rfl : j = 8 := by omega
          go_wp2
          go_ret
          refine ⟨?_, hbl.out⟩
          show Ending.returned (sv ((D.l.take 8).map (Sha.be · 4)).flatten) = _
          rw [hsha.out, show D.l.take 8 = D.l from rfl, beSt_all]
end Go.Proofs.YtjcapdkibbjmiaaGreatDoor

namespace Go.Proofs.YtjcapdkibbjmiaaGreatDoor
open Go.RowKit
theorem app_data (a b : ByteArray) : (a ++ b).data.toList = a.data.toList ++ b.data.toList := by
  have h := ByteArray.mk_append_mk a.data.toList b.data.toList
  rw [Array.toArray_toList, Array.toArray_toList] at h
  have h2 : a ++ b = ⟨(a.data.toList ++ b.data.toList).toArray⟩ := h
  rw [h2]
theorem app_size (a b : ByteArray) : (a ++ b).size = a.size + b.size := by rw [← data_length, app_data, List.length_append, data_length, data_length]
theorem joined_size (l r : ByteArray) (hl : l.size = 32) (hr : r.size = 32) : ({ data := #[1] } ++ l ++ r : ByteArray).size = 65 := by
  rw [app_size, app_size, hl, hr]; rfl
theorem joined_data (l r : ByteArray) : ({ data := #[1] } ++ l ++ r : ByteArray).data.toList = 1 :: (l.data.toList ++ r.data.toList) := by
  rw [app_data, app_data, List.append_assoc]; rfl
theorem rsum_at (s : ByteArray) (D : List UInt8) (hs : s.size ≤ 140737488355000) (hD : Hid (Sha.sha s.data.toList = D)) (w : World) :
    Calls Tryz.prog 33 #[.string s] w fun e w' => e = .returned (sv D) ∧ Below w.heap.size w w' := by
  have := rsum_any s hs w
  rwa [hD.out] at this
end Go.Proofs.YtjcapdkibbjmiaaGreatDoor

/- THE PLAIN MATHEMATICS OF LAYER 3: roots, paths, proofs over lists; nothing of the program. -/
namespace Go.Proofs.YtjcapdkibbjmiaaGreatDoor
def Tree.nd (l r : List UInt8) : List UInt8 := if l.length = 32 ∧ r.length = 32 then Sha.sha (1 :: (l ++ r)) else []
namespace Tree
def sp (n : Nat) : Nat := if n < 2 then 0 else 2 ^ (n - 1).log2
theorem sp_eq {n : Nat} (h : 2 ≤ n) : sp n = 2 ^ (n - 1).log2 := by rw [sp, if_neg (by omega)]
theorem sp_lt {n : Nat} (h : 2 ≤ n) : sp n < n := by
  rw [sp_eq h]
  have := Nat.log2_self_le (n := n - 1) (by omega)
  omega
theorem sp_pos {n : Nat} (h : 2 ≤ n) : 0 < sp n := by rw [sp_eq h]; exact Nat.two_pow_pos _
theorem sp_ge {n : Nat} (h : 2 ≤ n) : n ≤ 2 * sp n := by
  rw [sp_eq h]
  have := Nat.lt_log2_self (n := n - 1)
  rw [Nat.pow_succ] at this
  omega
theorem sp_one {n : Nat} (h : 2 ≤ n) (a : Nat) (h1 : 2 ^ a < n) (h2 : n ≤ 2 * 2 ^ a) : sp n = 2 ^ a := by
  rw [sp_eq h]
  congr 1
  have h3 : (n - 1).log2 < a + 1 := (Nat.log2_lt (by omega)).2 (by rw [Nat.pow_succ]; omega)
  have h4 : ¬ (n - 1).log2 < a := fun hlt => by
    have := (Nat.log2_lt (n := n - 1) (by omega)).1 hlt
    omega
  omega
abbrev T := List UInt8
def rootF : Nat → List T → T
  | 0, l => l.headD (Sha.sha [])
  | f + 1, l => if l.length < 2 then l.headD (Sha.sha []) else nd (rootF f (l.take (sp l.length))) (rootF f (l.drop (sp l.length)))
def root (l : List T) : T := rootF l.length l
theorem rootF_eq : ∀ (f g : Nat) (l : List T), l.length ≤ f → l.length ≤ g → rootF f l = rootF g l
  | 0, 0, _, _, _ => rfl
  | 0, g + 1, l, h, _ => by rw [rootF, rootF, if_pos (by omega)]
  | f + 1, 0, l, _, h => by rw [rootF, rootF, if_pos (by omega)]
  | f + 1, g + 1, l, h1, h2 => by
    rw [rootF, rootF]
    by_cases h : l.length < 2
    · rw [if_pos h, if_pos h]
    · have a := sp_lt (n := l.length) (by omega)
      have b := sp_pos (n := l.length) (by omega)
      rw [if_neg h, if_neg h, rootF_eq f g _ (by simp; omega) (by simp; omega), rootF_eq f g (l.drop _) (by simp; omega) (by simp; omega)]
theorem root_nil : root [] = Sha.sha [] := rfl
theorem root_one (a : T) : root [a] = a := rfl
theorem root_cut {l : List T} (h : 2 ≤ l.length) : root l = nd (root (l.take (sp l.length))) (root (l.drop (sp l.length))) := by
  have a := sp_lt h
  have b := sp_pos h
  have e : root l = rootF (l.length - 1 + 1) l := rootF_eq _ _ _ (by omega) (by omega)
  rw [e, rootF, if_neg (by omega), root, root, rootF_eq (l.length - 1) _ (l.take _) (by simp; omega) (Nat.le_refl _), rootF_eq (l.length - 1) _ (l.drop _) (by simp; omega) (Nat.le_refl _)]
def Hs (l : List T) : Prop := ∀ x ∈ l, x.length = 32
theorem Hs.take {l : List T} (h : Hs l) (k : Nat) : Hs (l.take k) := fun x hx => h x (List.mem_of_mem_take hx)
theorem Hs.drop {l : List T} (h : Hs l) (k : Nat) : Hs (l.drop k) := fun x hx => h x (List.mem_of_mem_drop hx)
theorem nd_length {a b : T} (ha : a.length = 32) (hb : b.length = 32) : (nd a b).length = 32 := by rw [nd, if_pos ⟨ha, hb⟩, Sha.sha_length]
theorem root_length : ∀ (n : Nat) (l : List T), l.length ≤ n → Hs l → (root l).length = 32
  | n, [], _, _ => by rw [root_nil, Sha.sha_length]
  | n, [a], _, h => by rw [root_one]; exact h a (by simp)
  | 0, a :: b :: l, h, _ => by simp at h
  | n + 1, a :: b :: l, h, hh => by
    have x := sp_lt (n := (a :: b :: l).length) (by simp)
    have y := sp_pos (n := (a :: b :: l).length) (by simp)
    rw [root_cut (by simp)]
    exact nd_length (root_length n _ (by simp at *; omega) (hh.take _)) (root_length n _ (by simp at *; omega) (hh.drop _))
theorem root_hash {l : List T} (h : Hs l) : (root l).length = 32 := root_length _ l (Nat.le_refl _) h
def proofF : Nat → Nat → List T → Bool → List T
  | 0, _, _, _ => []
  | f + 1, m, l, whole => if m = l.length then (if whole then [] else [root l]) else
    if m ≤ sp l.length then proofF f m (l.take (sp l.length)) whole ++ [root (l.drop (sp l.length))] else proofF f (m - sp l.length) (l.drop (sp l.length)) false ++ [root (l.take (sp l.length))]
def proof (m : Nat) (l : List T) (whole : Bool) : List T := proofF l.length m l whole
def manyF : Nat → List Nat → Nat → List T → List T
  | 0, _, _, _ => []
  | f + 1, is, b, l => if is = [] then [root l] else if l.length < 2 then [] else
    manyF f (is.filter (· < b + sp l.length)) b (l.take (sp l.length)) ++ manyF f (is.filter (b + sp l.length ≤ ·)) (b + sp l.length) (l.drop (sp l.length))
def many (is : List Nat) (b : Nat) (l : List T) : List T := manyF l.length is b l
end Tree
end Go.Proofs.YtjcapdkibbjmiaaGreatDoor

namespace Go.Proofs.YtjcapdkibbjmiaaGreatDoor
open Go.RowKit
theorem bitLen_log : ∀ (f x : Nat), x ≤ f → 1 ≤ x → x < 18446744073709551616 → Lib.bitLen x = x.log2 + 1
  | 0, x, h, h1, _ => by omega
  | f + 1, x, h, h1, h2 => by
    rw [Lib.bitLen_half x (by omega) h2]
    by_cases hx : x = 1
    · subst hx; decide
    · rw [bitLen_log f (x / 2) (by omega) (by omega) (by omega), Nat.log2_def x, if_pos (by omega)]; omega
theorem fold_tab (a b c d : List UInt8) (h : (a.append b).append (c.append d) = Lib.len8tab.data.toList) : ByteArray.mk ((a.append b).append (c.append d)).toArray = Lib.len8tab := by
  rw [h]
theorem tab_get (y : Int) (hb : y.toNat < Lib.len8tab.size) : (((Lib.len8tab[y.toNat]'hb).toNat : Nat) : Int) = Lib.len8 y := by
  unfold Lib.len8
  rw [ByteArray.getElem?_lt' _ _ hb]
  rfl
theorem len_end {x y : Int} (s : Nat) (hx0 : 0 ≤ x) (hx : x < 18446744073709551616) (hs : s ≤ 56) (h : s = 0 ∨ 2 ^ s ≤ x.toNat) (hy : x.toNat / 2 ^ s = y.toNat) (hy0 : 0 ≤ y) (hy2 : y ≤ 255) (hb : y.toNat < Lib.len8tab.size) :
    wrap64 ((s : Int) + wrap64 (((Lib.len8tab[y.toNat]'hb).toNat : Nat) : Int)) = ((Lib.bitLen x.toNat : Nat) : Int) := by
  have h8 := Lib.bitLen_le8' y hy0 hy2
  rw [tab_get y hb, Lib.len8_of y hy0 hy2]
  have e1 : wrap64 ((Lib.bitLen y.toNat : Nat) : Int) = (Lib.bitLen y.toNat : Nat) := by unfold wrap64; omega
  have e2 : wrap64 ((s : Int) + ((Lib.bitLen y.toNat : Nat) : Int)) = (s : Int) + (Lib.bitLen y.toNat : Nat) := by unfold wrap64; omega
  rw [e1, e2]
  rcases h with rfl | h
  · rw [show x.toNat = y.toNat from by simpa using hy]; omega
  · rw [Lib.bitLen_shift s x.toNat h (by omega), hy]; omega
set_option maxRecDepth 100000 in
set_option maxHeartbeats 2000000 in
theorem len64_any (x : Int) (h0 : 0 ≤ x) (hx : x < 18446744073709551616) (w : World) :
    Calls Tryz.prog 134 #[.int .u64 x] w fun e w' => e = .returned (.int .i64 (Lib.bitLen x.toNat : Nat)) ∧ w' = w := by
  have h := Tryz.func134
  unfold Tryz.f134 at h
  rw [fold_tab _ _ _ _ (by decide +kernel)] at h
  go_enter h, Tryz.ntmps134
  clear h
  go_wp2
  all_goals first | (exfalso; have := Lib.len8tab_size; omega) | skip
  all_goals go_ret
  all_goals refine ⟨congrArg Ending.returned (congrArg (Value.int IntKind.i64) ?_), rfl⟩
  all_goals first
    | exact len_end 56 h0 hx (by omega) (.inr (by omega)) (by omega) (by omega) (by omega) _
    | exact len_end 48 h0 hx (by omega) (.inr (by omega)) (by omega) (by omega) (by omega) _
    | exact len_end 40 h0 hx (by omega) (.inr (by omega)) (by omega) (by omega) (by omega) _
    | exact len_end 32 h0 hx (by omega) (.inr (by omega)) (by omega) (by omega) (by omega) _
    | exact len_end 24 h0 hx (by omega) (.inr (by omega)) (by omega) (by omega) (by omega) _
    | exact len_end 16 h0 hx (by omega) (.inr (by omega)) (by omega) (by omega) (by omega) _
    | exact len_end 8 h0 hx (by omega) (.inr (by omega)) (by omega) (by omega) (by omega) _
    | (have e := len_end 0 h0 hx (by omega) (.inl rfl) (by omega) h0 (by omega) (by omega); rw [show ((0 : Nat) : Int) = 0 from rfl, Int.zero_add] at e; exact e)
set_option maxRecDepth 100000 in
set_option maxHeartbeats 2000000 in
theorem lenU_any (x : Int) (h0 : 0 ≤ x) (hx : x < 18446744073709551616) (w : World) :
    Calls Tryz.prog 109 #[.int .u64 x] w fun e w' => e = .returned (.int .i64 (Lib.bitLen x.toNat : Nat)) ∧ w' = w := by
  go_enter Tryz.func109, Tryz.ntmps109
  go_wp2_with (go_at_call 134; refine (len64_any x h0 hx _).mono ?_; rintro e w' ⟨rfl, rfl⟩)
  go_ret
  exact ⟨rfl, rfl⟩
end Go.Proofs.YtjcapdkibbjmiaaGreatDoor
