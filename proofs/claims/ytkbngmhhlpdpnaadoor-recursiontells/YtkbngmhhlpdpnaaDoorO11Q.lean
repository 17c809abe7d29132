import Derived.Test.YtkbngmhhlpdpnaaDoorO10
namespace Go.Proofs.YtkbngmhhlpdpnaaDoor
open Go.RowKit

def u8 (c : Int) : UInt8 := UInt8.ofNat (c % 256).toNat
theorem u8_toNat (c : Int) : (((u8 c).toNat : Nat) : Int) = c % 256 := by
  unfold u8
  rw [UInt8.toNat_ofNat']
  omega
/-- the law's leaf of a number -/
def lf (c : Int) : List UInt8 := u8 c :: (List.replicate 30 0 ++ [u8 (c / 256)])
theorem lf_length (c : Int) : (lf c).length = 32 := by simp [lf]
theorem make32 (w : World) : (Instr.makeSlice 71 (.int .i64 32) (.int .i64 32)).run Tryd.prog w = .ok (.slice (some ⟨w.heap.size, 0, none⟩) 32 32) (w.alloc (.cells (bv (List.replicate 32 0)).toArray 5)) := by
  obtain ⟨i0, hi, hz0, hz1, hz2⟩ := info_parts info5'
  have h := run_make (P := Tryd.prog) w 71 5 i0 (.int .u8 0) Tryd.underlying71 hi hz0 .i64 .i64 32 32 (by omega) (by omega) (by rw [hz2]; decide) (by omega)
  rw [hz1] at h
  have e : madeCells (Value.int .u8 0).cells (Int.toNat 32 * 1) = (bv (List.replicate 32 0)).toArray := by
    apply Array.ext'
    have h1 : (madeCells (Value.int .u8 0).cells (Int.toNat 32 * 1)).toList = List.replicate (Int.toNat 32 * 1) (.int .u8 0) := toList_madeCells_one _ _
    rw [h1, bv, List.map_replicate]
    rfl
  rw [e] at h
  exact h
theorem lf_one (c : Int) : (bv (List.replicate 32 0)).toArray.setIfInBounds 0 (.int .u8 (c % 256)) = (bv (u8 c :: List.replicate 31 0)).toArray := by
  rw [← u8_toNat c]; rfl
theorem lf_two (c : Int) : (bv (u8 c :: List.replicate 31 0)).toArray.setIfInBounds 31 (.int .u8 (c / 256 % 256)) = (bv (lf c)).toArray := by
  rw [← u8_toNat (c / 256)]; rfl
set_option maxRecDepth 100000 in
set_option maxHeartbeats 400000 in
theorem lleaf_any (c : Int) (w : World) :
    Calls Tryd.prog 39 #[.int .i64 c] w fun e w' => e = .returned (sv (lf c)) ∧ Below w.heap.size w w' := by
  have hmk := make32 w
  have hh := heap_alloc_new w (.cells (bv (List.replicate 32 0)).toArray 5)
  have hb := (Below.refl w.heap.size w).alloc (Nat.le_refl _) (.cells (bv (List.replicate 32 0)).toArray 5)
  generalize w.alloc (.cells (bv (List.replicate 32 0)).toArray 5) = w1 at *
  obtain ⟨y, _, _, c1⟩ := bv_cell hh 0 (by simp)
  have f1 : w1.frozen? ⟨w.heap.size, 0, none⟩ = false := frozen_of_row _ _ _ _ _ hh
  have hh2 := heap_setCell_same w1 w.heap.size 0 _ _ (.int .u8 (c % 256)) hh
  rw [lf_one] at hh2
  have hb2 := hb.setCell (Nat.le_refl _) (p := ⟨w.heap.size, 0, none⟩) (.int .u8 (c % 256))
  obtain ⟨y2, _, _, c2⟩ := bv_cell hh2 31 (by simp)
  have f2 : (w1.setCell ⟨w.heap.size, 0, none⟩ (.int .u8 (c % 256))).frozen? ⟨w.heap.size, 31, none⟩ = false := frozen_of_row _ _ _ _ _ hh2
  have hh3 := heap_setCell_same _ w.heap.size 31 _ _ (.int .u8 (c / 256 % 256)) hh2
  rw [lf_two] at hh3
  have hb3 := hid (hb2.setCell (Nat.le_refl _) (p := ⟨w.heap.size, 31, none⟩) (.int .u8 (c / 256 % 256)))
  have hcv := run_conv_bytes (P := Tryd.prog) _ 71 9 5 w.heap.size 0 32 32 (lf c) (lf_length c) Tryd.underlying71 Tryd.underlying5 Tryd.underlying9 (rangeAt_of_list hh3 (fun j v hv => by rw [Nat.zero_add]; exact hv))
  generalize lf c = L at *
  clear hh hb hh2 hb2 hh3
  go_enter Tryd.func39, Tryd.ntmps39
  go_wp2
  go_ret
  exact ⟨rfl, hb3.out⟩
set_option maxRecDepth 100000 in
set_option maxHeartbeats 400000 in
theorem lnode_any (l r : List UInt8) (w : World) (T : Tabs w) :
    Calls Tryd.prog 40 #[sv l, sv r] w fun e w' => e = .returned (sv (Tree.nd l r)) ∧ Below w.heap.size w w' := by
  obtain ⟨m, d, hm⟩ : ∃ m d, Hid (nodeOf l r = (m, d)) := ⟨_, _, rfl⟩
  have e' := hid (show Tree.nd l r = m by rw [← nodeOf_nd, hm.out])
  go_enter Tryd.func40, Tryd.ntmps40
  go_wp2_with (go_at_call 76; refine (node_at hm _ T).mono ?_; rintro e w1 ⟨rfl, hw1⟩)
  go_ret
  exact ⟨by rw [e'.out]; rfl, hw1⟩
end Go.Proofs.YtkbngmhhlpdpnaaDoor

namespace Go.Proofs.YtkbngmhhlpdpnaaDoor
open Go.RowKit

theorem split2 (w : World) : Calls Tryd.prog 38 #[.int .i64 2] w fun e w' => e = .returned (.int .i64 1) ∧ w' = w := split_any 2 (by decide) (by decide) w
theorem split3 (w : World) : Calls Tryd.prog 38 #[.int .i64 3] w fun e w' => e = .returned (.int .i64 2) ∧ w' = w := split_any 3 (by decide) (by decide) w
theorem split9 (w : World) : Calls Tryd.prog 38 #[.int .i64 9] w fun e w' => e = .returned (.int .i64 8) ∧ w' = w := split_any 9 (by decide) (by decide) w
theorem sp2 : Tree.sp 2 = 1 := by decide
theorem sp3 : Tree.sp 3 = 2 := by decide
theorem root2 (a b : List UInt8) : Tree.root [a, b] = Tree.nd a b := by
  rw [Tree.root_cut (by simp), show [a, b].length = 2 from rfl, sp2]
  rfl
theorem root3 (a b c : List UInt8) : Tree.root [a, b, c] = Tree.nd (Tree.nd a b) c := by
  rw [Tree.root_cut (by simp), show [a, b, c].length = 3 from rfl, sp3]
  show Tree.nd (Tree.root [a, b]) (Tree.root [c]) = _
  rw [root2, Tree.root_one]
theorem path3 (a b c : List UInt8) : Tree.path 2 [a, b, c] = [Tree.nd a b] := by
  rw [Tree.path_cut (by simp), show [a, b, c].length = 3 from rfl, sp3, if_neg (by omega)]
  show Tree.path 0 [c] ++ [Tree.root [a, b]] = _
  rw [root2, Tree.path_small (by simp)]
  rfl
theorem wrg3 (a b c : List UInt8) (ha : a.length = 32) (hb : b.length = 32) (hc : c.length = 32) : wrg [a, b, c] = 0 := by
  simp [wrg, ha, hb, hc]
theorem at3 (w : World) (a b c : List UInt8) : At (w.alloc (.cells #[sv a, sv b, sv c] 9)) (some ⟨w.heap.size, 0, none⟩) [a, b, c] := fun j p hp => by
  refine ⟨_, rfl, by rw [size_alloc]; exact Nat.lt_succ_self _, ?_⟩
  rw [Addr.add_mid, cell_of_row _ _ _ _ _ _ (heap_alloc_new w _), Nat.zero_add]
  match j, hp with
  | 0, h => obtain rfl := Option.some.inj h; rfl
  | 1, h => obtain rfl := Option.some.inj h; rfl
  | 2, h => obtain rfl := Option.some.inj h; rfl
theorem Root3 (a b c R : List UInt8) (ha : a.length = 32) (hb : b.length = 32) (hc : c.length = 32) (hR : Hid (Tree.nd (Tree.nd a b) c = R)) (x : Addr) (w : World) (hA : At w (some x) [a, b, c]) (T : Tabs w) :
    Calls Tryd.prog 33 #[.slice (some x) 3 3] w fun e w' => e = .returned (.tuple #[sv R, .int .i64 0]) ∧ Below w.heap.size w w' := by
  have h := Root_any [a, b, c] (some x) 3 w (by simp) (by omega) hA T
  rw [rootOut, if_pos (wrg3 a b c ha hb hc), root3, hR.out] at h
  exact h
theorem Path3 (a b c N : List UInt8) (ha : a.length = 32) (hb : b.length = 32) (hc : c.length = 32) (hN : Hid (Tree.nd a b = N)) (x : Addr) (w : World) (hA : At w (some x) [a, b, c]) (T : Tabs w) :
    Calls Tryd.prog 11 #[.slice (some x) 3 3, .int .i64 2] w fun e w' => ∃ y cap, e = .returned (.tuple #[.slice (some y) 1 cap, .int .i64 0]) ∧ w'.cell? y = some (sv N) ∧ y.block < w'.heap.size ∧ Below w.heap.size w w' := by
  have h := Path_any [a, b, c] 2 (some x) 3 w (by simp) (by omega) hA T
  rw [pathOut, if_pos (wrg3 a b c ha hb hc), if_pos (by simp), show Int.toNat 2 = 2 from rfl, path3, hN.out] at h
  refine h.mono ?_
  rintro e w1 ⟨v, rfl, hO, hb1⟩
  rcases hO with ⟨_, hc⟩ | ⟨g, cap, rfl, _, _, _, h4, _, h6⟩
  · simp [svs] at hc
  · exact ⟨_, cap, rfl, h4 0 (sv N) rfl, h6, hb1⟩
theorem lleaf_at (c : Int) (L : List UInt8) (h : Hid (lf c = L)) (w : World) : Calls Tryd.prog 39 #[.int .i64 c] w fun e w' => e = .returned (sv L) ∧ Below w.heap.size w w' := by
  have := lleaf_any c w
  rwa [h.out] at this
theorem lnode_at (l r N : List UInt8) (h : Hid (Tree.nd l r = N)) (w : World) (T : Tabs w) : Calls Tryd.prog 40 #[sv l, sv r] w fun e w' => e = .returned (sv N) ∧ Below w.heap.size w w' := by
  have := lnode_any l r w T
  rwa [h.out] at this
theorem svS (l : List UInt8) : sv l = .string ⟨l.toArray⟩ := rfl
set_option maxRecDepth 100000 in
set_option maxHeartbeats 1000000 in
theorem known_any (w : World) (T : Tabs w) :
    Calls Tryd.prog 9 #[] w fun e w' => e = .returned (.bool true) ∧ Below w.heap.size w w' := by
  obtain ⟨a, ha⟩ : ∃ a, Hid (lf 1 = a) := ⟨_, rfl⟩
  obtain ⟨b, hb⟩ : ∃ a, Hid (lf 2 = a) := ⟨_, rfl⟩
  obtain ⟨c, hc⟩ : ∃ a, Hid (lf 3 = a) := ⟨_, rfl⟩
  have la : a.length = 32 := by rw [← ha.out, lf_length]
  have lb : b.length = 32 := by rw [← hb.out, lf_length]
  have lc : c.length = 32 := by rw [← hc.out, lf_length]
  obtain ⟨N, hN⟩ : ∃ N, Hid (Tree.nd a b = N) := ⟨_, rfl⟩
  obtain ⟨R, hR⟩ : ∃ R, Hid (Tree.nd N c = R) := ⟨_, rfl⟩
  have hR' : Hid (Tree.nd (Tree.nd a b) c = R) := by unfold Hid; rw [hN.out]; exact hR.out
  have lN : N.length = 32 := by rw [← hN.out, Tree.nd_length la lb]
  have lR : (ByteArray.mk R.toArray).size = 32 := by rw [sv_size, ← hR.out, Tree.nd_length lN lc]
  have HT := hid T
  have hT := T.lt
  clear T
  go_enter Tryd.func9, Tryd.ntmps9
  go_wp2_with (first
    | (go_at_call 38; with_reducible refine (split2 _).mono ?_; rintro e w0 ⟨rfl, rfl⟩)
    | (go_at_call 38; with_reducible refine (split3 _).mono ?_; rintro e w0 ⟨rfl, rfl⟩)
    | (go_at_call 38; with_reducible refine (split9 _).mono ?_; rintro e w0 ⟨rfl, rfl⟩)
    | (go_at_call 39; fail))
  refine (lleaf_at 1 a ha _).mono ?_
  rintro e w1 ⟨rfl, hw1⟩
  go_wp2_with (go_at_call 39; fail)
  refine (lleaf_at 2 b hb _).mono ?_
  rintro e w2 ⟨rfl, hw2⟩
  go_wp2_with (go_at_call 39; fail)
  refine (lleaf_at 3 c hc _).mono ?_
  rintro e w3 ⟨rfl, hw3⟩
  have B3 := hid ((hw1.trans (hw2.mono hw1.size)).trans (hw3.mono (Nat.le_trans hw1.size hw2.size)))
  clear hw1 hw2 hw3
  rw [svS a, svS b, svS c]
  have A4 := hid (at3 w3 a b c)
  have B4 := hid (B3.out.alloc B3.out.size (.cells #[sv a, sv b, sv c] 9))
  clear B3
  go_wp2_with (go_at_call 33; fail)
  have T4 := hid (HT.out.below B4.out hT)
  refine (Root3 a b c R la lb lc hR' _ _ A4.out T4.out).mono ?_
  rintro e w5 ⟨rfl, hw5⟩
  have B5 := hid (B4.out.trans (hw5.mono B4.out.size))
  have A5 := hid (A4.out.below hw5 (Nat.le_refl _))
  have T5 := hid (HT.out.below B5.out hT)
  clear hw5 A4 B4 T4
  go_wp2_with (go_at_call 11; fail)
  refine (Path3 a b c N la lb lc hN _ _ A5.out T5.out).mono ?_
  rintro e w6 ⟨y, cap, rfl, hcell, hlt, hw6⟩
  have B6 := hid (B5.out.trans (hw6.mono B5.out.size))
  have T6 := hid (HT.out.below B6.out hT)
  clear hw6 A5 B5 T5
  go_wp2_with (go_at_call 39; fail)
  refine (lleaf_at 1 a ha _).mono ?_
  rintro e w7 ⟨rfl, hw7⟩
  go_wp2_with (go_at_call 39; fail)
  refine (lleaf_at 2 b hb _).mono ?_
  rintro e w8 ⟨rfl, hw8⟩
  have H8 := hid (hw7.trans (hw8.mono hw7.size))
  have B8 := hid (B6.out.trans (H8.out.mono B6.out.size))
  have hcell8 := (H8.out.cell (p := y) hlt).trans hcell
  have hlt8 := Nat.lt_of_lt_of_le hlt H8.out.size
  have T8 := hid (HT.out.below B8.out hT)
  clear hw7 hw8 H8 hcell hlt B6 T6
  go_wp2_with (go_at_call 40; fail)
  refine (lnode_at a b N hN _ T8.out).mono ?_
  rintro e w9 ⟨rfl, hw9⟩
  have B9 := hid (B8.out.trans (hw9.mono B8.out.size))
  have hcell9 := (hw9.cell (p := y) hlt8).trans hcell8
  have hlt9 := Nat.lt_of_lt_of_le hlt8 hw9.size
  clear hw9 hcell8 hlt8 B8 T8
  rw [svS R]
  go_wp2_with (go_at_call 39; fail)
  refine (lleaf_at 3 c hc _).mono ?_
  rintro e w10 ⟨rfl, hw10⟩
  have B10 := hid (B9.out.trans (hw10.mono B9.out.size))
  have hcell10 := (hw10.cell (p := y) hlt9).trans hcell9
  have hlt10 := Nat.lt_of_lt_of_le hlt9 hw10.size
  have T10 := hid (HT.out.below B10.out hT)
  clear hw10 hcell9 hlt9 B9
  go_wp2_with (go_at_call 40; fail)
  refine (lnode_at N c R hR _ T10.out).mono ?_
  rintro e w11 ⟨rfl, hw11⟩
  have B11 := hid (B10.out.trans (hw11.mono B10.out.size))
  have hcell11 := (hw11.cell (p := y) hlt10).trans hcell10
  clear hw11 hcell10 hlt10 B10 T10
  rw [svS R, svS N]
  rw [svS N] at hcell11
  go_wp2_with (go_at_call 38; with_reducible refine (split3 _).mono ?_; rintro e w0 ⟨rfl, rfl⟩)
  go_ret
  exact ⟨rfl, B11.out⟩
end Go.Proofs.YtkbngmhhlpdpnaaDoor
