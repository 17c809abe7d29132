import Derived.Test.YtmpaliocfikifaaDoorCK3
import Derived.BigQuiet
import Derived.Deep.RegionHeld3
import Derived.Lib.AppendZeros
import Derived.BigRegion
import Derived.Laws.EntriesVeiled
import Derived.Test.YtmpaliocfikifaaDoorCFR2
namespace Go.Proofs.YtmpaliocfikifaaDoor
open Go.RowKit
/-- a range among the values -/
abbrev rng (b e : Int) (v : Value) : Value := .agg #[.int .i64 b, .int .i64 e, v]
theorem drewBelow5 {w w' : World} (h : Below w.drew.heap.size w.drew w') : Below w.heap.size w w' := (Below.refl _ w).drew.trans h
/-- F4: may a range be one, whatever its hashes are? -/
def rgt (b e : Int) (k : Nat) : Bool := decide (0 ≤ b ∧ b ≤ 1099511627776 ∧ 0 ≤ e ∧ e ≤ 1099511627776 ∧ b ≤ e ∧ k = (Cut.cut b.toNat e.toNat).length)
end Go.Proofs.YtmpaliocfikifaaDoor

namespace Go.Proofs.YtmpaliocfikifaaDoor
open Go.RowKit

def sliceLen : Value → Nat
  | .slice _ n _ => n
  | _ => 0

end Go.Proofs.YtmpaliocfikifaaDoor

namespace Go.Proofs.YtmpaliocfikifaaDoor
open Go.RowKit

theorem nv_set (l : List Nat) (m v : Nat) (h : 0 < m) : (nv (l ++ List.replicate m 0)).toArray.setIfInBounds l.length (.int .i64 (v : Int)) = (nv ((l ++ [v]) ++ List.replicate (m - 1) 0)).toArray := by
  obtain ⟨m, rfl⟩ : ∃ n, m = n + 1 := ⟨m - 1, by omega⟩
  simp [nv, List.replicate_succ]
theorem rstep_cells (kk ww a b c d e f g h X Y : Nat) (hX : X = Sha.xOf kk ww ⟨a, b, c, d, e, f, g, h⟩) (hY : Y = Sha.yOf ⟨a, b, c, d, e, f, g, h⟩) :
    #[Value.int .i64 (((X + Y) % 4294967296 : Nat) : Int), Value.int .i64 (a : Int), Value.int .i64 (b : Int), Value.int .i64 (c : Int), Value.int .i64 (((d + X) % 4294967296 : Nat) : Int), Value.int .i64 (e : Int), Value.int .i64 (f : Int), Value.int .i64 (g : Int)] = (nv (Sha.step kk ww ⟨a, b, c, d, e, f, g, h⟩).l).toArray := by
  subst hX hY; rfl
theorem nvk_size : (nv Sha.kTab).toArray.size = 64 := by rw [List.size_toArray, nv_length, kTab_length]
theorem nv8_size (s : Sha.St) : (nv s.l).toArray.size = 8 := rfl
/-- s[i] of a string -/
theorem index_str (s : ByteArray) (i : Int) (k : Nat) (hi : i = (k : Int)) (h : k < s.size) :
    ∃ x : Nat, Hid (x = (s.data.toList.getD k 0).toNat) ∧ x < 256 ∧ ∀ w, (Instr.index 9 (.string s) (.int .i64 i)).run Tryd.prog w = .ok (.int .u8 (x : Int)) w := by
  refine ⟨_, rfl, UInt8.toNat_lt _, fun w => ?_⟩
  subst hi
  rw [run_index_string w 9 s .i64 (k : Int) Tryd.underlying9]
  simp [h]
  rfl

theorem w64_2 (a b : Nat) (ha : a < 4294967296) (hb : b < 4294967296) : wrap64 ((a : Int) + (b : Int)) = (a : Int) + (b : Int) := by unfold wrap64; omega
theorem w64 (n : Int) (h0 : 0 ≤ n) (h1 : n < 9223372036854775808) : wrap64 n = n := by unfold wrap64; omega

end Go.Proofs.YtmpaliocfikifaaDoor

namespace Go.Proofs.YtmpaliocfikifaaDoor
open Go.RowKit

theorem beSt_step (l : List Nat) (k : Nat) (h : k < l.length) : ((l.take (k + 1)).map (Sha.be · 4)).flatten = ((l.take k).map (Sha.be · 4)).flatten ++ Sha.be (l.getD k 0) 4 := by
  rw [List.take_succ_eq_append_getElem h, List.map_append, List.flatten_append, List.getD_eq_getElem?_getD, List.getElem?_eq_getElem h]
  simp
theorem beSt_all (s : Sha.St) : (s.l.map (Sha.be · 4)).flatten = s.bytes := by
  simp [Sha.St.l, Sha.St.bytes]
theorem beSt_len (l : List Nat) (k : Nat) : ((l.take k).map (Sha.be · 4)).flatten.length ≤ 4 * k := by
  induction k with
  | zero => simp
  | succ k ih =>
    by_cases h : k < l.length
    · rw [beSt_step l k h, List.length_append, Sha.be_length]; omega
    · rw [List.take_of_length_le (by omega)] at ih ⊢; omega

theorem mid_size' (s : ByteArray) (a b : Nat) (h : b ≤ s.size) : (s.extract a b).size = b - a := by
  rw [← data_length, Lib.extract_data, List.length_take, List.length_drop, data_length]; omega
theorem foldAll_ok : ∀ (k : Nat) (s : Sha.St) (l : List UInt8), s.ok → (Sha.foldAll s k l).ok
  | 0, _, _, h => h
  | k + 1, _, _, _ => foldAll_ok k _ _ (Sha.fold_ok _ _)

theorem store_nv (P : Program) (b : Nat) (F : Sha.St) (w : World) (h : w.there b 0 8) : (storeCells ⟨b, 0, none⟩ (nv F.l)).run P w = .ok () (w.setCells b 0 (nv F.l)) := by
  have h8 : (nv F.l).length = 8 := by simp [Sha.St.l]
  have := run_storeCells_cells (P := P) b 0 (nv F.l) 0 w (fun j hj => by simpa using (h j (by omega)).1) (fun j hj => by simpa using (h j (by omega)).2) (fun v hv => nv_mem hv)
  simpa using this
end Go.Proofs.YtmpaliocfikifaaDoor

namespace Go.Proofs.YtmpaliocfikifaaDoor
open Go.RowKit

theorem app_data (a b : ByteArray) : (a ++ b).data.toList = a.data.toList ++ b.data.toList := by
  have h := ByteArray.mk_append_mk a.data.toList b.data.toList
  rw [Array.toArray_toList, Array.toArray_toList] at h
  have h2 : a ++ b = ⟨(a.data.toList ++ b.data.toList).toArray⟩ := h
  rw [h2]
theorem app_size (a b : ByteArray) : (a ++ b).size = a.size + b.size := by rw [← data_length, app_data, List.length_append, data_length, data_length]
theorem joined_size (l r : ByteArray) (hl : l.size = 32) (hr : r.size = 32) : ({ data := #[1] } ++ l ++ r : ByteArray).size = 65 := by
  rw [app_size, app_size, hl, hr]; rfl
theorem joined_data (l r : ByteArray) : ({ data := #[1] } ++ l ++ r : ByteArray).data.toList = 1 :: (l.data.toList ++ r.data.toList) := by
  rw [app_data, app_data, List.append_assoc]; rfl
end Go.Proofs.YtmpaliocfikifaaDoor

namespace Go.Proofs.YtmpaliocfikifaaDoor
open Go.RowKit

theorem nodeOf_nd (l r : List UInt8) : (nodeOf l r).1 = Tree.nd l r := by unfold nodeOf Tree.nd; split <;> rfl
theorem node_at {l r n : List UInt8} {c : Int} (h : Hid (nodeOf l r = (n, c))) (w : World) (T : Tabs w) :
    Calls Tryd.prog 67 #[sv l, sv r] w fun e w' => e = .returned (.tuple #[sv n, .int .i64 c]) ∧ Below w.heap.size w w' := by
  have := node_any ⟨l.toArray⟩ ⟨r.toArray⟩ w T
  rw [show (ByteArray.mk l.toArray).data.toList = l from rfl, show (ByteArray.mk r.toArray).data.toList = r from rfl, h.out] at this
  exact this
theorem emptySize' : (ByteArray.mk #[]).size = 0 := rfl
/-- texts that lie at an address -/
def At (w : World) (a : Option Addr) (l : List (List UInt8)) : Prop := ∀ j p, l[j]? = some p → ∃ x : Addr, a = some x ∧ x.block < w.heap.size ∧ w.cell? (x.add j) = some (sv p)
theorem addr_block (x : Addr) (j : Nat) : (x.add j).block = x.block := by unfold Addr.add; split <;> rfl
theorem addr_zero (x : Addr) : x.add 0 = x := rfl
theorem addr_add (x : Addr) (i j : Nat) : (x.add i).add j = x.add (i + j) := by
  unfold Addr.add
  by_cases hi : i = 0
  · subst hi; simp
  · by_cases hj : j = 0
    · subst hj; simp
    · rw [if_neg hi, if_neg hj, if_neg (by omega)]; simp; omega
theorem At.nil (w : World) (a : Option Addr) : At w a [] := fun j p h => by simp at h
theorem At.below {w w' : World} {a : Option Addr} {l : List (List UInt8)} {B : Nat} (h : At w a l) (hb : Below B w w') (hB : w.heap.size ≤ B) : At w' a l := fun j p hp => by
  obtain ⟨x, rfl, hx, hc⟩ := h j p hp
  exact ⟨x, rfl, Nat.lt_of_lt_of_le hx hb.size, (hb.cell (p := x.add j) (by rw [addr_block]; omega)).trans hc⟩
theorem At.heap {w w' : World} {a : Option Addr} {l : List (List UInt8)} (h : At w a l) (e : w'.heap = w.heap) : At w' a l := fun j p hp => by
  obtain ⟨x, rfl, hx, hc⟩ := h j p hp
  refine ⟨x, rfl, by rw [e]; exact hx, ?_⟩
  rw [← hc]
  exact World.cell?_of_block (w := w) (by rw [e])
theorem At.take {w : World} {a : Option Addr} {l : List (List UInt8)} (h : At w a l) (k : Nat) : At w a (l.take k) := fun j p hp => by
  rw [List.getElem?_take] at hp
  split at hp
  · exact h j p hp
  · cases hp
theorem At.drop {w : World} {x : Addr} {l : List (List UInt8)} (h : At w (some x) l) (k : Nat) : At w (some (x.add k)) (l.drop k) := fun j p hp => by
  rw [List.getElem?_drop] at hp
  obtain ⟨y, hy, hx, hc⟩ := h (k + j) p hp
  obtain rfl := Option.some.inj hy
  exact ⟨_, rfl, by rw [addr_block]; exact hx, by rw [addr_add]; exact hc⟩
theorem At.pos {w : World} {a : Option Addr} {l : List (List UInt8)} (h : At w a l) (hl : 0 < l.length) : ∃ x, a = some x := by
  obtain ⟨x, hx, _⟩ := h 0 _ (List.getElem?_eq_getElem hl)
  exact ⟨x, hx⟩
theorem At.cell {w : World} {x : Addr} {l : List (List UInt8)} (h : At w (some x) l) (j : Nat) (hj : j < l.length) : ∃ s : ByteArray, Hid (s.data.toList = l[j]) ∧ w.cell? (x.add j) = some (.string s) := by
  obtain ⟨y, hy, _, hc⟩ := h j _ (List.getElem?_eq_getElem hj)
  obtain rfl := Option.some.inj hy
  exact ⟨⟨(l[j]).toArray⟩, rfl, hc⟩

set_option maxRecDepth 100000 in
set_option maxHeartbeats 2000000 in
theorem cut_any (x : Addr) (n cap k : Nat) (hk : k < n) (hn : n ≤ cap) (w : World) :
    Calls Tryd.prog 63 #[.slice (some x) n cap, .int .i64 k] w fun e w' =>
      e = .returned (.tuple #[.slice (some x) k k, .slice (some (x.add k)) (n - k) (n - k)]) ∧ Below w.heap.size w w' ∧ w'.heap = w.heap := by
  have hne : ¬ n = k := by omega
  go_enter Tryd.func63, Tryd.ntmps63
  go_wp2
  go_quiet (fail)
  go_wp2
  go_ret2
  exact ⟨rfl, below_drewN (Below.refl _ _) _, rfl⟩
end Go.Proofs.YtmpaliocfikifaaDoor

namespace Go.Proofs.YtmpaliocfikifaaDoor
open Go.RowKit

end Go.Proofs.YtmpaliocfikifaaDoor

namespace Go.Proofs.YtmpaliocfikifaaDoor
open Go.RowKit

/-- the closure that calls itself, in its own variable -/
def rootFn (c : Nat) : Value := .func (.func 66) #[] #[.pointer (some ⟨c, 0, none⟩)]
set_option maxRecDepth 100000 in
set_option maxHeartbeats 400000 in
theorem root1_nil (a : Option Addr) (cap c : Nat) (w : World) (T : Tabs w) :
    Calls Tryd.prog 66 #[.slice a 0 cap, .pointer (some ⟨c, 0, none⟩)] w fun e w' => e = .returned (sv (Tree.root [])) ∧ Below w.heap.size w w' := by
  rw [Tree.root_nil]
  have he := empty_any w T
  obtain ⟨D, hD⟩ : ∃ D, Sha.sha [] = D := ⟨_, rfl⟩
  rw [hD] at he ⊢
  clear hD
  go_enter Tryd.func66, Tryd.ntmps66
  go_wp2_with (go_at_call 59; refine he.mono ?_; rintro e w1 ⟨rfl, hw1⟩)
  go_ret
  exact ⟨rfl, hw1⟩
set_option maxRecDepth 100000 in
set_option maxHeartbeats 400000 in
theorem root1_one (p : List UInt8) (a : Option Addr) (cap c : Nat) (w : World) (hA : At w a [p]) :
    Calls Tryd.prog 66 #[.slice a 1 cap, .pointer (some ⟨c, 0, none⟩)] w fun e w' => e = .returned (sv (Tree.root [p])) ∧ Below w.heap.size w w' := by
  rw [Tree.root_one]
  obtain ⟨x, rfl, hx, hc⟩ := hA 0 p rfl
  rw [addr_zero] at hc
  go_enter Tryd.func66, Tryd.ntmps66
  go_wp2
  go_ret
  exact ⟨rfl, Below.refl _ _⟩
theorem cell_below {w w' : World} {c : Nat} {v : Value} (h : w.cell? ⟨c, 0, none⟩ = some v) (hb : Below w.heap.size w w') : w'.cell? ⟨c, 0, none⟩ = some v :=
  (hb.cell (p := ⟨c, 0, none⟩) (block_lt_of_cell h)).trans h
set_option maxRecDepth 100000 in
set_option maxHeartbeats 2000000 in
theorem root1_any : ∀ (f : Nat) (l : List (List UInt8)) (a : Option Addr) (cap c : Nat) (w : World), l.length ≤ f → l.length ≤ cap → cap ≤ 9223372036854775807 → At w a l → Tabs w →
    w.cell? ⟨c, 0, none⟩ = some (.func (.func 66) #[] #[.pointer (some ⟨c, 0, none⟩)]) →
    Calls Tryd.prog 66 #[.slice a l.length cap, .pointer (some ⟨c, 0, none⟩)] w fun e w' => e = .returned (sv (Tree.root l)) ∧ Below w.heap.size w w' := by
  intro f
  induction f with
  | zero =>
    intro l a cap c w hf hl hc hA T hcl
    obtain rfl : l = [] := List.length_eq_zero_iff.1 (by omega)
    exact root1_nil a cap c w T
  | succ f ih =>
    intro l a cap c w hf hl hc hA T hcl
    match l, hf, hl, hA with
    | [], _, _, _ => exact root1_nil a cap c w T
    | [p], _, _, hA => exact root1_one p a cap c w hA
    | p :: q :: t, hf, hl, hA =>
      obtain ⟨n, hn⟩ : ∃ n, (p :: q :: t).length = n := ⟨_, rfl⟩
      have h2 : 2 ≤ n := by rw [← hn]; simp
      obtain ⟨x, rfl⟩ := hA.pos (by rw [hn]; omega)
      have e := hid (Tree.root_cut (l := p :: q :: t) (by rw [hn]; exact h2))
      generalize p :: q :: t = l at *
      rw [hn] at e hf hl ⊢
      have k1 := Tree.sp_lt h2
      have k2 := Tree.sp_pos h2
      have hs : spI (n : Int) = ((Tree.sp n : Nat) : Int) := rfl
      generalize Tree.sp n = k at *
      have l1 : (l.take k).length = k := by rw [List.length_take, hn]; omega
      have l2 : (l.drop k).length = n - k := by rw [List.length_drop, hn]
      have c1 := fun w' (h : At w' (some x) (l.take k)) => ih (l.take k) (some x) k c w' (by omega) (by omega) (by omega) h
      have c2 := fun w' (h : At w' (some (x.add k)) (l.drop k)) => ih (l.drop k) (some (x.add k)) (n - k) c w' (by omega) (by omega) (by omega) h
      rw [l1] at c1
      rw [l2] at c2
      have n1 : ((n : Int) == 0) = false := by simp; omega
      have n2 : ((n : Int) == 1) = false := by simp; omega
      have A1 := hid (hA.take k)
      have A2 := hid (hA.drop k)
      generalize hp1 : Tree.root (l.take k) = r1 at *
      generalize hp2 : Tree.root (l.drop k) = r2 at *
      obtain ⟨m, d, hm⟩ : ∃ m d, Hid (nodeOf r1 r2 = (m, d)) := ⟨_, _, rfl⟩
      have e' := hid (show Tree.root l = m by rw [e.out, ← nodeOf_nd, hm.out])
      have HT := hid T
      clear hA ih hn e hp1 hp2 T
      go_enter Tryd.func66, Tryd.ntmps66
      go_wp2_with (first
        | (go_at_call 62; refine (split_any (n : Int) (by omega) (by omega) _).mono ?_; rintro e w0 ⟨rfl, rfl⟩; rw [hs])
        | (go_at_call 63; refine (cut_any x n cap k k1 hl _).mono ?_; rintro e wc ⟨rfl, hbc, hhc⟩; have hcl0 := cell_below hcl hbc))
      have Bc := hid hbc.drew
      have A1c := hid (A1.out.heap (w' := wc.drew) hhc)
      have A2c := hid (A2.out.heap (w' := wc.drew) hhc)
      have Tc := hid (HT.out.below hbc.drew HT.out.lt)
      have hcl1 : wc.drew.cell? ⟨c, 0, none⟩ = some (.func (.func 66) #[] #[.pointer (some ⟨c, 0, none⟩)]) := hcl0
      clear hbc hhc A1 A2 HT hcl hcl0
      go_region_with (first
        | (go_at_call 66; with_reducible refine (c1 _ A1c.out Tc.out hcl1).mono ?_; rintro e w1 ⟨rfl, hw1⟩; have hcl2 := cell_below hcl1 hw1)
        | (go_at_call 66; with_reducible refine (c2 _ (A2c.out.below hw1 (Nat.le_refl _)) (Tc.out.below hw1 Tc.out.lt) hcl2).mono ?_; rintro e w2 ⟨rfl, hw2⟩)
        | (go_at_call 67; refine (node_at hm _ ((Tc.out.below hw1 Tc.out.lt).below hw2 (Tc.out.below hw1 Tc.out.lt).lt)).mono ?_; rintro e w3 ⟨rfl, hw3⟩))
      all_goals
        have s1 := hw1.size
        have s2 := hw2.size
        have s3 := Bc.out.size
        have Bf := hid (((Bc.out.trans (hw1.mono (by omega))).trans (hw2.mono (by omega))).trans (hw3.mono (by omega)))
        clear hw1 hw2 hw3 s1 s2 s3 Bc
        go_wp2
        go_ret
        exact ⟨by rw [e'.out]; rfl, Bf.out⟩
end Go.Proofs.YtmpaliocfikifaaDoor

namespace Go.Proofs.YtmpaliocfikifaaDoor
open Go.RowKit

set_option maxRecDepth 100000 in
set_option maxHeartbeats 400000 in
/-- the program's root -/
theorem root_any (l : List (List UInt8)) (a : Option Addr) (cap : Nat) (w : World) (hl : l.length ≤ cap) (hc : cap ≤ 9223372036854775807) (hA : At w a l) (T : Tabs w) :
    Calls Tryd.prog 41 #[.slice a l.length cap] w fun e w' => e = .returned (sv (Tree.root l)) ∧ Below w.heap.size w w' := by
  have hmf : ∀ (fn : Fn) (first cap : Array Value) (w : World), (Instr.makeFunc fn first cap).run Tryd.prog w = .ok (.func fn first cap) w := fun _ _ _ _ => rfl
  generalize hn : l.length = n at *
  go_enter Tryd.func41, Tryd.ntmps41
  have hb := (Below.refl w.heap.size w).alloc (Nat.le_refl _) (.cells #[Value.func (.func 66) #[] #[Value.pointer (some ⟨w.heap.size, 0, none⟩)]] 86)
  have hc1 := root1_any n l a cap w.heap.size (w.alloc (.cells #[Value.func (.func 66) #[] #[Value.pointer (some ⟨w.heap.size, 0, none⟩)]] 86)) (by omega) (by omega) hc (hA.below hb (Nat.le_refl _)) (T.below hb T.lt)
    (by rw [cell_of_row _ _ _ _ _ _ (heap_alloc_new w _)]; rfl)
  rw [hn] at hc1
  clear hn hA T hc hl
  go_wp2_with (go_at_call 66; refine hc1.mono ?_; rintro e w1 ⟨rfl, hw1⟩)
  go_ret
  exact ⟨rfl, hb.trans (hw1.mono (by rw [size_alloc]; omega))⟩

/-- T2 -/
def wrg (l : List (List UInt8)) : Int := if 4096 < l.length then 31 else if l.all (·.length == 32) then 0 else 32
theorem all_take (l : List (List UInt8)) (k : Nat) (hk : k < l.length) (h : (l.take k).all (·.length == 32) = true) (h2 : (l[k]).length = 32) : (l.take (k + 1)).all (·.length == 32) = true := by
  rw [List.take_succ_eq_append_getElem hk, List.all_append, h]
  simp [h2]
theorem all_not (l : List (List UInt8)) (k : Nat) (hk : k < l.length) (h2 : ¬ (l[k]).length = 32) : l.all (·.length == 32) = false := by
  rw [List.all_eq_false]
  exact ⟨l[k], List.getElem_mem hk, by simpa using h2⟩
set_option maxRecDepth 100000 in
set_option maxHeartbeats 400000 in
theorem check_any (l : List (List UInt8)) (a : Option Addr) (cap : Nat) (w : World) (hc : l.length ≤ 9223372036854775807) (hA : At w a l) :
    Calls Tryd.prog 38 #[.slice a l.length cap] w fun e w' => e = .returned (.int .i64 (wrg l)) ∧ w' = w := by
  generalize hn : l.length = n at *
  by_cases h1 : 4096 < n
  · have h' : (4096 : Int) < (n : Int) := by omega
    go_enter Tryd.func38, Tryd.ntmps38
    go_wp2
    go_ret
    exact ⟨by rw [wrg, if_pos (by omega)]; rfl, rfl⟩
  · have h' : ¬ (4096 : Int) < (n : Int) := by omega
    have HA := hid hA
    have e1 := hid (show wrg l = if l.all (·.length == 32) then 0 else 32 by rw [wrg, if_neg (by omega)])
    clear hA
    go_enter Tryd.func38, Tryd.ntmps38
    go_wp2
    go_loopw [10] (fun i w' => ∃ k : Nat, k ≤ n ∧ i = .int .i64 (k : Int) ∧ Hid ((l.take k).all (·.length == 32) = true) ∧ w' = w) (fun i _ => n - (intOf i).toNat)
    case atStart => exact ⟨0, by omega, rfl, rfl, rfl⟩
    case round =>
      obtain ⟨k, hk, rfl, hall, rfl⟩ := hrel
      by_cases hkn : k < n
      · have b0 : (k : Int) < (n : Int) := by omega
        obtain ⟨x, rfl⟩ := HA.out.pos (by omega)
        obtain ⟨s, hs, hcell⟩ := HA.out.cell k (by omega)
        by_cases h32 : s.size = 32
        · have b1 : ((s.size : Int) != 32) = false := by simp; omega
          have e2 := hid (all_take l k (by omega) hall.out (by rw [← hs.out, data_length]; exact h32))
          clear HA
          go_wp2
          exact ⟨⟨k + 1, by omega, by go_num, e2, trivial⟩, by simp [intOf]; omega⟩
        · have b1 : ((s.size : Int) != 32) = true := by simp; omega
          have e2 := hid (all_not l k (by omega) (by rw [← hs.out, data_length]; exact h32))
          clear HA
          go_wp2
          go_ret
          exact ⟨by rw [e1.out, e2.out]; rfl, rfl⟩
      · obtain rfl : k = n := by omega
        have b0 : ¬ (k : Int) < (k : Int) := by omega
        rw [← hn, List.take_length] at hall
        go_wp2
        go_ret
        exact ⟨by rw [e1.out, hall.out]; rfl, rfl⟩
/-- T3 -/
def rootOut (l : List (List UInt8)) : List UInt8 × Int := if wrg l = 0 then (Tree.root l, 0) else ([], wrg l)
set_option maxRecDepth 100000 in
set_option maxHeartbeats 400000 in
theorem Root_any (l : List (List UInt8)) (a : Option Addr) (cap : Nat) (w : World) (hl : l.length ≤ cap) (hc : cap ≤ 9223372036854775807) (hA : At w a l) (T : Tabs w) :
    Calls Tryd.prog 19 #[.slice a l.length cap] w fun e w' => e = .returned (.tuple #[sv (rootOut l).1, .int .i64 (rootOut l).2]) ∧ Below w.heap.size w w' := by
  have h1 := check_any l a cap w (by omega) hA
  have h2 := root_any l a cap w hl hc hA T
  generalize l.length = n at *
  unfold rootOut
  generalize Tree.root l = r at *
  by_cases h : wrg l = 0
  · rw [if_pos h]
    rw [h] at h1
    clear h hA T
    go_enter Tryd.func19, Tryd.ntmps19
    go_wp2_with (first
      | (go_at_call 38; refine h1.mono ?_; rintro e w1 ⟨rfl, rfl⟩)
      | (go_at_call 41; refine h2.mono ?_; rintro e w2 ⟨rfl, hw2⟩))
    go_ret2
    exact ⟨rfl, hw2⟩
  · rw [if_neg h]
    generalize wrg l = z at *
    have b0 : (z != 0) = true := by simpa using h
    clear hA T h2
    go_enter Tryd.func19, Tryd.ntmps19
    go_wp2_with (go_at_call 38; refine h1.mono ?_; rintro e w1 ⟨rfl, rfl⟩)
    go_ret2
    exact ⟨rfl, Below.refl _ _⟩
end Go.Proofs.YtmpaliocfikifaaDoor

namespace Go.Proofs.YtmpaliocfikifaaDoor.Tree
theorem path_length : ∀ (f m : Nat) (l : List T), l.length ≤ f → (path m l).length ≤ l.length
  | 0, m, l, h => by rw [path_small (by omega)]; simp
  | f + 1, m, l, h => by
    by_cases h2 : l.length < 2
    · rw [path_small h2]; simp
    · have a := sp_lt (n := l.length) (by omega)
      have b := sp_pos (n := l.length) (by omega)
      rw [path_cut (by omega)]
      split
      · have := path_length f m (l.take (sp l.length)) (by simp; omega)
        simp at *; omega
      · have := path_length f (m - sp l.length) (l.drop (sp l.length)) (by simp; omega)
        simp at *; omega
theorem proof_length : ∀ (f m : Nat) (l : List T) (whole : Bool), l.length ≤ f → 1 ≤ m → m ≤ l.length → (proof m l whole).length ≤ l.length
  | 0, m, l, _, h, h1, h2 => by omega
  | f + 1, m, l, whole, h, h1, h2 => by
    by_cases he : m = l.length
    · subst he
      cases whole
      · rw [proof_part h1]; simpa using h1
      · rw [proof_whole h1]; simp
    · have a := sp_lt (n := l.length) (by omega)
      have b := sp_pos (n := l.length) (by omega)
      by_cases hk : m ≤ sp l.length
      · rw [proof_left h1 (by omega) hk]
        have := proof_length f m (l.take (sp l.length)) whole (by simp; omega) h1 (by simp; omega)
        simp at *; omega
      · rw [proof_right h1 (by omega) hk]
        have := proof_length f (m - sp l.length) (l.drop (sp l.length)) false (by simp; omega) (by omega) (by simp; omega)
        simp at *; omega
theorem many_length : ∀ (f : Nat) (is : List Nat) (b : Nat) (l : List T), l.length ≤ f → 1 ≤ l.length → (many is b l).length ≤ l.length
  | 0, is, b, l, h, h1 => by omega
  | f + 1, is, b, l, h, h1 => by
    by_cases hi : is = []
    · subst hi; rw [many_none h1]; simpa using h1
    · by_cases h2 : l.length = 1
      · rw [many_one hi h2]; simp
      · have x := sp_lt (n := l.length) (by omega)
        have y := sp_pos (n := l.length) (by omega)
        rw [many_cut hi (by omega)]
        have := many_length f (is.filter (· < b + sp l.length)) b (l.take (sp l.length)) (by simp; omega) (by simp; omega)
        have := many_length f (is.filter (b + sp l.length ≤ ·)) (b + sp l.length) (l.drop (sp l.length)) (by simp; omega) (by simp; omega)
        simp at *; omega
end Go.Proofs.YtmpaliocfikifaaDoor.Tree
namespace Go.Proofs.YtmpaliocfikifaaDoor
open Go.RowKit
def svs (L : List (List UInt8)) : List Value := L.map sv
theorem svs_length (L : List (List UInt8)) : (svs L).length = L.length := by simp [svs]
theorem infoS : (Tryd.prog.info? 9).map (fun i => (i.zero, i.size, i.bytes)) = some (some (.string ⟨#[]⟩), 1, 16) := by kernel_rfl
/-- append(l, s) -/
theorem append_text (w : World) (base : Nat) (v : Value) (L : List (List UInt8)) (p : List UInt8) (hown : Own w base v (svs L)) (hlen : L.length ≤ 2000000) (hbase : base ≤ w.heap.size) :
    ∃ v' w', (Builtin.append_ #[29, 29] 29 #[v, .slice (some ⟨w.heap.size, 0, none⟩) 1 1]).run Tryd.prog (w.alloc (.cells #[sv p] 9)) = .ok v' w' ∧ Own w' base v' (svs (L ++ [p])) ∧ Below base w w' := by
  obtain ⟨i0, hi, hz0, hz1, hz2⟩ := info_parts infoS
  have hsrc : Src Tryd.prog 1 29 (.slice (some ⟨w.heap.size, 0, none⟩) 1 1) 1 [sv p] (w.alloc (.cells #[sv p] 9)) :=
    Src.ofSlice _ Tryd.underlying29 ⟨w.heap.size, 0, none⟩ 1 1 [sv p] (by simp) (fun j u hj => by
      rw [Addr.add_mid, cell_of_row _ _ _ _ _ _ (heap_alloc_new w _), Nat.zero_add]; simpa using hj) (fun u hu => by simp at hu; subst hu; rfl)
  obtain ⟨v', w', h1, h2, h3, h4⟩ := run_append_O (P := Tryd.prog) (w.alloc (.cells #[sv p] 9)) base 29 29 29 9 i0 (.string ⟨#[]⟩) Tryd.underlying29 hi hz0 hz1 rfl v (svs L) (hown.alloc _) _ 1 [sv p] hsrc
    (by rw [svs_length, hz2]; omega) (by rw [svs_length, maxLen]; omega) (by rw [size_alloc]; omega) (fun _ => by omega)
  refine ⟨v', w', h1, by simpa [svs] using h2, ?_⟩
  exact ((Below.refl base w).alloc hbase _).trans (Below.ofGrown h3 hown.ge (by rw [size_alloc]; omega))

/-- a list of one's own comes out -/
def Out (w : World) (L : List (List UInt8)) (e : Ending) (w' : World) : Prop := ∃ v, e = .returned v ∧ Own w' w.heap.size v (svs L) ∧ Below w.heap.size w w'
end Go.Proofs.YtmpaliocfikifaaDoor

namespace Go.Proofs.YtmpaliocfikifaaDoor
open Go.RowKit
theorem svs_one' {L : List (List UInt8)} {v : Value} (h : v ∈ svs L) : v.oneCell' = true := by
  simp only [svs, List.mem_map] at h
  obtain ⟨n, _, rfl⟩ := h
  rfl
/-- a row of texts -/
def Row (w : World) (H : Nat) (L : List (List UInt8)) : Prop := w.heap[H]? = some (.cells (svs L).toArray 9 (0, 0))
theorem Row.lt {w : World} {H : Nat} {L : List (List UInt8)} (h : Row w H L) : H < w.heap.size := lt_of_heap h
theorem Row.cell {w : World} {H : Nat} {L : List (List UInt8)} (h : Row w H L) {j : Nat} {p : List UInt8} (hp : L[j]? = some p) : w.cell? ⟨H, j, none⟩ = some (sv p) := by
  rw [cell_of_row _ _ _ _ _ _ h]; simp [svs, hp]
theorem Row.at {w : World} {H : Nat} {L : List (List UInt8)} (h : Row w H L) : At w (some ⟨H, 0, none⟩) L := fun j p hp => ⟨_, rfl, h.lt, by rw [Addr.add_mid, Nat.zero_add]; exact h.cell hp⟩
theorem Row.free {w : World} {H : Nat} {L : List (List UInt8)} (h : Row w H L) {j : Nat} (hj : j < L.length) : w.frozen? ⟨H, j, none⟩ = false := by
  have := (there_of_row h 0 L.length (by simp [svs])) j hj
  rw [Nat.zero_add] at this
  exact this.2
theorem Row.below {w w' : World} {H B : Nat} {L : List (List UInt8)} (h : Row w H L) (hb : Below B w w') (hB : H < B) : Row w' H L := by
  unfold Row; rw [hb.block H hB]; exact h
theorem Row.heap {w w' : World} {H : Nat} {L : List (List UInt8)} (h : Row w H L) (e : w'.heap = w.heap) : Row w' H L := by
  unfold Row; rw [e]; exact h
theorem Row.set {w : World} {H : Nat} {L : List (List UInt8)} (h : Row w H L) (k : Nat) (x : List UInt8) : Row (w.setCell ⟨H, k, none⟩ (sv x)) H (L.set k x) := by
  have e := setCell_eq_setRow w H k (svs L).toArray 9 (0, 0) (sv x) h
  unfold Row
  rw [e, setRow_heap _ _ _ _ _ _ h]
  refine congrArg (fun A => some (Obj.cells A 9 (0, 0))) ?_
  simp [svs, List.map_set]
theorem infoS1 : (Tryd.prog.info? 9).map (·.size) = some 1 := by kernel_rfl
/-- make([]string, c) -/
theorem make_texts (w : World) (c : Nat) (hc : c ≤ 8796093021960) :
    (Instr.makeSlice 29 (.int .i64 (c : Int)) (.int .i64 (c : Int))).run Tryd.prog w = .ok (.slice (some ⟨w.heap.size, 0, none⟩) c c) (w.alloc (.cells (svs (List.replicate c [])).toArray 9)) := by
  obtain ⟨i0, hi, hz0, hz1, hz2⟩ := info_parts infoS
  have h := run_make (P := Tryd.prog) w 29 9 i0 (.string ⟨#[]⟩) Tryd.underlying29 hi hz0 .i64 .i64 (c : Int) (c : Int) (by omega) (by omega) (by rw [hz2]; omega) (by omega)
  rw [Int.toNat_natCast, hz1, Nat.mul_one] at h
  have e : madeCells (Value.string ⟨#[]⟩).cells c = (svs (List.replicate c [])).toArray := by
    apply Array.ext'
    rw [show (madeCells (Value.string ⟨#[]⟩).cells c).toList = List.replicate c (.string ⟨#[]⟩) from toList_madeCells_one _ _]
    simp [svs]; exact .inr rfl
  rw [e] at h
  exact h
/-- copy(own, l) -/
theorem copy_texts (w : World) (H : Nat) (a : Option Addr) (cap' : Nat) (ps rest : List (List UInt8)) (hs : At w a ps) (hR : Row w H (List.replicate ps.length [] ++ rest)) (m cap : Nat) (hm : m = ps.length + rest.length) :
    ∃ w', (Builtin.copy_ #[29, 29] 3 #[.slice (some ⟨H, 0, none⟩) m cap, .slice a ps.length cap']).run Tryd.prog w = .ok (goInt ps.length) w' ∧ Row w' H (ps ++ rest) ∧ But H w w' := by
  by_cases h0 : ps.length = 0
  · obtain rfl : ps = [] := List.length_eq_zero_iff.1 h0
    exact ⟨w, run_copy_none (P := Tryd.prog) w _ _ _ 9 _ _ _ _ _ _ Tryd.underlying29 infoS1 (by simp), by simpa using hR, But.refl _ _⟩
  · obtain ⟨x, rfl, hx, _⟩ := hs 0 _ (List.getElem?_eq_getElem (by omega))
    have h := run_copy_row (P := Tryd.prog) w 29 29 3 9 H 0 m cap x ps.length cap' _ 9 (svs ps) Tryd.underlying29 infoS1 hR
      (by rw [svs_length]; exact (Nat.min_eq_left (by omega)).symm) (fun j u hu => by
        simp only [svs, List.getElem?_map, Option.map_eq_some_iff] at hu
        obtain ⟨p, hp, rfl⟩ := hu
        obtain ⟨y, hy, _, hc⟩ := hs j p hp
        cases hy
        exact hc) (by simp [svs]) (fun u hu => svs_one' hu)
    refine ⟨_, h.trans (by rw [svs_length]), ?_, (But.refl _ _).setRow _⟩
    unfold Row
    rw [setRow_heap _ _ _ _ _ _ hR]
    refine congrArg (fun A => some (Obj.cells A 9 (0, 0))) ?_
    simp [svs]
end Go.Proofs.YtmpaliocfikifaaDoor

namespace Go.Proofs.YtmpaliocfikifaaDoor
open Go.RowKit
/-- are all of 32 bytes? -/
def hsB (l : List (List UInt8)) : Bool := l.all (·.length == 32)
theorem fold_drop {H : List (List UInt8)} {j j' : Nat} (hj : j' = j + 1) (h : j + 1 < H.length) : Cut.fold (H.drop j) = Tree.nd (H[j]'(by omega)) (Cut.fold (H.drop j')) := by
  subst hj
  rw [List.drop_eq_getElem_cons (by omega), List.drop_eq_getElem_cons h]
  rfl
theorem fold_last {H : List (List UInt8)} {j : Nat} (h : j + 1 = H.length) : Cut.fold (H.drop j) = (H[j]'(by omega)) := by
  rw [List.drop_eq_getElem_cons (by omega), List.drop_eq_nil_of_le (by omega)]
  rfl
end Go.Proofs.YtmpaliocfikifaaDoor

namespace Go.Proofs.YtmpaliocfikifaaDoor
namespace Cut
open Tree
theorem push_len : ∀ (l : List (Nat × Nat)) (b n : Nat), (push l b n).length ≤ l.length + 1
  | [], _, _ => Nat.le_refl _
  | (p, m) :: l, b, n => by
    rw [push]
    split
    · have := push_len l p (2 * n)
      simp only [List.length_cons]; omega
    · simp
theorem pushAll_len : ∀ (l st : List (Nat × Nat)), (pushAll st l).length ≤ st.length + l.length
  | [], st => Nat.le_refl _
  | (b, n) :: l, st => by
    rw [pushAll]
    have := pushAll_len l (push st b n)
    have := push_len st b n
    simp only [List.length_cons]; omega
theorem cut_len_add {a b c : Nat} (h0 : c ≤ 1099511627776) (h1 : a ≤ b) (h2 : b ≤ c) : (cut a c).length ≤ (cut a b).length + (cut b c).length := by
  rw [← join_cut h0 h1 h2, List.length_reverse]
  have := pushAll_len (cut b c) (cut a b).reverse
  rwa [List.length_reverse] at this
theorem cut_len_end {a b k : Nat} (h0 : b + 2 ^ k ≤ 1099511627776) (h1 : a ≤ b) (hb : b % 2 ^ k = 0) (h2 : ¬ (b / 2 ^ k % 2 = 1 ∧ a + 2 ^ k ≤ b)) : (cut a (b + 2 ^ k)).length = (cut a b).length + 1 := by
  have hl : (List.replicate (cut a b).length ([] : T)).length = (cut a b).length := List.length_replicate
  have e1 := takeH_length (x := []) h0 h1 ⟨k, rfl⟩ hb hl
  have e2 := takeH_end (x := []) (by omega) h1 h2 hl
  rw [← e1, e2, List.length_append, hl]
  rfl
/-- from an aligned place on -/
theorem cut_len_right : ∀ (K a b : Nat), b ≤ 1099511627776 → a % 2 ^ K = 0 → a ≤ b → b < a + 2 ^ K → (cut a b).length ≤ K
  | 0, a, b, _, _, h2, h3 => by
    have : (2 : Nat) ^ 0 = 1 := rfl
    obtain rfl : a = b := by omega
    rw [cut_nil]; exact Nat.le_refl _
  | K + 1, a, b, h0, h1, h2, h3 => by
    have hK := two_pos K
    have hd := pow_double K
    have h1' := mod_of_le (Nat.le_succ K) h1
    by_cases h : b < a + 2 ^ K
    · have := cut_len_right K a b h0 h1' h2 h
      omega
    · have hg : grow 40 1 a b = 2 ^ K := grow_one h0 (by omega) h1' (by omega) (fun hh => by omega)
      rw [cut_cons h0 (by omega), hg, List.length_cons]
      have := cut_len_right K (a + 2 ^ K) b h0 (by rw [Nat.add_mod_right]; exact h1') (by omega) (by omega)
      omega
/-- up to an aligned place -/
theorem cut_len_left : ∀ (K a b : Nat), b ≤ 1099511627776 → b % 2 ^ K = 0 → a ≤ b → b < a + 2 ^ K → (cut a b).length ≤ K
  | 0, a, b, _, _, h2, h3 => by
    have : (2 : Nat) ^ 0 = 1 := rfl
    obtain rfl : a = b := by omega
    rw [cut_nil]; exact Nat.le_refl _
  | K + 1, a, b, h0, h1, h2, h3 => by
    have hK := two_pos K
    have hd := pow_double K
    have h1' := mod_of_le (Nat.le_succ K) h1
    by_cases h : b < a + 2 ^ K
    · have := cut_len_left K a b h0 h1' h2 h
      omega
    · obtain ⟨c, rfl⟩ : ∃ c, b = c + 2 ^ K := ⟨b - 2 ^ K, by omega⟩
      have hc : c % 2 ^ K = 0 := by rw [Nat.add_mod_right] at h1'; exact h1'
      rw [cut_len_end h0 (by omega) hc (fun hh => by omega)]
      have := cut_len_left K a c (by omega) hc (by omega) (by omega)
      omega
theorem cut_len_one {a k : Nat} (h0 : a + 2 ^ k ≤ 1099511627776) (h1 : a % 2 ^ k = 0) : (cut a (a + 2 ^ k)).length = 1 := by
  have hK := two_pos k
  rw [cut_len_end h0 (Nat.le_refl _) h1 (fun hh => by omega), cut_nil]
  rfl
theorem cut_len_in : ∀ (K c a b : Nat), b ≤ 1099511627776 → c % 2 ^ K = 0 → c ≤ a → a ≤ b → b ≤ c + 2 ^ K → (cut a b).length ≤ 2 * K + 1
  | 0, c, a, b, h0, _, h2, h3, h4 => by
    have := cov_len (cut_cov h0 h3)
    have : (2 : Nat) ^ 0 = 1 := rfl
    omega
  | K + 1, c, a, b, h0, h1, h2, h3, h4 => by
    have hK := two_pos K
    have hd := pow_double K
    have h1' := mod_of_le (Nat.le_succ K) h1
    have hm : (c + 2 ^ K) % 2 ^ K = 0 := by rw [Nat.add_mod_right]; exact h1'
    by_cases hb : b ≤ c + 2 ^ K
    · have := cut_len_in K c a b h0 h1' h2 h3 hb
      omega
    · by_cases ha : c + 2 ^ K ≤ a
      · have := cut_len_in K (c + 2 ^ K) a b h0 hm ha h3 (by omega)
        omega
      · have hadd := cut_len_add (a := a) (b := c + 2 ^ K) (c := b) h0 (by omega) (by omega)
        have h5 : (cut a (c + 2 ^ K)).length ≤ K + 1 := by
          by_cases e : a = c
          · subst e; rw [cut_len_one (by omega) h1']; omega
          · have := cut_len_left K a (c + 2 ^ K) (by omega) hm (by omega) (by omega); omega
        have h6 : (cut (c + 2 ^ K) b).length ≤ K + 1 := by
          by_cases e : b = c + 2 ^ K + 2 ^ K
          · subst e; rw [cut_len_one h0 hm]; omega
          · have := cut_len_right K (c + 2 ^ K) b h0 hm (by omega) (by omega); omega
        omega
/-- a span has few subtrees -/
theorem cut_len {a b : Nat} (h0 : b ≤ 1099511627776) (h : a ≤ b) : (cut a b).length ≤ 81 :=
  cut_len_in 40 0 a b h0 (Nat.zero_mod _) (Nat.zero_le _) h (Nat.le_trans h0 (by decide))
end Cut
end Go.Proofs.YtmpaliocfikifaaDoor

namespace Go.Proofs.YtmpaliocfikifaaDoor
open Go.RowKit

set_option maxRecDepth 100000 in
set_option maxHeartbeats 400000 in
theorem path1_one (m : Int) (a : Option Addr) (cap c : Nat) (w : World) :
    Calls Tryd.prog 68 #[.int .i64 m, .slice a 1 cap, .pointer (some ⟨c, 0, none⟩)] w (Out w []) := by
  go_enter Tryd.func68, Tryd.ntmps68
  go_wp2
  go_ret
  exact ⟨_, rfl, Own.nil _ _, Below.refl _ _⟩
set_option maxRecDepth 100000 in
set_option maxHeartbeats 2000000 in
/-- the program's -/
theorem path1_any : ∀ (f : Nat) (l : List (List UInt8)) (m : Nat) (a : Option Addr) (cap c : Nat) (w : World), l.length ≤ f → l.length ≤ 1000000 → m < l.length → l.length ≤ cap → cap ≤ 9223372036854775807 → At w a l → Tabs w →
    w.cell? ⟨c, 0, none⟩ = some (.func (.func 68) #[] #[.pointer (some ⟨c, 0, none⟩)]) →
    Calls Tryd.prog 68 #[.int .i64 m, .slice a l.length cap, .pointer (some ⟨c, 0, none⟩)] w (Out w (Tree.path m l)) := by
  intro f
  induction f with
  | zero => intro l m a cap c w hf _ hm; omega
  | succ f ih =>
    intro l m a cap c w hf hM hm hl hc hA T hcl
    by_cases h1 : l.length = 1
    · rw [h1, Tree.path_small (by omega)]
      exact path1_one m a cap c w
    · obtain ⟨n, hn⟩ : ∃ n, l.length = n := ⟨_, rfl⟩
      have h2 : 2 ≤ n := by omega
      obtain ⟨x, rfl⟩ := hA.pos (by rw [hn]; omega)
      have e := hid (Tree.path_cut (m := m) (l := l) (by rw [hn]; exact h2))
      rw [hn] at e hf hl hm h1 hM ⊢
      have k1 := Tree.sp_lt h2
      have k2 := Tree.sp_pos h2
      have hs : spI (n : Int) = ((Tree.sp n : Nat) : Int) := rfl
      generalize Tree.sp n = k at *
      have l1 : (l.take k).length = k := by rw [List.length_take, hn]; omega
      have l2 : (l.drop k).length = n - k := by rw [List.length_drop, hn]
      have n2 : ((n : Int) == 1) = false := by simp; omega
      have HT := hid T
      have A1 := hid (hA.take k)
      have A2 := hid (hA.drop k)
      by_cases hmk : m < k
      · have b0 : (m : Int) < (k : Int) := by omega
        have c1 := fun w' (h : At w' (some x) (l.take k)) => ih (l.take k) m (some x) k c w' (by omega) (by omega) (by omega) (by omega) (by omega) h
        have c2 := fun w' (h : At w' (some (x.add k)) (l.drop k)) => root_any (l.drop k) (some (x.add k)) (n - k) w' (by omega) (by omega) h
        rw [l1] at c1
        rw [l2] at c2
        have hpl := Tree.path_length _ m (l.take k) (Nat.le_refl _)
        rw [if_pos hmk] at e
        generalize Tree.path m (l.take k) = L at *
        generalize Tree.root (l.drop k) = r at *
        clear hA ih hn T
        go_enter Tryd.func68, Tryd.ntmps68
        go_wp2_with (first
          | (go_at_call 62; refine (split_any (n : Int) (by omega) (by omega) _).mono ?_; rintro e w0 ⟨rfl, rfl⟩; rw [hs])
          | (go_at_call 63; refine (cut_any x n cap k k1 hl _).mono ?_; rintro e wc ⟨rfl, hbc, hhc⟩; have hcl0 := cell_below hcl hbc)
          | (go_at_call 68; refine (c1 _ (A1.out.heap hhc) (HT.out.below hbc HT.out.lt) hcl0).mono ?_; rintro e w1 ⟨v1, rfl, hO1, hw1⟩)
          | (go_at_call 41; refine (c2 _ ((A2.out.heap hhc).below hw1 (Nat.le_refl _)) ((HT.out.below hbc HT.out.lt).below hw1 (HT.out.below hbc HT.out.lt).lt)).mono ?_; rintro e w2 ⟨rfl, hw2⟩; obtain ⟨v3, w3, hap, hO3, hb3⟩ := append_text w2 wc.heap.size v1 L r (hO1.below hw2 (Nat.le_refl _)) (by omega) (Nat.le_trans hw1.size hw2.size); rw [show sv r = Value.string ⟨r.toArray⟩ from rfl] at hap ⊢)
          | (at_builtin; go_must (refine Lib.wpList_append_run _ rfl _ _ 29 29 rfl _ _ rfl rfl _ _ hap ?_)))
        go_ret
        exact ⟨_, rfl, by rw [e.out]; exact hO3.mono hbc.size, hbc.trans (((hw1.trans (hw2.mono hw1.size)).trans hb3).mono hbc.size)⟩
      · have b0 : ¬ (m : Int) < (k : Int) := by omega
        have c1 := fun w' (h : At w' (some (x.add k)) (l.drop k)) => ih (l.drop k) (m - k) (some (x.add k)) (n - k) c w' (by omega) (by omega) (by omega) (by omega) (by omega) h
        have c2 := fun w' (h : At w' (some x) (l.take k)) => root_any (l.take k) (some x) k w' (by omega) (by omega) h
        rw [l2, show ((m - k : Nat) : Int) = (m : Int) - (k : Int) from by omega] at c1
        rw [l1] at c2
        have hpl := Tree.path_length _ (m - k) (l.drop k) (Nat.le_refl _)
        rw [if_neg hmk] at e
        generalize Tree.path (m - k) (l.drop k) = L at *
        generalize Tree.root (l.take k) = r at *
        clear hA ih hn T
        go_enter Tryd.func68, Tryd.ntmps68
        go_wp2_with (first
          | (go_at_call 62; refine (split_any (n : Int) (by omega) (by omega) _).mono ?_; rintro e w0 ⟨rfl, rfl⟩; rw [hs])
          | (go_at_call 63; refine (cut_any x n cap k k1 hl _).mono ?_; rintro e wc ⟨rfl, hbc, hhc⟩; have hcl0 := cell_below hcl hbc)
          | (go_at_call 68; refine (c1 _ (A2.out.heap hhc) (HT.out.below hbc HT.out.lt) hcl0).mono ?_; rintro e w1 ⟨v1, rfl, hO1, hw1⟩)
          | (go_at_call 41; refine (c2 _ ((A1.out.heap hhc).below hw1 (Nat.le_refl _)) ((HT.out.below hbc HT.out.lt).below hw1 (HT.out.below hbc HT.out.lt).lt)).mono ?_; rintro e w2 ⟨rfl, hw2⟩; obtain ⟨v3, w3, hap, hO3, hb3⟩ := append_text w2 wc.heap.size v1 L r (hO1.below hw2 (Nat.le_refl _)) (by omega) (Nat.le_trans hw1.size hw2.size); rw [show sv r = Value.string ⟨r.toArray⟩ from rfl] at hap ⊢)
          | (at_builtin; go_must (refine Lib.wpList_append_run _ rfl _ _ 29 29 rfl _ _ rfl rfl _ _ hap ?_)))
        go_ret
        exact ⟨_, rfl, by rw [e.out]; exact hO3.mono hbc.size, hbc.trans (((hw1.trans (hw2.mono hw1.size)).trans hb3).mono hbc.size)⟩
end Go.Proofs.YtmpaliocfikifaaDoor
