import Derived.Test.YtmpaliocfikifaaGreatDoorCO4
import Derived.RangeFuncNested
import Derived.RangeFuncBound
import Derived.RangeFuncCalls
import Derived.RangeFuncLeaves
import Derived.Shelf.Abstract
import Derived.Shelf.RegionOpen
import Derived.WalkKit
import Derived.OwnWalkIn
import Derived.TacticsInMore
import Derived.LoopNIn
import Derived.LoopIn
namespace Go.Proofs.YtmpaliocfikifaaGreatDoor
open Go.RowKit
/-- append(l, s), and what stays -/
theorem append_text2 (w : World) (base : Nat) (v : Value) (L : List (List UInt8)) (p : List UInt8) (hown : Own w base v (svs L)) (hlen : L.length ≤ 2000000) (hbase : base ≤ w.heap.size) :
    ∃ v' w', (Builtin.append_ #[24, 24] 24 #[v, .slice (some ⟨w.heap.size, 0, none⟩) 1 1]).run Tryz.prog (w.alloc (.cells #[sv p] 9)) = .ok v' w' ∧ Own w' base v' (svs (L ++ [p])) ∧ Below base w w' ∧
      w.grownBy w' v.ownBlock ∧ (v'.ownBlock = v.ownBlock ∨ v'.ownBlock = some (w.heap.size + 1)) := by
  obtain ⟨i0, hi, hz0, hz1, hz2⟩ := info_parts infoS
  have hsrc : Src Tryz.prog 1 24 (.slice (some ⟨w.heap.size, 0, none⟩) 1 1) 1 [sv p] (w.alloc (.cells #[sv p] 9)) :=
    Src.ofSlice _ Tryz.underlying24 ⟨w.heap.size, 0, none⟩ 1 1 [sv p] (by simp) (fun j u hj => by
      rw [Addr.add_mid, cell_of_row _ _ _ _ _ _ (heap_alloc_new w _), Nat.zero_add]; simpa using hj) (fun u hu => by simp at hu; subst hu; rfl)
  obtain ⟨v', w', h1, h2, h3, h4⟩ := run_append_O (P := Tryz.prog) (w.alloc (.cells #[sv p] 9)) base 24 24 24 9 i0 (.string ⟨#[]⟩) Tryz.underlying24 hi hz0 hz1 rfl v (svs L) (hown.alloc _) _ 1 [sv p] hsrc
    (by rw [svs_length, hz2]; omega) (by rw [svs_length, maxLen]; omega) (by rw [size_alloc]; omega) (fun _ => by omega)
  refine ⟨v', w', h1, by simpa [svs] using h2, ((Below.refl base w).alloc hbase _).trans (Below.ofGrown h3 hown.ge (by rw [size_alloc]; omega)), ?_, by rw [size_alloc] at h4; exact h4⟩
  exact ⟨h3.os, h3.tape, h3.output, by have := h3.size; rw [size_alloc] at this; omega, fun k hk hne => (h3.block k (by rw [size_alloc]; omega) hne).trans (Below.heap_alloc w _ k hk)⟩
theorem Own.lt {w : World} {base : Nat} {v : Value} {cs : List Value} (h : Own w base v cs) : ∀ g, v.ownBlock = some g → g < w.heap.size := by
  rcases h with ⟨rfl, _⟩ | ⟨g', cap, rfl, h1, h2, h3, h4, h5, h6⟩
  · intro g hg; cases hg
  · intro g hg; cases hg; exact h6
/-- yes and no that lie at an address -/
def AtB (w : World) (a : Option Addr) (l : List Bool) : Prop := ∀ j p, l[j]? = some p → ∃ x : Addr, a = some x ∧ x.block < w.heap.size ∧ w.cell? (x.add j) = some (.bool p)
theorem AtB.below {w w' : World} {a : Option Addr} {l : List Bool} {B : Nat} (h : AtB w a l) (hb : Below B w w') (hB : w.heap.size ≤ B) : AtB w' a l := fun j p hp => by
  obtain ⟨x, rfl, hx, hc⟩ := h j p hp
  exact ⟨x, rfl, Nat.lt_of_lt_of_le hx hb.size, (hb.cell (p := x.add j) (by rw [addr_block]; omega)).trans hc⟩
theorem Own.atB {w : World} {base : Nat} {v : Value} {L : List Bool} (h : Own w base v (bls L)) : ∃ a cap, v = .slice a L.length cap ∧ AtB w a L ∧ L.length ≤ cap ∧ cap ≤ 9223372036854775807 := by
  rcases h with ⟨rfl, h⟩ | ⟨g, cap, rfl, h1, h2, h3, h4, h5, h6⟩
  · obtain rfl : L = [] := by simpa [bls] using h
    exact ⟨none, 0, rfl, fun j p hp => by simp at hp, by simp, by omega⟩
  · rw [bls_length] at h2
    refine ⟨some ⟨g, 0, none⟩, cap, by rw [bls_length], fun j p hp => ⟨_, rfl, h6, ?_⟩, h2, h3⟩
    rw [Addr.add_mid]
    exact h4 j (.bool p) (by simp [bls, hp])
theorem atI_one (w : World) (m : Int) : AtI (w.alloc (.cells #[.int .i64 m] 3)) (some ⟨w.heap.size, 0, none⟩) [m] := fun j p hp => by
  refine ⟨_, rfl, by rw [size_alloc]; exact Nat.lt_succ_self _, ?_⟩
  rw [Addr.add_mid, cell_of_row _ _ _ _ _ _ (heap_alloc_new w _), Nat.zero_add]
  match j, hp with
  | 0, h => obtain rfl := Option.some.inj h; rfl
theorem okI_one (n m : Nat) (h : m < n) : OkI n [(m : Int)] := by
  refine ⟨by simp, by simp, fun j x hx => ?_, fun j x y hx hy => by simp at hy⟩
  match j, hx with
  | 0, h' => obtain rfl := Option.some.inj h'; omega
/-- going up so far -/
structure Up (L : List (List UInt8)) (m : Nat) (h0 : List UInt8) (base : Nat) (ws : World) (k : Nat) (vh vl vr : Value) (w : World) : Prop where
  h : vh = sv (Tree.up h0 ((Tree.zp m L).take k))
  l : Own w base vl (svs (Tree.lft ((Tree.zp m L).take k)))
  r : Own w base vr (svs (Tree.rgt ((Tree.zp m L).take k)))
  apart : ∀ g, vl.ownBlock = some g → vr.ownBlock ≠ some g
  below : Below base ws w
theorem lft_step (zs : List (Bool × Tree.T)) (t : Tree.T) : Tree.lft (zs ++ [(false, t)]) = t :: Tree.lft zs := by simp [Tree.lft]
theorem lft_skip (zs : List (Bool × Tree.T)) (t : Tree.T) : Tree.lft (zs ++ [(true, t)]) = Tree.lft zs := by simp [Tree.lft]
theorem rgt_step (zs : List (Bool × Tree.T)) (t : Tree.T) : Tree.rgt (zs ++ [(true, t)]) = Tree.rgt zs ++ [t] := by simp [Tree.rgt]
theorem rgt_skip (zs : List (Bool × Tree.T)) (t : Tree.T) : Tree.rgt (zs ++ [(false, t)]) = Tree.rgt zs := by simp [Tree.rgt]
theorem rgt_len (zs : List (Bool × Tree.T)) : (Tree.rgt zs).length ≤ zs.length := by
  have := Tree.lr_len zs; rw [List.length_append] at this; omega
theorem lft_len (zs : List (Bool × Tree.T)) : (Tree.lft zs).length ≤ zs.length := by
  have := Tree.lr_len zs; rw [List.length_append] at this; omega
end Go.Proofs.YtmpaliocfikifaaGreatDoor

namespace Go.Proofs.YtmpaliocfikifaaGreatDoor
open Go.RowKit

theorem infoLS : (Tryz.prog.info? 24).map (fun i => (i.zero, i.size, i.bytes)) = some (some (.slice none 0 0), 1, 24) := by kernel_rfl
/-- append(ls, l): a list of lists -/
theorem append_row (w : World) (base : Nat) (v : Value) (cs : List Value) (a : Option Addr) (n cap : Nat) (hown : Own w base v cs) (hlen : cs.length ≤ 2000000) (hbase : base ≤ w.heap.size) :
    ∃ v' w', (Builtin.append_ #[38, 38] 38 #[v, .slice (some ⟨w.heap.size, 0, none⟩) 1 1]).run Tryz.prog (w.alloc (.cells #[.slice a n cap] 24)) = .ok v' w' ∧ Own w' base v' (cs ++ [.slice a n cap]) ∧ Below base w w' ∧
      w.grownBy w' v.ownBlock ∧ (v'.ownBlock = v.ownBlock ∨ v'.ownBlock = some (w.heap.size + 1)) := by
  obtain ⟨i0, hi, hz0, hz1, hz2⟩ := info_parts infoLS
  have hsrc : Src Tryz.prog 1 38 (.slice (some ⟨w.heap.size, 0, none⟩) 1 1) 1 [.slice a n cap] (w.alloc (.cells #[.slice a n cap] 24)) :=
    Src.ofSlice _ Tryz.underlying38 ⟨w.heap.size, 0, none⟩ 1 1 [.slice a n cap] (by simp) (fun j u hj => by
      rw [Addr.add_mid, cell_of_row _ _ _ _ _ _ (heap_alloc_new w _), Nat.zero_add]; simpa using hj) (fun u hu => by simp at hu; subst hu; rfl)
  obtain ⟨v', w', h1, h2, h3, h4⟩ := run_append_O (P := Tryz.prog) (w.alloc (.cells #[.slice a n cap] 24)) base 38 38 38 24 i0 (.slice none 0 0) Tryz.underlying38 hi hz0 hz1 rfl v cs (hown.alloc _) _ 1 [.slice a n cap] hsrc
    (by rw [hz2]; omega) (by rw [maxLen]; omega) (by rw [size_alloc]; omega) (fun _ => by omega)
  refine ⟨v', w', h1, h2, ((Below.refl base w).alloc hbase _).trans (Below.ofGrown h3 hown.ge (by rw [size_alloc]; omega)), ?_, by rw [size_alloc] at h4; exact h4⟩
  exact ⟨h3.os, h3.tape, h3.output, by have := h3.size; rw [size_alloc] at this; omega, fun k hk hne => (h3.block k (by rw [size_alloc]; omega) hne).trans (Below.heap_alloc w _ k hk)⟩
end Go.Proofs.YtmpaliocfikifaaGreatDoor

namespace Go.Proofs.YtmpaliocfikifaaGreatDoor
open Go.RowKit

/-- everything outside S is as it was -/
structure Keep (S : Nat → Prop) (w w' : World) : Prop where
  os : w'.os = w.os
  tape : w'.tape = w.tape
  output : w'.output = w.output
  size : w.heap.size ≤ w'.heap.size
  block : ∀ k, k < w.heap.size → ¬ S k → w'.heap[k]? = w.heap[k]?
theorem Keep.refl (S : Nat → Prop) (w : World) : Keep S w w := ⟨rfl, rfl, rfl, Nat.le_refl _, fun _ _ _ => rfl⟩
theorem Keep.trans {S T : Nat → Prop} {w w1 w2 : World} (h : Keep S w w1) (k : Keep T w1 w2) (hT : ∀ j, j < w.heap.size → T j → S j) : Keep S w w2 :=
  ⟨k.os.trans h.os, k.tape.trans h.tape, k.output.trans h.output, Nat.le_trans h.size k.size, fun i hi hb => (k.block i (Nat.lt_of_lt_of_le hi h.size) (fun e => hb (hT i hi e))).trans (h.block i hi hb)⟩
theorem Keep.mono {S T : Nat → Prop} {w w' : World} (h : Keep S w w') (hT : ∀ j, j < w.heap.size → S j → T j) : Keep T w w' := ⟨h.os, h.tape, h.output, h.size, fun k hk hb => h.block k hk fun e => hb (hT k hk e)⟩
theorem Keep.ofBelow {S : Nat → Prop} {w w' : World} (h : Below w.heap.size w w') : Keep S w w' := ⟨h.os, h.tape, h.output, h.size, fun k hk _ => h.block k hk⟩
theorem Keep.ofGrown {S : Nat → Prop} {w w' : World} {row : Option Nat} (h : w.grownBy w' row) (hr : ∀ k, row = some k → S k) : Keep S w w' :=
  ⟨h.os, h.tape, h.output, h.size, fun k hk hs => h.block k hk fun e => hs (hr k e.symm)⟩
theorem Keep.ofSet {S : Nat → Prop} (w : World) (b o : Nat) (v : Value) (hb : S b) : Keep S w (w.setCell ⟨b, o, none⟩ v) :=
  ⟨rfl, rfl, rfl, by simp [World.setCell], fun k _ hs => Below.heap_setCell w _ v k (fun e => hs (e ▸ hb))⟩
theorem Own.keep {S : Nat → Prop} {w w' : World} {base : Nat} {v : Value} {cs : List Value} (h : Own w base v cs) (hb : Keep S w w') (hne : ∀ k, v.ownBlock = some k → ¬ S k) : Own w' base v cs := by
  refine h.kept hb.size fun g hg => hb.block g ?_ (hne g hg)
  rcases h with ⟨rfl, _⟩ | ⟨g', cap, rfl, h1, h2, h3, h4, h5, h6⟩
  · cases hg
  · cases hg; exact h6
theorem own_sl {w : World} {base : Nat} {v : Value} {cs : List Value} (h : Own w base v cs) : ∃ a n c, v = .slice a n c := by
  rcases h with ⟨rfl, _⟩ | ⟨g', cap, rfl, _⟩ <;> exact ⟨_, _, _, rfl⟩
/-- a list was taken into the book -/
structure Took (w w' : World) (X base : Nat) (vf vw vl vg vh u : Value) (FS WS : List Value) (L : List (List UInt8)) (vf' vw' c : Value) : Prop where
  row : w'.heap[X]? = some (.cells #[vf', vw', vl, vg, vh] 40 (0, 0))
  free : Own w' base vf' (FS ++ [u])
  was : Own w' base vw' (WS ++ [c])
  copy : Own w' w.heap.size c (svs L)
  keep : Keep (fun k => k = X ∨ vf.ownBlock = some k ∨ vw.ownBlock = some k) w w'
  srcF : ∀ k, vf'.ownBlock = some k → vf.ownBlock = some k ∨ w.heap.size ≤ k
  srcW : ∀ k, vw'.ownBlock = some k → vw.ownBlock = some k ∨ w.heap.size ≤ k
  apart : ∀ k, vf'.ownBlock = some k → vw'.ownBlock ≠ some k
  fresh : ∀ k, c.ownBlock = some k → k ≠ X ∧ vf'.ownBlock ≠ some k ∧ vw'.ownBlock ≠ some k
set_option maxRecDepth 100000 in
set_option maxHeartbeats 1600000 in
theorem takes_any (X base b2 : Nat) (vf vw vl vg vh : Value) (a : Option Addr) (n cap : Nat) (FS WS : List Value) (L : List (List UInt8)) (w : World) (hX : w.heap[X]? = some (.cells #[vf, vw, vl, vg, vh] 40 (0, 0)))
    (hf : Own w base vf FS) (hw : Own w base vw WS) (hu : Own w b2 (.slice a n cap) (svs L)) (hfl : FS.length ≤ 1000000) (hwl : WS.length ≤ 1000000) (hL : L.length ≤ 2000000) (hbase : base ≤ w.heap.size)
    (hFX : vf.ownBlock ≠ some X) (hWX : vw.ownBlock ≠ some X) (hFW : ∀ k, vf.ownBlock = some k → vw.ownBlock ≠ some k)
    (hU : ∀ k, (Value.slice a n cap).ownBlock = some k → k ≠ X ∧ vf.ownBlock ≠ some k ∧ vw.ownBlock ≠ some k) :
    Calls Tryz.prog 19 #[.pointer (some ⟨X, 0, none⟩), .slice a n cap] w fun r w' => r = .returned (.tuple #[]) ∧ ∃ vf' vw' c, Took w w' X base vf vw vl vg vh (.slice a n cap) FS WS L vf' vw' c := by
  have hXl : X < w.heap.size := lt_of_heap hX
  have c0 : w.cell? ⟨X, 0, none⟩ = some vf := by rw [cell_of_row _ _ _ _ _ _ hX]; rfl
  obtain ⟨vf', w1, hc1, o1, _, g1, s1⟩ := append_row w base vf FS a n cap hf (by omega) hbase
  have k1 : Keep (fun k => vf.ownBlock = some k) w w1 := Keep.ofGrown g1 (fun k hk => hk)
  have hX1 := (k1.block X hXl hFX).trans hX
  have f1 : w1.frozen? ⟨X, 0, none⟩ = false := frozen_of_row _ _ _ _ _ hX1
  have d0 : w1.cell? ⟨X, 0, none⟩ = some vf := by rw [cell_of_row _ _ _ _ _ _ hX1]; rfl
  have hX2 : (w1.setCell ⟨X, 0, none⟩ vf').heap[X]? = some (.cells #[vf', vw, vl, vg, vh] 40 (0, 0)) := heap_setCell_same w1 X 0 _ _ vf' hX1
  have k12 : Keep (fun k => k = X) w1 (w1.setCell ⟨X, 0, none⟩ vf') := Keep.ofSet w1 X 0 vf' rfl
  have fF : ∀ k, vf'.ownBlock = some k → vf.ownBlock = some k ∨ w.heap.size ≤ k := fun k hk => by
    rcases s1 with e | e
    · left; rw [← e]; exact hk
    · right; rw [e] at hk; injection hk with hk; omega
  have fFX : ∀ k, vf'.ownBlock = some k → k ≠ X := fun k hk e => by
    rcases fF k hk with h | h
    · exact hFX (e ▸ h)
    · omega
  have o2 := o1.keep k12 fFX
  have hu2 := (hu.keep k1 (fun k hk e => (hU k hk).2.1 e)).keep k12 (fun k hk => (hU k hk).1)
  have hw2 := (hw.keep k1 (fun k hk e => hFW k e hk)).keep k12 (fun k hk e => hWX (e ▸ hk))
  have K2 : Keep (fun k => k = X ∨ vf.ownBlock = some k) w (w1.setCell ⟨X, 0, none⟩ vf') := (k1.mono (fun _ _ h => .inr h)).trans k12 (fun _ _ h => .inl h)
  obtain ⟨w2, hw2e⟩ : ∃ w2, w1.setCell ⟨X, 0, none⟩ vf' = w2 := ⟨_, rfl⟩
  rw [hw2e] at hX2 o2 hu2 hw2 K2
  obtain ⟨wd, hwd⟩ : ∃ wd, w2.drew = wd := ⟨_, rfl⟩
  replace hX2 : wd.heap[X]? = some (.cells #[vf', vw, vl, vg, vh] 40 (0, 0)) := by rw [← hwd]; exact hX2
  replace o2 : Own wd base vf' (FS ++ [.slice a n cap]) := by rw [← hwd]; exact o2.drew
  replace hu2 : Own wd b2 (.slice a n cap) (svs L) := by rw [← hwd]; exact hu2.drew
  replace hw2 : Own wd base vw WS := by rw [← hwd]; exact hw2.drew
  replace K2 : Keep (fun k => k = X ∨ vf.ownBlock = some k) w wd := by rw [← hwd]; exact ⟨K2.os, K2.tape, K2.output, K2.size, K2.block⟩
  have sz2 := K2.size
  have c2 : wd.cell? ⟨X, 1, none⟩ = some vw := by rw [cell_of_row _ _ _ _ _ _ hX2]; rfl
  obtain ⟨c, w3, hc2, o3, b3⟩ := append_list wd wd.heap.size b2 (.slice none 0 0) (.slice a n cap) [] L (Own.nil _ _) hu2 (by simp; omega) (Nat.le_refl _)
  rw [List.nil_append] at o3
  have sz3 := b3.size
  have hX3 := (b3.block X (by omega)).trans hX2
  have c3 : w3.cell? ⟨X, 1, none⟩ = some vw := by rw [cell_of_row _ _ _ _ _ _ hX3]; rfl
  obtain ⟨a3, n3, cap3, rfl⟩ := own_sl o3
  have c3x : (w3.alloc (.cells #[.slice a3 n3 cap3] 24)).cell? ⟨X, 1, none⟩ = some vw := by
    rw [World.cell?_of_block (w := w3) (Below.heap_alloc w3 _ X (by omega))]; exact c3
  obtain ⟨vw', w4, hc3, o4, _, g4, s4⟩ := append_row w3 base vw WS a3 n3 cap3 (hw2.below b3 (Nat.le_refl _)) (by omega) (by omega)
  have k4 : Keep (fun k => vw.ownBlock = some k) w3 w4 := Keep.ofGrown g4 (fun k hk => hk)
  have hX4 := (k4.block X (by omega) hWX).trans hX3
  have f4 : w4.frozen? ⟨X, 1, none⟩ = false := frozen_of_row _ _ _ _ _ hX4
  have d4 : w4.cell? ⟨X, 1, none⟩ = some vw := by rw [cell_of_row _ _ _ _ _ _ hX4]; rfl
  have hX5 : (w4.setCell ⟨X, 1, none⟩ vw').heap[X]? = some (.cells #[vf', vw', vl, vg, vh] 40 (0, 0)) := heap_setCell_same w4 X 1 _ _ vw' hX4
  have k45 : Keep (fun k => k = X) w4 (w4.setCell ⟨X, 1, none⟩ vw') := Keep.ofSet w4 X 1 vw' rfl
  have hwlt := hw.lt
  have fW : ∀ k, vw'.ownBlock = some k → vw.ownBlock = some k ∨ w3.heap.size ≤ k := fun k hk => by
    rcases s4 with e | e
    · left; rw [← e]; exact hk
    · right; rw [e] at hk; injection hk with hk; omega
  have hlf := o2.lt
  have hge := o3.ge
  have res : Took w (w4.setCell ⟨X, 1, none⟩ vw') X base vf vw vl vg vh (.slice a n cap) FS WS L vf' vw' (.slice a3 n3 cap3) := by
    refine ⟨hX5, ?_, ?_, ?_, ?_, fF, fun k hk => (fW k hk).imp id (fun h => by omega), fun k h1 h2 => ?_, fun k h1 => ⟨fun e => ?_, fun e => ?_, fun e => ?_⟩⟩
    · refine ((o2.below b3 (Nat.le_refl _)).keep k4 (fun k h1 h2 => ?_)).keep k45 fFX
      rcases fF k h1 with h | h
      · exact hFW k h h2
      · have := hwlt k h2; omega
    · refine o4.keep k45 (fun k hk e => ?_)
      rcases fW k hk with h | h
      · exact hWX (e ▸ h)
      · omega
    · have o3' := o3
      refine (((o3.keep k4 (fun k h1 h2 => ?_)).keep k45 (fun k h1 e => ?_))).mono sz2
      · have := hge k h1; have := hwlt k h2; omega
      · have := hge k h1; omega
    · refine (((K2.mono (fun _ _ h => h.imp id .inl)).trans (Keep.ofBelow (S := fun _ => False) b3) (fun _ _ h => h.elim)).trans k4 (fun _ _ h => .inr (.inr h))).trans k45 (fun _ _ h => .inl h)
    · rcases fW k h2 with h | h
      · rcases fF k h1 with h' | h'
        · exact hFW k h' h
        · have := hwlt k h; omega
      · have := hlf k h1; omega
    · have := hge k h1; omega
    · have := hge k h1; have := hlf k e; omega
    · have h2 := hge k h1
      rcases fW k e with h | h
      · have := hwlt k h; omega
      · have := o3.lt k h1; omega
  have RES := hid res
  obtain ⟨a1, n1, cap1, hvf⟩ := own_sl hf
  obtain ⟨a1', n1', cap1', hvf'⟩ := own_sl o1
  obtain ⟨a2, n2, cap2, hvw⟩ := own_sl hw
  obtain ⟨a2', n2', cap2', hvw'⟩ := own_sl o4
  subst hvf hvf' hvw hvw'
  clear hX hX1 hX2 hX3 hX4 hX5 o1 o2 o3 o4 k1 k12 k4 k45 K2 hu hu2 hw hw2 hf g1 g4 s1 s4 fF fFX fW hwlt hlf hge b3 res hFX hWX hFW hU
  go_enter Tryz.func19, Tryz.ntmps19
  go_wp2_with (at_builtin; go_must (refine Lib.wpList_append_run _ rfl _ _ 38 38 rfl _ _ rfl rfl _ _ hc1 ?_))
  subst hwd
  have c3a : (w3.alloc (.cells #[.slice a3 n3 cap3] 24)).cell? ⟨X, 1, none⟩ = some (.slice a2 n2 cap2) := c3x
  go_region_law (first
    | (refine step_append_run rfl _ _ 24 rfl (.slice none 0 0) (.slice a n cap) _ w3 rfl rfl hc2 ?_)
    | (refine step_append_run rfl _ _ 38 rfl _ _ _ w4 rfl rfl hc3 ?_))
  all_goals
    go_wp2
    go_end0
    exact ⟨rfl, _, _, _, RES.out⟩
end Go.Proofs.YtmpaliocfikifaaGreatDoor

namespace Go.Proofs.YtmpaliocfikifaaGreatDoor
open Go.RowKit

/-- blocks of F alone were touched; F' has what is new besides -/
structure Mvs (F : Nat → Prop) (w w' : World) (F' : Nat → Prop) : Prop where
  keep : Keep F w w'
  new : ∀ k, F' k → F k ∨ w.heap.size ≤ k
theorem Mvs.trans {F G H : Nat → Prop} {w w1 w2 : World} (h : Mvs F w w1 G) (k : Mvs G w1 w2 H) : Mvs F w w2 H := by
  refine ⟨h.keep.trans k.keep fun j hj hg => ?_, fun j hj => ?_⟩
  · rcases h.new j hg with e | e
    · exact e
    · omega
  · rcases k.new j hj with e | e
    · exact h.new j e
    · exact .inr (Nat.le_trans h.keep.size e)
theorem Mvs.refl (F : Nat → Prop) (w : World) : Mvs F w w F := ⟨Keep.refl F w, fun _ h => .inl h⟩
/-- what is said hangs on these blocks alone -/
structure Foot {α : Type} (J : (Nat → Prop) → List α → World → Prop) : Prop where
  keep : ∀ F pre W W' S, J F pre W → Keep S W W' → (∀ k, F k → ¬ S k) → J F pre W'
  lt : ∀ F pre W, J F pre W → ∀ k, F k → k < W.heap.size
theorem Keep.ofPut {S : Nat → Prop} (w : World) (l : Nat) (o : Obj) (hl : S l) : Keep S w (w.putObj l o) :=
  ⟨rfl, rfl, rfl, by rw [World.putObj_size]; exact Nat.le_refl _, fun k _ hs => World.putObj_heap_other (fun e => hs (e ▸ hl))⟩
/-- an iterator: it tells xs, one by one; C: blocks that it looks at and a round must not touch; Cw: those that it writes into -/
def IterC {α : Type} (P : Program) (gf : Nat) (lb : Array Value) (encs : α → Array Value) (xs : List α) (C Cw : Nat → Prop) (w : World) : Prop :=
  ∀ (n l : Nat) (J Jx : (Nat → Prop) → List α → World → Prop) (F : Nat → Prop) (W : World), Foot J → Foot Jx → Below w.heap.size w W → (∀ k, F k → ¬ C k) →
    (∀ (F : Nat → Prop) (pre : List α) (x : α) (rest : List α) (W1 : World), J F pre W1 → xs = pre ++ x :: rest → YieldAt Fence.wide (n - 1) P l (encs x) W1 fun e W' =>
      ∃ F', Mvs F W1 W' F' ∧ ((e = .returned (.bool true) ∧ J F' (pre ++ [x]) W') ∨ (e = .returned (.bool false) ∧ Jx F' (pre ++ [x]) W'))) →
    J F [] W →
    CallsIn Fence.wide n P gf (#[.func (.yield l) #[] #[]] ++ lb) W fun e W' => (∃ v, e = .returned v) ∧ ∃ F', Keep (fun k => F k ∨ Cw k) W W' ∧ (∀ k, F' k → F k ∨ W.heap.size ≤ k) ∧ (J F' xs W' ∨ ∃ pre, pre <+: xs ∧ Jx F' pre W')
/-- how a round's body may be left -/
def footPost {α : Type} (I : (Nat → Prop) → List α → World → Prop) (Ix : Code → (Nat → Prop) → List α → World → Prop) (F : Nat → Prop) (xs : List α) (W : World) : Exit → Act → World → Prop
  | .normal, _, W' => ∃ F', Mvs F W W' F' ∧ I F' xs W'
  | .ret, _, W' => ∃ F', Mvs F W W' F' ∧ Ix .ret F' xs W'
  | .exit id, _, W' => ∃ F', Mvs F W W' F' ∧ Ix (.exit id) F' xs W'
  | .goto t, _, W' => ∃ F', Mvs F W W' F' ∧ Ix (.goto t) F' xs W'
  | .panic _, _, _ => False
  | .outgrown, _, _ => False
/-- the world behind the loop, seen from ahead of it -/
structure Aft (F0 C : Nat → Prop) (w W : World) (F : Nat → Prop) (D : Nat) : Prop where
  keep : Keep (fun k => F0 k ∨ C k) w W
  new : ∀ k, F k → F0 k ∨ w.heap.size ≤ k
  mark : W.heap[D]? = some (.deferred (some []))
  hi : w.heap.size ≤ D
  out : ¬ F D
set_option maxHeartbeats 1000000 in
theorem range_foot {α : Type} {P : Program} {n : Nat} {g : Operand} {ps : Array Tmp} {assign body : Code} {Q : Exit → Act → World → Prop} {a : Act} {w : World}
    {gf : Nat} {lb : Array Value} (hg : a.eval g = .func (.func gf) #[] lb) (eg : ∀ args w, (callFunc gf args).run P w = .ok (.enter gf args) w)
    {encs : α → Array Value} {xs : List α} {C Cw : Nat → Prop} (hit : IterC P gf lb encs xs C Cw w) (hps : ∀ x, (encs x).size = ps.size)
    (I : (Nat → Prop) → List α → World → Prop) (Ix : Code → (Nat → Prop) → List α → World → Prop) (hI : Foot I) (hIx : ∀ c, Foot (Ix c))
    (F0 : Nat → Prop) (h0 : I F0 [] w) (hC : ∀ k, F0 k → ¬ C k) (hCl : ∀ k, C k → k < w.heap.size)
    (A : (Nat → Prop) → List α → α → Act → World → Prop) (hA : ∀ x a, Foot (fun F pre W => A F pre x a W))
    (hassign : ∀ (l : Nat) (F : Nat → Prop) (pre : List α) (x : α) (rest : List α) (W : World), I F pre W → xs = pre ++ x :: rest →
      assign.wpIn (Fence.wide.inRound l) (n - 1 - 1) P (Exit.then (fun a₁ W₁ => ∃ F₁, Mvs F W W₁ F₁ ∧ A F₁ pre x a₁ W₁) (fun _ _ _ => False)) { tmps := (ps.zip (encs x)).foldl (fun t (p, v) => t.setIfInBounds p v) a.tmps, defers := [] } W)
    (hbody : ∀ (l : Nat) (F : Nat → Prop) (pre : List α) (x : α) (rest : List α) (a₁ : Act) (W : World), A F pre x a₁ W → xs = pre ++ x :: rest →
      body.wpIn (Fence.wide.inRound l) (n - 1 - 1) P (footPost I Ix F (pre ++ [x]) W) a₁ W)
    (hdone : ∀ (D : Nat) (F : Nat → Prop) (W : World), I F xs W → Aft F0 Cw w W F D → Q .normal { a with defers := { target := .collected D, args := #[] } :: a.defers } W)
    (hstop : ∀ (D : Nat) (c : Code) (F : Nat → Prop) (pre : List α) (W : World), pre <+: xs → Ix c F pre W → Aft F0 Cw w W F D → c.wpIn Fence.wide n P Q { a with defers := { target := .collected D, args := #[] } :: a.defers } W) :
    (Code.rangeFunc g ps assign body).wpIn Fence.wide n P Q a w := by
  refine wpIn_rangeFunc ?_
  intro fn hfn
  obtain ⟨rec, hrec⟩ : ∃ rec : LoopState → Option Code → Loop, rec = fun st pe => { state := st, pending := pe, fn, tmps := a.tmps, params := ps, assign, body, defers := w.heap.size } := ⟨_, rfl⟩
  obtain ⟨W1, hW1⟩ : ∃ W1, (w.alloc (.deferred (some []))).alloc (.loop (rec .ready none)) = W1 := ⟨_, rfl⟩
  have hL1 : W1.heap[w.heap.size + 1]? = some (.loop (rec .ready none)) := by
    rw [← hW1]; have := World.alloc_heap_new (w.alloc (.deferred (some []))) (.loop (rec .ready none)); rwa [World.size_alloc] at this
  have hK1 : W1.heap[w.heap.size]? = some (.deferred (some [])) := by
    rw [← hW1]; exact (Below.heap_alloc _ _ _ (by simp)).trans (World.alloc_heap_new w _)
  have hb1 : Below w.heap.size w W1 := by
    rw [← hW1]; exact ((Below.refl _ w).alloc (Nat.le_refl _) _).alloc (by simp) _
  have hI1 : I F0 [] W1 := hI.keep _ _ _ _ (fun _ => False) h0 (Keep.ofBelow hb1) (fun _ _ e => e)
  have hsz1 : W1.heap.size = w.heap.size + 2 := by rw [← hW1]; simp
  refine ⟨w.heap.size + 1, [{ target := .collected w.heap.size, args := #[] }], W1, { target := .fn (.func gf) lb, args := #[.func (.yield (w.heap.size + 1)) #[] #[]] }, W1, gf,
    #[.func (.yield (w.heap.size + 1)) #[] #[]] ++ lb, W1, ?_, ?_, ?_, ?_, (fun h => by cases h), ?_⟩
  · rw [← hW1, hrec]; exact run_enterLoop_outer _ _ _ _ _
  · simp only [resolve, hg]
    simp [go_sem]
  · intro f' _; trivial
  · simp [invoke, go_sem, eg]
  · obtain ⟨L, hL⟩ : ∃ L, L = w.heap.size + 1 := ⟨_, rfl⟩
    obtain ⟨D, hD⟩ : ∃ D, D = w.heap.size := ⟨_, rfl⟩
    rw [← hL] at hL1
    rw [← hD] at hK1
    have hF0 : ∀ k, F0 k → k < w.heap.size := hI.lt _ _ _ h0
    refine (hit (n - 1) (w.heap.size + 1)
      (fun F pre W => F L ∧ F D ∧ W.heap[L]? = some (.loop (rec .ready none)) ∧ W.heap[D]? = some (.deferred (some [])) ∧ ∃ F1 : Nat → Prop, (∀ k, F1 k → F k) ∧ ¬ F1 L ∧ ¬ F1 D ∧ (∀ k, F k → F1 k ∨ k = L ∨ k = D) ∧ I F1 pre W)
      (fun F pre W => F L ∧ F D ∧ ∃ c, W.heap[L]? = some (.loop (rec .done (some c))) ∧ W.heap[D]? = some (.deferred (some [])) ∧ ∃ F1 : Nat → Prop, (∀ k, F1 k → F k) ∧ ¬ F1 L ∧ ¬ F1 D ∧ (∀ k, F k → F1 k ∨ k = L ∨ k = D) ∧ Ix c F1 pre W)
      (fun k => F0 k ∨ k = L ∨ k = D) W1 ?_ ?_ hb1 ?_ ?_ ?_).mono ?_
    · refine ⟨?_, ?_⟩
      · rintro F pre W W' S ⟨hl, hd, h1, h2, F1, h3, h4, h5, h6, h7⟩ hk hs
        exact ⟨hl, hd, (hk.block L (Array.getElem?_eq_some_iff.1 h1).1 (hs L hl)).trans h1, (hk.block D (Array.getElem?_eq_some_iff.1 h2).1 (hs D hd)).trans h2, F1, h3, h4, h5, h6, hI.keep _ _ _ _ _ h7 hk fun k hk' => hs k (h3 k hk')⟩
      · rintro F pre W ⟨hl, hd, h1, h2, F1, h3, h4, h5, h6, h7⟩ k hk
        rcases h6 k hk with e | rfl | rfl
        · exact hI.lt _ _ _ h7 k e
        · exact (Array.getElem?_eq_some_iff.1 h1).1
        · exact (Array.getElem?_eq_some_iff.1 h2).1
    · refine ⟨?_, ?_⟩
      · rintro F pre W W' S ⟨hl, hd, c, h1, h2, F1, h3, h4, h5, h6, h7⟩ hk hs
        exact ⟨hl, hd, c, (hk.block L (Array.getElem?_eq_some_iff.1 h1).1 (hs L hl)).trans h1, (hk.block D (Array.getElem?_eq_some_iff.1 h2).1 (hs D hd)).trans h2, F1, h3, h4, h5, h6, (hIx c).keep _ _ _ _ _ h7 hk fun k hk' => hs k (h3 k hk')⟩
      · rintro F pre W ⟨hl, hd, c, h1, h2, F1, h3, h4, h5, h6, h7⟩ k hk
        rcases h6 k hk with e | rfl | rfl
        · exact (hIx c).lt _ _ _ h7 k e
        · exact (Array.getElem?_eq_some_iff.1 h1).1
        · exact (Array.getElem?_eq_some_iff.1 h2).1
    · rintro k (e | rfl | rfl) hc
      · exact hC k e hc
      · have := hCl _ hc; omega
      · have := hCl _ hc; omega
    · -- one round
      rintro F pre x rest W ⟨hl, hd, h1, h2, F1, h3, h4, h5, h6, h7⟩ hx
      have hLlt : L < W.heap.size := (Array.getElem?_eq_some_iff.1 h1).1
      have hDlt : D < W.heap.size := (Array.getElem?_eq_some_iff.1 h2).1
      have hy := run_yield (P := P) (args := encs x) h1 (by rw [hrec]; exact hps x)
      rw [hrec] at hy
      refine ⟨fn, _, assign, body, by rw [← hL]; exact hy, roundIn_of_wpIn hfn (wpIn_mono (hassign _ F1 pre x rest W h7 hx) ?_)⟩
      rintro e a₁ W₁ hp
      cases e with
      | normal =>
        obtain ⟨F2, hm1, hA1⟩ := hp
        have nL2 : ¬ F2 L := fun e => by rcases hm1.new L e with e | e; exact h4 e; omega
        have nD2 : ¬ F2 D := fun e => by rcases hm1.new D e with e | e; exact h5 e; omega
        have g1 : W₁.heap[L]? = some (.loop (rec .ready none)) := (hm1.keep.block L hLlt h4).trans h1
        have g2 : W₁.heap[D]? = some (.deferred (some [])) := (hm1.keep.block D hDlt h5).trans h2
        have hLlt1 : L < W₁.heap.size := (Array.getElem?_eq_some_iff.1 g1).1
        have hDlt1 : D < W₁.heap.size := (Array.getElem?_eq_some_iff.1 g2).1
        refine ⟨W₁.putObj L (.loop { rec .ready none with state := .busy }), by rw [← hL]; exact run_beginRound g1 (by rw [hrec]), ?_⟩
        have q1 : (W₁.putObj L (.loop { rec .ready none with state := .busy })).heap[L]? = some (.loop { rec .ready none with state := .busy }) := World.putObj_heap_same hLlt1
        have q2 : (W₁.putObj L (.loop { rec .ready none with state := .busy })).heap[D]? = some (.deferred (some [])) := (World.putObj_heap_other (by omega)).trans g2
        have kp1 : Keep (fun k => k = L) W₁ (W₁.putObj L (.loop { rec .ready none with state := .busy })) := Keep.ofPut _ _ _ rfl
        have hA2 := (hA x a₁).keep _ _ _ _ _ hA1 kp1 (fun k hk e => nL2 (e ▸ hk))
        generalize hW2 : W₁.putObj L (.loop { rec .ready none with state := .busy }) = W₂ at *
        refine wpIn_mono (hbody _ F2 pre x rest a₁ W₂ hA2 hx) ?_
        have fin : ∀ (jump : Option Code) (W3 : World) (F3 : Nat → Prop), Mvs F2 W₂ W3 F3 →
            (Instr.endRound (w.heap.size + 1) jump).run P W3 = .ok (.bool jump.isNone) (W3.putObj L (.loop (rec (if jump.isNone then .ready else .done) jump))) ∧
            (W3.putObj L (.loop (rec (if jump.isNone then .ready else .done) jump))).heap[L]? = some (.loop (rec (if jump.isNone then .ready else .done) jump)) ∧
            (W3.putObj L (.loop (rec (if jump.isNone then .ready else .done) jump))).heap[D]? = some (.deferred (some [])) ∧ ¬ F3 L ∧ ¬ F3 D ∧
            Mvs F W (W3.putObj L (.loop (rec (if jump.isNone then .ready else .done) jump))) (fun k => F3 k ∨ k = L ∨ k = D) := fun jump W3 F3 hm => by
          have r1 := (hm.keep.block L (Array.getElem?_eq_some_iff.1 q1).1 nL2).trans q1
          have r2 := (hm.keep.block D (Array.getElem?_eq_some_iff.1 q2).1 nD2).trans q2
          have := run_endRound (P := P) jump r1
          rw [hrec] at this ⊢
          have nL3 : ¬ F3 L := fun e => by rcases hm.new L e with e | e; exact nL2 e; have := (Array.getElem?_eq_some_iff.1 q1).1; omega
          have nD3 : ¬ F3 D := fun e => by rcases hm.new D e with e | e; exact nD2 e; have := (Array.getElem?_eq_some_iff.1 q2).1; omega
          refine ⟨by rw [← hL]; exact this, World.putObj_heap_same (Array.getElem?_eq_some_iff.1 r1).1, (World.putObj_heap_other (by omega)).trans r2, nL3, nD3, ?_, ?_⟩
          · have e1 : Keep F W W₁ := hm1.keep.mono fun j _ hj => h3 j hj
            have e2 : Keep F W W₂ := e1.trans kp1 fun j _ hj => by rw [hj]; exact hl
            have e3 : Keep F W W3 := e2.trans hm.keep fun j hj hg => by
              rcases hm1.new j hg with e | e
              · exact h3 j e
              · omega
            exact e3.trans (Keep.ofPut (S := fun k => k = L) _ _ _ rfl) fun j _ hj => by rw [hj]; exact hl
          · rintro k (e | rfl | rfl)
            · have hs2 : W₁.heap.size ≤ W₂.heap.size := kp1.size
              have hs1 := hm1.keep.size
              rcases hm.new k e with e | e
              · rcases hm1.new k e with e | e
                · exact .inl (h3 k e)
                · exact .inr e
              · exact .inr (by omega)
            · exact .inl hl
            · exact .inl hd
        rintro e a3 W3 hp
        cases e with
        | normal =>
          obtain ⟨F3, hm, hi3⟩ := hp
          obtain ⟨hr, t1, t2, t3, t4, t5⟩ := fin none W3 F3 hm
          exact ⟨_, _, hr, _, t5, .inl ⟨rfl, .inr (.inl rfl), .inr (.inr rfl), t1, t2, F3, fun k hk => .inl hk, t3, t4, fun k hk => hk, hI.keep _ _ _ _ _ hi3 (Keep.ofPut (S := fun k => k = L) _ _ _ rfl) (fun k hk e => t3 (e ▸ hk))⟩⟩
        | ret =>
          obtain ⟨F3, hm, hi3⟩ := hp
          obtain ⟨hr, t1, t2, t3, t4, t5⟩ := fin (some .ret) W3 F3 hm
          exact ⟨_, _, hr, _, t5, .inr ⟨rfl, .inr (.inl rfl), .inr (.inr rfl), _, t1, t2, F3, fun k hk => .inl hk, t3, t4, fun k hk => hk, (hIx _).keep _ _ _ _ _ hi3 (Keep.ofPut (S := fun k => k = L) _ _ _ rfl) (fun k hk e => t3 (e ▸ hk))⟩⟩
        | exit id =>
          obtain ⟨F3, hm, hi3⟩ := hp
          obtain ⟨hr, t1, t2, t3, t4, t5⟩ := fin (some (.exit id)) W3 F3 hm
          exact ⟨_, _, hr, _, t5, .inr ⟨rfl, .inr (.inl rfl), .inr (.inr rfl), _, t1, t2, F3, fun k hk => .inl hk, t3, t4, fun k hk => hk, (hIx _).keep _ _ _ _ _ hi3 (Keep.ofPut (S := fun k => k = L) _ _ _ rfl) (fun k hk e => t3 (e ▸ hk))⟩⟩
        | goto t =>
          obtain ⟨F3, hm, hi3⟩ := hp
          obtain ⟨hr, t1, t2, t3, t4, t5⟩ := fin (some (.goto t)) W3 F3 hm
          exact ⟨_, _, hr, _, t5, .inr ⟨rfl, .inr (.inl rfl), .inr (.inr rfl), _, t1, t2, F3, fun k hk => .inl hk, t3, t4, fun k hk => hk, (hIx _).keep _ _ _ _ _ hi3 (Keep.ofPut (S := fun k => k = L) _ _ _ rfl) (fun k hk e => t3 (e ▸ hk))⟩⟩
        | panic ch => exact hp.elim
        | outgrown => exact hp.elim
      | exit id => exact hp.elim
      | goto t => exact hp.elim
      | ret => exact hp.elim
      | panic ch => exact hp.elim
      | outgrown => exact hp.elim
    · exact ⟨.inr (.inl rfl), .inr (.inr rfl), hL1, hK1, F0, fun k hk => .inl hk, fun e => by have := hF0 _ e; omega, fun e => by have := hF0 _ e; omega, fun k hk => hk, hI1⟩
    · -- behind the iterator
      rintro e W2 ⟨⟨v, rfl⟩, F', hk, hn, hj⟩
      have aft : ∀ (o : Obj) (F1 : Nat → Prop), (∀ k, F1 k → F' k) → ¬ F1 L → ¬ F1 D → W2.heap[D]? = some (.deferred (some [])) → Aft F0 Cw w (W2.putObj L o) F1 D := fun o F1 h3 h4 h5 h2 => by
        refine ⟨?_, fun k hk' => ?_, (World.putObj_heap_other (by omega)).trans h2, by omega, h5⟩
        · have e1 : Keep (fun k => F0 k ∨ Cw k) w W1 := Keep.ofBelow hb1
          have e2 : Keep (fun k => F0 k ∨ Cw k) w W2 := e1.trans hk fun j hj hg => by
            rcases hg with (e | rfl | rfl) | e
            · exact .inl e
            · omega
            · omega
            · exact .inr e
          exact e2.trans (Keep.ofPut (S := fun k => k = L) _ _ _ rfl) fun j hj he => by rw [he] at hj; omega
        · rcases hn k (h3 k hk') with (e | rfl | rfl) | e
          · exact .inl e
          · exact absurd hk' h4
          · exact absurd hk' h5
          · exact .inr (by omega)
      rcases hj with ⟨hl, hd, h1, h2, F1, h3, h4, h5, h6, h7⟩ | ⟨pre, hpre, hl, hd, c, h1, h2, F1, h3, h4, h5, h6, h7⟩
      · refine ⟨none, W2.putObj L (.loop { rec .ready none with state := .exhausted }), by rw [← hL]; have := run_endLoop (P := P) h1 (by rw [hrec]; simp); rw [hrec] at this ⊢; exact this, ?_⟩
        rw [← hD]
        exact hdone D F1 _ (hI.keep _ _ _ _ _ h7 (Keep.ofPut (S := fun k => k = L) _ _ _ rfl) (fun k hk e => h4 (e ▸ hk))) (aft _ F1 h3 h4 h5 h2)
      · refine ⟨some c, W2.putObj L (.loop { rec .done (some c) with state := .exhausted }), by rw [← hL]; have := run_endLoop (P := P) h1 (by rw [hrec]; simp); rw [hrec] at this ⊢; exact this, ?_⟩
        rw [← hD]
        exact hstop D c F1 pre _ hpre ((hIx c).keep _ _ _ _ _ h7 (Keep.ofPut (S := fun k => k = L) _ _ _ rfl) (fun k hk e => h4 (e ▸ hk))) (aft _ F1 h3 h4 h5 h2)
end Go.Proofs.YtmpaliocfikifaaGreatDoor
