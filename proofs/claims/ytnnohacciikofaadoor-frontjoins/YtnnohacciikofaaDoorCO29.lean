import Derived.Test.YtnnohacciikofaaDoorCO20
namespace Go.Proofs.YtnnohacciikofaaDoor
open Go.RowKit
/-- append(l, s), and what stays -/
theorem append_text2 (w : World) (base : Nat) (v : Value) (L : List (List UInt8)) (p : List UInt8) (hown : Own w base v (svs L)) (hlen : L.length ≤ 2000000) (hbase : base ≤ w.heap.size) :
    ∃ v' w', (Builtin.append_ #[24, 24] 24 #[v, .slice (some ⟨w.heap.size, 0, none⟩) 1 1]).run Tryd.prog (w.alloc (.cells #[sv p] 9)) = .ok v' w' ∧ Own w' base v' (svs (L ++ [p])) ∧ Below base w w' ∧
      w.grownBy w' v.ownBlock ∧ (v'.ownBlock = v.ownBlock ∨ v'.ownBlock = some (w.heap.size + 1)) := by
  obtain ⟨i0, hi, hz0, hz1, hz2⟩ := info_parts infoS
  have hsrc : Src Tryd.prog 1 24 (.slice (some ⟨w.heap.size, 0, none⟩) 1 1) 1 [sv p] (w.alloc (.cells #[sv p] 9)) :=
    Src.ofSlice _ Tryd.underlying24 ⟨w.heap.size, 0, none⟩ 1 1 [sv p] (by simp) (fun j u hj => by
      rw [Addr.add_mid, cell_of_row _ _ _ _ _ _ (heap_alloc_new w _), Nat.zero_add]; simpa using hj) (fun u hu => by simp at hu; subst hu; rfl)
  obtain ⟨v', w', h1, h2, h3, h4⟩ := run_append_O (P := Tryd.prog) (w.alloc (.cells #[sv p] 9)) base 24 24 24 9 i0 (.string ⟨#[]⟩) Tryd.underlying24 hi hz0 hz1 rfl v (svs L) (hown.alloc _) _ 1 [sv p] hsrc
    (by rw [svs_length, hz2]; omega) (by rw [svs_length, maxLen]; omega) (by rw [size_alloc]; omega) (fun _ => by omega)
  refine ⟨v', w', h1, by simpa [svs] using h2, ((Below.refl base w).alloc hbase _).trans (Below.ofGrown h3 hown.ge (by rw [size_alloc]; omega)), ?_, by rw [size_alloc] at h4; exact h4⟩
  exact ⟨h3.os, h3.tape, h3.output, by have := h3.size; rw [size_alloc] at this; omega, fun k hk hne => (h3.block k (by rw [size_alloc]; omega) hne).trans (Below.heap_alloc w _ k hk)⟩
theorem Own.lt {w : World} {base : Nat} {v : Value} {cs : List Value} (h : Own w base v cs) : ∀ g, v.ownBlock = some g → g < w.heap.size := by
  rcases h with ⟨rfl, _⟩ | ⟨g', cap, rfl, h1, h2, h3, h4, h5, h6⟩
  · intro g hg; cases hg
  · intro g hg; cases hg; exact h6
/-- yes and no that lie at an address -/
def AtB (w : World) (a : Option Addr) (l : List Bool) : Prop := ∀ j p, l[j]? = some p → ∃ x : Addr, a = some x ∧ x.block < w.heap.size ∧ w.cell? (x.add j) = some (.bool p)
theorem AtB.below {w w' : World} {a : Option Addr} {l : List Bool} {B : Nat} (h : AtB w a l) (hb : Below B w w') (hB : w.heap.size ≤ B) : AtB w' a l := fun j p hp => by
  obtain ⟨x, rfl, hx, hc⟩ := h j p hp
  exact ⟨x, rfl, Nat.lt_of_lt_of_le hx hb.size, (hb.cell (p := x.add j) (by rw [addr_block]; omega)).trans hc⟩
theorem Own.atB {w : World} {base : Nat} {v : Value} {L : List Bool} (h : Own w base v (bls L)) : ∃ a cap, v = .slice a L.length cap ∧ AtB w a L ∧ L.length ≤ cap ∧ cap ≤ 9223372036854775807 := by
  rcases h with ⟨rfl, h⟩ | ⟨g, cap, rfl, h1, h2, h3, h4, h5, h6⟩
  · obtain rfl : L = [] := by simpa [bls] using h
    exact ⟨none, 0, rfl, fun j p hp => by simp at hp, by simp, by omega⟩
  · rw [bls_length] at h2
    refine ⟨some ⟨g, 0, none⟩, cap, by rw [bls_length], fun j p hp => ⟨_, rfl, h6, ?_⟩, h2, h3⟩
    rw [Addr.add_mid]
    exact h4 j (.bool p) (by simp [bls, hp])
theorem atI_one (w : World) (m : Int) : AtI (w.alloc (.cells #[.int .i64 m] 3)) (some ⟨w.heap.size, 0, none⟩) [m] := fun j p hp => by
  refine ⟨_, rfl, by rw [size_alloc]; exact Nat.lt_succ_self _, ?_⟩
  rw [Addr.add_mid, cell_of_row _ _ _ _ _ _ (heap_alloc_new w _), Nat.zero_add]
  match j, hp with
  | 0, h => obtain rfl := Option.some.inj h; rfl
theorem okI_one (n m : Nat) (h : m < n) : OkI n [(m : Int)] := by
  refine ⟨by simp, by simp, fun j x hx => ?_, fun j x y hx hy => by simp at hy⟩
  match j, hx with
  | 0, h' => obtain rfl := Option.some.inj h'; omega
/-- going up so far -/
structure Up (L : List (List UInt8)) (m : Nat) (h0 : List UInt8) (base : Nat) (ws : World) (k : Nat) (vh vl vr : Value) (w : World) : Prop where
  h : vh = sv (Tree.up h0 ((Tree.zp m L).take k))
  l : Own w base vl (svs (Tree.lft ((Tree.zp m L).take k)))
  r : Own w base vr (svs (Tree.rgt ((Tree.zp m L).take k)))
  apart : ∀ g, vl.ownBlock = some g → vr.ownBlock ≠ some g
  below : Below base ws w
theorem lft_step (zs : List (Bool × Tree.T)) (t : Tree.T) : Tree.lft (zs ++ [(false, t)]) = t :: Tree.lft zs := by simp [Tree.lft]
theorem lft_skip (zs : List (Bool × Tree.T)) (t : Tree.T) : Tree.lft (zs ++ [(true, t)]) = Tree.lft zs := by simp [Tree.lft]
theorem rgt_step (zs : List (Bool × Tree.T)) (t : Tree.T) : Tree.rgt (zs ++ [(true, t)]) = Tree.rgt zs ++ [t] := by simp [Tree.rgt]
theorem rgt_skip (zs : List (Bool × Tree.T)) (t : Tree.T) : Tree.rgt (zs ++ [(false, t)]) = Tree.rgt zs := by simp [Tree.rgt]
theorem rgt_len (zs : List (Bool × Tree.T)) : (Tree.rgt zs).length ≤ zs.length := by
  have := Tree.lr_len zs; rw [List.length_append] at this; omega
theorem lft_len (zs : List (Bool × Tree.T)) : (Tree.lft zs).length ≤ zs.length := by
  have := Tree.lr_len zs; rw [List.length_append] at this; omega
end Go.Proofs.YtnnohacciikofaaDoor

namespace Go.Proofs.YtnnohacciikofaaDoor
open Go.RowKit

theorem infoLS : (Tryd.prog.info? 24).map (fun i => (i.zero, i.size, i.bytes)) = some (some (.slice none 0 0), 1, 24) := by kernel_rfl
/-- append(ls, l): a list of lists -/
theorem append_row (w : World) (base : Nat) (v : Value) (cs : List Value) (a : Option Addr) (n cap : Nat) (hown : Own w base v cs) (hlen : cs.length ≤ 2000000) (hbase : base ≤ w.heap.size) :
    ∃ v' w', (Builtin.append_ #[50, 50] 50 #[v, .slice (some ⟨w.heap.size, 0, none⟩) 1 1]).run Tryd.prog (w.alloc (.cells #[.slice a n cap] 24)) = .ok v' w' ∧ Own w' base v' (cs ++ [.slice a n cap]) ∧ Below base w w' ∧
      w.grownBy w' v.ownBlock ∧ (v'.ownBlock = v.ownBlock ∨ v'.ownBlock = some (w.heap.size + 1)) := by
  obtain ⟨i0, hi, hz0, hz1, hz2⟩ := info_parts infoLS
  have hsrc : Src Tryd.prog 1 50 (.slice (some ⟨w.heap.size, 0, none⟩) 1 1) 1 [.slice a n cap] (w.alloc (.cells #[.slice a n cap] 24)) :=
    Src.ofSlice _ Tryd.underlying50 ⟨w.heap.size, 0, none⟩ 1 1 [.slice a n cap] (by simp) (fun j u hj => by
      rw [Addr.add_mid, cell_of_row _ _ _ _ _ _ (heap_alloc_new w _), Nat.zero_add]; simpa using hj) (fun u hu => by simp at hu; subst hu; rfl)
  obtain ⟨v', w', h1, h2, h3, h4⟩ := run_append_O (P := Tryd.prog) (w.alloc (.cells #[.slice a n cap] 24)) base 50 50 50 24 i0 (.slice none 0 0) Tryd.underlying50 hi hz0 hz1 rfl v cs (hown.alloc _) _ 1 [.slice a n cap] hsrc
    (by rw [hz2]; omega) (by rw [maxLen]; omega) (by rw [size_alloc]; omega) (fun _ => by omega)
  refine ⟨v', w', h1, h2, ((Below.refl base w).alloc hbase _).trans (Below.ofGrown h3 hown.ge (by rw [size_alloc]; omega)), ?_, by rw [size_alloc] at h4; exact h4⟩
  exact ⟨h3.os, h3.tape, h3.output, by have := h3.size; rw [size_alloc] at this; omega, fun k hk hne => (h3.block k (by rw [size_alloc]; omega) hne).trans (Below.heap_alloc w _ k hk)⟩
end Go.Proofs.YtnnohacciikofaaDoor

namespace Go.Proofs.YtnnohacciikofaaDoor
open Go.RowKit

/-- everything outside S is as it was -/
structure Keep (S : Nat → Prop) (w w' : World) : Prop where
  os : w'.os = w.os
  tape : w'.tape = w.tape
  output : w'.output = w.output
  size : w.heap.size ≤ w'.heap.size
  block : ∀ k, k < w.heap.size → ¬ S k → w'.heap[k]? = w.heap[k]?
theorem Keep.refl (S : Nat → Prop) (w : World) : Keep S w w := ⟨rfl, rfl, rfl, Nat.le_refl _, fun _ _ _ => rfl⟩
theorem Keep.trans {S T : Nat → Prop} {w w1 w2 : World} (h : Keep S w w1) (k : Keep T w1 w2) (hT : ∀ j, j < w.heap.size → T j → S j) : Keep S w w2 :=
  ⟨k.os.trans h.os, k.tape.trans h.tape, k.output.trans h.output, Nat.le_trans h.size k.size, fun i hi hb => (k.block i (Nat.lt_of_lt_of_le hi h.size) (fun e => hb (hT i hi e))).trans (h.block i hi hb)⟩
theorem Keep.mono {S T : Nat → Prop} {w w' : World} (h : Keep S w w') (hT : ∀ j, j < w.heap.size → S j → T j) : Keep T w w' := ⟨h.os, h.tape, h.output, h.size, fun k hk hb => h.block k hk fun e => hb (hT k hk e)⟩
theorem Keep.ofBelow {S : Nat → Prop} {w w' : World} (h : Below w.heap.size w w') : Keep S w w' := ⟨h.os, h.tape, h.output, h.size, fun k hk _ => h.block k hk⟩
theorem Keep.ofGrown {S : Nat → Prop} {w w' : World} {row : Option Nat} (h : w.grownBy w' row) (hr : ∀ k, row = some k → S k) : Keep S w w' :=
  ⟨h.os, h.tape, h.output, h.size, fun k hk hs => h.block k hk fun e => hs (hr k e.symm)⟩
theorem Keep.ofSet {S : Nat → Prop} (w : World) (b o : Nat) (v : Value) (hb : S b) : Keep S w (w.setCell ⟨b, o, none⟩ v) :=
  ⟨rfl, rfl, rfl, by simp [World.setCell], fun k _ hs => Below.heap_setCell w _ v k (fun e => hs (e ▸ hb))⟩
theorem Own.keep {S : Nat → Prop} {w w' : World} {base : Nat} {v : Value} {cs : List Value} (h : Own w base v cs) (hb : Keep S w w') (hne : ∀ k, v.ownBlock = some k → ¬ S k) : Own w' base v cs := by
  refine h.kept hb.size fun g hg => hb.block g ?_ (hne g hg)
  rcases h with ⟨rfl, _⟩ | ⟨g', cap, rfl, h1, h2, h3, h4, h5, h6⟩
  · cases hg
  · cases hg; exact h6
theorem own_sl {w : World} {base : Nat} {v : Value} {cs : List Value} (h : Own w base v cs) : ∃ a n c, v = .slice a n c := by
  rcases h with ⟨rfl, _⟩ | ⟨g', cap, rfl, _⟩ <;> exact ⟨_, _, _, rfl⟩
/-- a list was taken into the book -/
structure Took (w w' : World) (X base : Nat) (vf vw vl vg vh u : Value) (FS WS : List Value) (L : List (List UInt8)) (vf' vw' c : Value) : Prop where
  row : w'.heap[X]? = some (.cells #[vf', vw', vl, vg, vh] 52 (0, 0))
  free : Own w' base vf' (FS ++ [u])
  was : Own w' base vw' (WS ++ [c])
  copy : Own w' w.heap.size c (svs L)
  keep : Keep (fun k => k = X ∨ vf.ownBlock = some k ∨ vw.ownBlock = some k) w w'
  srcF : ∀ k, vf'.ownBlock = some k → vf.ownBlock = some k ∨ w.heap.size ≤ k
  srcW : ∀ k, vw'.ownBlock = some k → vw.ownBlock = some k ∨ w.heap.size ≤ k
  apart : ∀ k, vf'.ownBlock = some k → vw'.ownBlock ≠ some k
  fresh : ∀ k, c.ownBlock = some k → k ≠ X ∧ vf'.ownBlock ≠ some k ∧ vw'.ownBlock ≠ some k
set_option maxRecDepth 100000 in
set_option maxHeartbeats 1600000 in
theorem takes_any (X base b2 : Nat) (vf vw vl vg vh : Value) (a : Option Addr) (n cap : Nat) (FS WS : List Value) (L : List (List UInt8)) (w : World) (hX : w.heap[X]? = some (.cells #[vf, vw, vl, vg, vh] 52 (0, 0)))
    (hf : Own w base vf FS) (hw : Own w base vw WS) (hu : Own w b2 (.slice a n cap) (svs L)) (hfl : FS.length ≤ 1000000) (hwl : WS.length ≤ 1000000) (hL : L.length ≤ 2000000) (hbase : base ≤ w.heap.size)
    (hFX : vf.ownBlock ≠ some X) (hWX : vw.ownBlock ≠ some X) (hFW : ∀ k, vf.ownBlock = some k → vw.ownBlock ≠ some k)
    (hU : ∀ k, (Value.slice a n cap).ownBlock = some k → k ≠ X ∧ vf.ownBlock ≠ some k ∧ vw.ownBlock ≠ some k) :
    Calls Tryd.prog 43 #[.pointer (some ⟨X, 0, none⟩), .slice a n cap] w fun r w' => r = .returned (.tuple #[]) ∧ ∃ vf' vw' c, Took w w' X base vf vw vl vg vh (.slice a n cap) FS WS L vf' vw' c := by
  have hXl : X < w.heap.size := lt_of_heap hX
  have c0 : w.cell? ⟨X, 0, none⟩ = some vf := by rw [cell_of_row _ _ _ _ _ _ hX]; rfl
  obtain ⟨vf', w1, hc1, o1, _, g1, s1⟩ := append_row w base vf FS a n cap hf (by omega) hbase
  have k1 : Keep (fun k => vf.ownBlock = some k) w w1 := Keep.ofGrown g1 (fun k hk => hk)
  have hX1 := (k1.block X hXl hFX).trans hX
  have f1 : w1.frozen? ⟨X, 0, none⟩ = false := frozen_of_row _ _ _ _ _ hX1
  have d0 : w1.cell? ⟨X, 0, none⟩ = some vf := by rw [cell_of_row _ _ _ _ _ _ hX1]; rfl
  have hX2 : (w1.setCell ⟨X, 0, none⟩ vf').heap[X]? = some (.cells #[vf', vw, vl, vg, vh] 52 (0, 0)) := heap_setCell_same w1 X 0 _ _ vf' hX1
  have k12 : Keep (fun k => k = X) w1 (w1.setCell ⟨X, 0, none⟩ vf') := Keep.ofSet w1 X 0 vf' rfl
  have fF : ∀ k, vf'.ownBlock = some k → vf.ownBlock = some k ∨ w.heap.size ≤ k := fun k hk => by
    rcases s1 with e | e
    · left; rw [← e]; exact hk
    · right; rw [e] at hk; injection hk with hk; omega
  have fFX : ∀ k, vf'.ownBlock = some k → k ≠ X := fun k hk e => by
    rcases fF k hk with h | h
    · exact hFX (e ▸ h)
    · omega
  have o2 := o1.keep k12 fFX
  have hu2 := (hu.keep k1 (fun k hk e => (hU k hk).2.1 e)).keep k12 (fun k hk => (hU k hk).1)
  have hw2 := (hw.keep k1 (fun k hk e => hFW k e hk)).keep k12 (fun k hk e => hWX (e ▸ hk))
  have K2 : Keep (fun k => k = X ∨ vf.ownBlock = some k) w (w1.setCell ⟨X, 0, none⟩ vf') := (k1.mono (fun _ _ h => .inr h)).trans k12 (fun _ _ h => .inl h)
  obtain ⟨w2, hw2e⟩ : ∃ w2, w1.setCell ⟨X, 0, none⟩ vf' = w2 := ⟨_, rfl⟩
  rw [hw2e] at hX2 o2 hu2 hw2 K2
  obtain ⟨wd, hwd⟩ : ∃ wd, w2.drew = wd := ⟨_, rfl⟩
  replace hX2 : wd.heap[X]? = some (.cells #[vf', vw, vl, vg, vh] 52 (0, 0)) := by rw [← hwd]; exact hX2
  replace o2 : Own wd base vf' (FS ++ [.slice a n cap]) := by rw [← hwd]; exact o2.drew
  replace hu2 : Own wd b2 (.slice a n cap) (svs L) := by rw [← hwd]; exact hu2.drew
  replace hw2 : Own wd base vw WS := by rw [← hwd]; exact hw2.drew
  replace K2 : Keep (fun k => k = X ∨ vf.ownBlock = some k) w wd := by rw [← hwd]; exact ⟨K2.os, K2.tape, K2.output, K2.size, K2.block⟩
  have sz2 := K2.size
  have c2 : wd.cell? ⟨X, 1, none⟩ = some vw := by rw [cell_of_row _ _ _ _ _ _ hX2]; rfl
  obtain ⟨c, w3, hc2, o3, b3⟩ := append_list wd wd.heap.size b2 (.slice none 0 0) (.slice a n cap) [] L (Own.nil _ _) hu2 (by simp; omega) (Nat.le_refl _)
  rw [List.nil_append] at o3
  have sz3 := b3.size
  have hX3 := (b3.block X (by omega)).trans hX2
  have c3 : w3.cell? ⟨X, 1, none⟩ = some vw := by rw [cell_of_row _ _ _ _ _ _ hX3]; rfl
  obtain ⟨a3, n3, cap3, rfl⟩ := own_sl o3
  have c3x : (w3.alloc (.cells #[.slice a3 n3 cap3] 24)).cell? ⟨X, 1, none⟩ = some vw := by
    rw [World.cell?_of_block (w := w3) (Below.heap_alloc w3 _ X (by omega))]; exact c3
  obtain ⟨vw', w4, hc3, o4, _, g4, s4⟩ := append_row w3 base vw WS a3 n3 cap3 (hw2.below b3 (Nat.le_refl _)) (by omega) (by omega)
  have k4 : Keep (fun k => vw.ownBlock = some k) w3 w4 := Keep.ofGrown g4 (fun k hk => hk)
  have hX4 := (k4.block X (by omega) hWX).trans hX3
  have f4 : w4.frozen? ⟨X, 1, none⟩ = false := frozen_of_row _ _ _ _ _ hX4
  have d4 : w4.cell? ⟨X, 1, none⟩ = some vw := by rw [cell_of_row _ _ _ _ _ _ hX4]; rfl
  have hX5 : (w4.setCell ⟨X, 1, none⟩ vw').heap[X]? = some (.cells #[vf', vw', vl, vg, vh] 52 (0, 0)) := heap_setCell_same w4 X 1 _ _ vw' hX4
  have k45 : Keep (fun k => k = X) w4 (w4.setCell ⟨X, 1, none⟩ vw') := Keep.ofSet w4 X 1 vw' rfl
  have hwlt := hw.lt
  have fW : ∀ k, vw'.ownBlock = some k → vw.ownBlock = some k ∨ w3.heap.size ≤ k := fun k hk => by
    rcases s4 with e | e
    · left; rw [← e]; exact hk
    · right; rw [e] at hk; injection hk with hk; omega
  have hlf := o2.lt
  have hge := o3.ge
  have res : Took w (w4.setCell ⟨X, 1, none⟩ vw') X base vf vw vl vg vh (.slice a n cap) FS WS L vf' vw' (.slice a3 n3 cap3) := by
    refine ⟨hX5, ?_, ?_, ?_, ?_, fF, fun k hk => (fW k hk).imp id (fun h => by omega), fun k h1 h2 => ?_, fun k h1 => ⟨fun e => ?_, fun e => ?_, fun e => ?_⟩⟩
    · refine ((o2.below b3 (Nat.le_refl _)).keep k4 (fun k h1 h2 => ?_)).keep k45 fFX
      rcases fF k h1 with h | h
      · exact hFW k h h2
      · have := hwlt k h2; omega
    · refine o4.keep k45 (fun k hk e => ?_)
      rcases fW k hk with h | h
      · exact hWX (e ▸ h)
      · omega
    · have o3' := o3
      refine (((o3.keep k4 (fun k h1 h2 => ?_)).keep k45 (fun k h1 e => ?_))).mono sz2
      · have := hge k h1; have := hwlt k h2; omega
      · have := hge k h1; omega
    · refine (((K2.mono (fun _ _ h => h.imp id .inl)).trans (Keep.ofBelow (S := fun _ => False) b3) (fun _ _ h => h.elim)).trans k4 (fun _ _ h => .inr (.inr h))).trans k45 (fun _ _ h => .inl h)
    · rcases fW k h2 with h | h
      · rcases fF k h1 with h' | h'
        · exact hFW k h' h
        · have := hwlt k h; omega
      · have := hlf k h1; omega
    · have := hge k h1; omega
    · have := hge k h1; have := hlf k e; omega
    · have h2 := hge k h1
      rcases fW k e with h | h
      · have := hwlt k h; omega
      · have := o3.lt k h1; omega
  have RES := hid res
  obtain ⟨a1, n1, cap1, hvf⟩ := own_sl hf
  obtain ⟨a1', n1', cap1', hvf'⟩ := own_sl o1
  obtain ⟨a2, n2, cap2, hvw⟩ := own_sl hw
  obtain ⟨a2', n2', cap2', hvw'⟩ := own_sl o4
  subst hvf hvf' hvw hvw'
  clear hX hX1 hX2 hX3 hX4 hX5 o1 o2 o3 o4 k1 k12 k4 k45 K2 hu hu2 hw hw2 hf g1 g4 s1 s4 fF fFX fW hwlt hlf hge b3 res hFX hWX hFW hU
  go_enter Tryd.func43, Tryd.ntmps43
  go_wp2_with (at_builtin; go_must (refine Lib.wpList_append_run _ rfl _ _ 50 50 rfl _ _ rfl rfl _ _ hc1 ?_))
  subst hwd
  have c3a : (w3.alloc (.cells #[.slice a3 n3 cap3] 24)).cell? ⟨X, 1, none⟩ = some (.slice a2 n2 cap2) := c3x
  go_region_law (first
    | (refine step_append_run rfl _ _ 24 rfl (.slice none 0 0) (.slice a n cap) _ w3 rfl rfl hc2 ?_)
    | (refine step_append_run rfl _ _ 50 rfl _ _ _ w4 rfl rfl hc3 ?_))
  all_goals
    go_wp2
    go_end0
    exact ⟨rfl, _, _, _, RES.out⟩
end Go.Proofs.YtnnohacciikofaaDoor
