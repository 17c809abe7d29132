import Derived.Test.YthoakchdlidemaaDoorPkO2
import Derived.RangeFuncNested
import Derived.RangeFuncBound
import Derived.RangeFuncCalls
import Derived.RangeFuncLeaves
import Derived.Shelf.Abstract
import Derived.Shelf.RegionOpen
import Derived.WalkKit
import Derived.OwnWalkIn
import Derived.TacticsInMore
import Derived.LoopNIn
import Derived.LoopIn
namespace Go.Proofs.YthoakchdlidemaaDoor.Tree
/-- the path, each hash with its side -/
def zpF : Nat → Nat → List T → List (Bool × T)
  | 0, _, _ => []
  | f + 1, m, l => if l.length < 2 then [] else
    if m < sp l.length then zpF f m (l.take (sp l.length)) ++ [(true, root (l.drop (sp l.length)))] else zpF f (m - sp l.length) (l.drop (sp l.length)) ++ [(false, root (l.take (sp l.length)))]
def zp (m : Nat) (l : List T) : List (Bool × T) := zpF l.length m l
theorem zpF_eq : ∀ (f g m : Nat) (l : List T), l.length ≤ f → l.length ≤ g → zpF f m l = zpF g m l
  | 0, 0, _, _, _, _ => rfl
  | 0, g + 1, m, l, h, _ => by rw [zpF, zpF, if_pos (by omega)]
  | f + 1, 0, m, l, _, h => by rw [zpF, zpF, if_pos (by omega)]
  | f + 1, g + 1, m, l, h1, h2 => by
    rw [zpF, zpF]
    by_cases h : l.length < 2
    · rw [if_pos h, if_pos h]
    · have a := sp_lt (n := l.length) (by omega)
      have b := sp_pos (n := l.length) (by omega)
      rw [if_neg h, if_neg h, zpF_eq f g _ _ (by simp; omega) (by simp; omega), zpF_eq f g _ (l.drop _) (by simp; omega) (by simp; omega)]
theorem zp_small {m : Nat} {l : List T} (h : l.length < 2) : zp m l = [] := by
  rw [zp, zpF_eq _ 1 _ _ (Nat.le_refl _) (by omega), zpF, if_pos h]
theorem zp_cut {m : Nat} {l : List T} (h : 2 ≤ l.length) : zp m l = if m < sp l.length then zp m (l.take (sp l.length)) ++ [(true, root (l.drop (sp l.length)))] else zp (m - sp l.length) (l.drop (sp l.length)) ++ [(false, root (l.take (sp l.length)))] := by
  have a := sp_lt h
  have b := sp_pos h
  have e : zp m l = zpF (l.length - 1 + 1) m l := zpF_eq _ _ _ _ (by omega) (by omega)
  rw [e, zpF, if_neg (by omega), zp, zp, zpF_eq (l.length - 1) _ _ (l.take _) (by simp; omega) (Nat.le_refl _), zpF_eq (l.length - 1) _ _ (l.drop _) (by simp; omega) (Nat.le_refl _)]
theorem path_zp : ∀ (f m : Nat) (l : List T), l.length ≤ f → path m l = (zp m l).map (·.2)
  | 0, m, l, h => by rw [path_small (by omega), zp_small (by omega)]; rfl
  | f + 1, m, l, h => by
    by_cases h2 : l.length < 2
    · rw [path_small h2, zp_small h2]; rfl
    · have a := sp_lt (n := l.length) (by omega)
      have b := sp_pos (n := l.length) (by omega)
      rw [path_cut (by omega), zp_cut (by omega)]
      split
      · rw [path_zp f m _ (by simp; omega)]; simp
      · rw [path_zp f _ (l.drop _) (by simp; omega)]; simp
/-- going up -/
def up (h : T) (zs : List (Bool × T)) : T := zs.foldl (fun h z => if z.1 then nd h z.2 else nd z.2 h) h
theorem up_step (h : T) (zs : List (Bool × T)) (z : Bool × T) : up h (zs ++ [z]) = if z.1 then nd (up h zs) z.2 else nd z.2 (up h zs) := by
  simp [up]
theorem up_root : ∀ (f m : Nat) (l : List T) (h : m < l.length), l.length ≤ f → up l[m] (zp m l) = root l
  | 0, m, l, h, hf => by omega
  | f + 1, m, l, h, hf => by
    by_cases h2 : l.length < 2
    · have h1 : l.length = 1 := by omega
      obtain ⟨a, rfl⟩ := List.length_eq_one_iff.1 h1
      have : m = 0 := by simp at h; omega
      subst this
      rw [zp_small h2]; rfl
    · have a := sp_lt (n := l.length) (by omega)
      have b := sp_pos (n := l.length) (by omega)
      rw [zp_cut (by omega), root_cut (l := l) (by omega)]
      by_cases hm : m < sp l.length
      · rw [if_pos hm, up_step]
        have := up_root f m (l.take (sp l.length)) (by simp; omega) (by simp; omega)
        rw [List.getElem_take] at this
        rw [this]; rfl
      · rw [if_neg hm, up_step]
        have := up_root f (m - sp l.length) (l.drop (sp l.length)) (by simp; omega) (by simp; omega)
        rw [List.getElem_drop] at this
        have e : sp l.length + (m - sp l.length) = m := by omega
        simp only [e] at this
        rw [this]; rfl
def rgt (zs : List (Bool × T)) : List T := (zs.filter (·.1)).map (·.2)
def lft (zs : List (Bool × T)) : List T := ((zs.filter (fun z => !z.1)).map (·.2)).reverse
theorem many_zp : ∀ (f m b : Nat) (l : List T), l.length ≤ f → m < l.length → many [b + m] b l = lft (zp m l) ++ rgt (zp m l)
  | 0, m, b, l, hf, h => by omega
  | f + 1, m, b, l, hf, h => by
    by_cases h2 : l.length < 2
    · rw [zp_small h2, many_one (by simp) (by omega)]; rfl
    · have x := sp_lt (n := l.length) (by omega)
      have y := sp_pos (n := l.length) (by omega)
      rw [zp_cut (by omega), many_cut (by simp) (by omega)]
      by_cases hm : m < sp l.length
      · have ih := many_zp f m b (l.take (sp l.length)) (by simp; omega) (by simp; omega)
        rw [if_pos hm, List.filter_cons_of_pos (by simp; omega), List.filter_nil, List.filter_cons_of_neg (by simp; omega), List.filter_nil, ih, many_none (by simp; omega)]
        simp [lft, rgt]
      · have ih := many_zp f (m - sp l.length) (b + sp l.length) (l.drop (sp l.length)) (by simp; omega) (by simp; omega)
        rw [show b + sp l.length + (m - sp l.length) = b + m from by omega] at ih
        rw [if_neg hm, List.filter_cons_of_neg (by simp; omega), List.filter_nil, List.filter_cons_of_pos (by simp; omega), List.filter_nil, ih, many_none (by simp; omega)]
        simp [lft, rgt]
theorem lr_len (zs : List (Bool × T)) : (lft zs ++ rgt zs).length = zs.length := by
  induction zs with
  | nil => rfl
  | cons z zs ih =>
    obtain ⟨b, t⟩ := z
    cases b <;> simp [lft, rgt] at * <;> omega
/-- how many digits -/
def dg (x : Nat) : Nat := if x = 0 then 0 else x.log2 + 1
theorem dg_le {x L : Nat} (h : x < 2 ^ L) : dg x ≤ L := by
  unfold dg
  split
  · omega
  · rename_i h0
    have := (Nat.log2_lt h0).2 h
    omega
theorem dg_half {x : Nat} (h : 0 < x) : dg x = dg (x / 2) + 1 := by
  unfold dg
  rw [if_neg (by omega)]
  rw [Nat.log2_def]
  by_cases h2 : 2 ≤ x
  · rw [if_pos h2, if_neg (by omega)]
  · rw [if_neg h2, if_pos (by omega)]
theorem zp_dg : ∀ (f m : Nat) (l : List T), l.length ≤ f → (zp m l).length ≤ dg (l.length - 1)
  | 0, m, l, h => by rw [zp_small (by omega)]; simp
  | f + 1, m, l, h => by
    by_cases h2 : l.length < 2
    · rw [zp_small h2]; simp
    · have a := sp_lt (n := l.length) (by omega)
      have b := sp_pos (n := l.length) (by omega)
      have c := sp_ge (n := l.length) (by omega)
      have d := sp_eq (n := l.length) (by omega)
      have e : dg (l.length - 1) = (l.length - 1).log2 + 1 := by unfold dg; rw [if_neg (by omega)]
      rw [zp_cut (by omega), e]
      split
      · have ih := zp_dg f m (l.take (sp l.length)) (by simp; omega)
        have : dg ((l.take (sp l.length)).length - 1) ≤ (l.length - 1).log2 := dg_le (by rw [List.length_take, ← d]; omega)
        rw [List.length_append, List.length_singleton]; omega
      · have ih := zp_dg f (m - sp l.length) (l.drop (sp l.length)) (by simp; omega)
        have : dg ((l.drop (sp l.length)).length - 1) ≤ (l.length - 1).log2 := dg_le (by rw [List.length_drop, ← d]; omega)
        rw [List.length_append, List.length_singleton]; omega
end Go.Proofs.YthoakchdlidemaaDoor.Tree

namespace Go.Proofs.YthoakchdlidemaaDoor
open Go.RowKit
def bls (L : List Bool) : List Value := L.map .bool
theorem bls_length (L : List Bool) : (bls L).length = L.length := by simp [bls]
theorem infoB : (Tryd.prog.info? 4).map (fun i => (i.zero, i.size, i.bytes)) = some (some (.bool false), 1, 1) := by kernel_rfl
/-- a list of yes and no -/
def OutB (w : World) (L : List Bool) (e : Ending) (w' : World) : Prop := ∃ v, e = .returned v ∧ Own w' w.heap.size v (bls L) ∧ Below w.heap.size w w'
end Go.Proofs.YthoakchdlidemaaDoor

namespace Go.Proofs.YthoakchdlidemaaDoor
open Go.RowKit

theorem conv_two (n : Nat) (hn : n ≤ 255) (w : World) : (convert 67 9 (.slice (some ⟨w.heap.size, 0, none⟩) 2 2)).run Tryd.prog (w.alloc (.cells #[.int .u8 (n : Int), .int .u8 0] 5)) = .ok (sv [UInt8.ofNat n, 0]) (w.alloc (.cells #[.int .u8 (n : Int), .int .u8 0] 5)) := by
  refine run_conv_bytes (P := Tryd.prog) _ 67 9 5 w.heap.size 0 2 2 [UInt8.ofNat n, 0] rfl Tryd.underlying67 Tryd.underlying5 Tryd.underlying9 ?_
  intro j v hv
  have hX := heap_alloc_new w (.cells #[.int .u8 (n : Int), .int .u8 0] 5)
  match j, hv with
  | 0, hv =>
    have e : v = .int .u8 (n : Int) := by
      simp [bv] at hv
      rw [← hv]; congr 1; omega
    rw [e, cell_of_row _ _ _ _ _ _ hX]; rfl
  | 1, hv =>
    have e : v = .int .u8 0 := by simp [bv] at hv; rw [← hv]
    rw [e, cell_of_row _ _ _ _ _ _ hX]; rfl
  | j + 2, hv => simp [bv] at hv
end Go.Proofs.YthoakchdlidemaaDoor

namespace Go.Proofs.YthoakchdlidemaaDoor
open Go.RowKit
def sides (m : Nat) (l : List (List UInt8)) : List Bool := (Tree.zp m l).map (·.1)
end Go.Proofs.YthoakchdlidemaaDoor

namespace Go.Proofs.YthoakchdlidemaaDoor
open Go.RowKit
/-- append(l, s), and what stays -/
theorem append_text2 (w : World) (base : Nat) (v : Value) (L : List (List UInt8)) (p : List UInt8) (hown : Own w base v (svs L)) (hlen : L.length ≤ 2000000) (hbase : base ≤ w.heap.size) :
    ∃ v' w', (Builtin.append_ #[33, 33] 33 #[v, .slice (some ⟨w.heap.size, 0, none⟩) 1 1]).run Tryd.prog (w.alloc (.cells #[sv p] 9)) = .ok v' w' ∧ Own w' base v' (svs (L ++ [p])) ∧ Below base w w' ∧
      w.grownBy w' v.ownBlock ∧ (v'.ownBlock = v.ownBlock ∨ v'.ownBlock = some (w.heap.size + 1)) := by
  obtain ⟨i0, hi, hz0, hz1, hz2⟩ := info_parts infoS
  have hsrc : Src Tryd.prog 1 33 (.slice (some ⟨w.heap.size, 0, none⟩) 1 1) 1 [sv p] (w.alloc (.cells #[sv p] 9)) :=
    Src.ofSlice _ Tryd.underlying33 ⟨w.heap.size, 0, none⟩ 1 1 [sv p] (by simp) (fun j u hj => by
      rw [Addr.add_mid, cell_of_row _ _ _ _ _ _ (heap_alloc_new w _), Nat.zero_add]; simpa using hj) (fun u hu => by simp at hu; subst hu; rfl)
  obtain ⟨v', w', h1, h2, h3, h4⟩ := run_append_O (P := Tryd.prog) (w.alloc (.cells #[sv p] 9)) base 33 33 33 9 i0 (.string ⟨#[]⟩) Tryd.underlying33 hi hz0 hz1 rfl v (svs L) (hown.alloc _) _ 1 [sv p] hsrc
    (by rw [svs_length, hz2]; omega) (by rw [svs_length, maxLen]; omega) (by rw [size_alloc]; omega) (fun _ => by omega)
  refine ⟨v', w', h1, by simpa [svs] using h2, ((Below.refl base w).alloc hbase _).trans (Below.ofGrown h3 hown.ge (by rw [size_alloc]; omega)), ?_, by rw [size_alloc] at h4; exact h4⟩
  exact ⟨h3.os, h3.tape, h3.output, by have := h3.size; rw [size_alloc] at this; omega, fun k hk hne => (h3.block k (by rw [size_alloc]; omega) hne).trans (Below.heap_alloc w _ k hk)⟩
theorem Own.lt {w : World} {base : Nat} {v : Value} {cs : List Value} (h : Own w base v cs) : ∀ g, v.ownBlock = some g → g < w.heap.size := by
  rcases h with ⟨rfl, _⟩ | ⟨g', cap, rfl, h1, h2, h3, h4, h5, h6⟩
  · intro g hg; cases hg
  · intro g hg; cases hg; exact h6
/-- yes and no that lie at an address -/
def AtB (w : World) (a : Option Addr) (l : List Bool) : Prop := ∀ j p, l[j]? = some p → ∃ x : Addr, a = some x ∧ x.block < w.heap.size ∧ w.cell? (x.add j) = some (.bool p)
theorem AtB.below {w w' : World} {a : Option Addr} {l : List Bool} {B : Nat} (h : AtB w a l) (hb : Below B w w') (hB : w.heap.size ≤ B) : AtB w' a l := fun j p hp => by
  obtain ⟨x, rfl, hx, hc⟩ := h j p hp
  exact ⟨x, rfl, Nat.lt_of_lt_of_le hx hb.size, (hb.cell (p := x.add j) (by rw [addr_block]; omega)).trans hc⟩
theorem Own.atB {w : World} {base : Nat} {v : Value} {L : List Bool} (h : Own w base v (bls L)) : ∃ a cap, v = .slice a L.length cap ∧ AtB w a L ∧ L.length ≤ cap ∧ cap ≤ 9223372036854775807 := by
  rcases h with ⟨rfl, h⟩ | ⟨g, cap, rfl, h1, h2, h3, h4, h5, h6⟩
  · obtain rfl : L = [] := by simpa [bls] using h
    exact ⟨none, 0, rfl, fun j p hp => by simp at hp, by simp, by omega⟩
  · rw [bls_length] at h2
    refine ⟨some ⟨g, 0, none⟩, cap, by rw [bls_length], fun j p hp => ⟨_, rfl, h6, ?_⟩, h2, h3⟩
    rw [Addr.add_mid]
    exact h4 j (.bool p) (by simp [bls, hp])
theorem atI_one (w : World) (m : Int) : AtI (w.alloc (.cells #[.int .i64 m] 3)) (some ⟨w.heap.size, 0, none⟩) [m] := fun j p hp => by
  refine ⟨_, rfl, by rw [size_alloc]; exact Nat.lt_succ_self _, ?_⟩
  rw [Addr.add_mid, cell_of_row _ _ _ _ _ _ (heap_alloc_new w _), Nat.zero_add]
  match j, hp with
  | 0, h => obtain rfl := Option.some.inj h; rfl
theorem okI_one (n m : Nat) (h : m < n) : OkI n [(m : Int)] := by
  refine ⟨by simp, by simp, fun j x hx => ?_, fun j x y hx hy => by simp at hy⟩
  match j, hx with
  | 0, h' => obtain rfl := Option.some.inj h'; omega
/-- going up so far -/
structure Up (L : List (List UInt8)) (m : Nat) (h0 : List UInt8) (base : Nat) (ws : World) (k : Nat) (vh vl vr : Value) (w : World) : Prop where
  h : vh = sv (Tree.up h0 ((Tree.zp m L).take k))
  l : Own w base vl (svs (Tree.lft ((Tree.zp m L).take k)))
  r : Own w base vr (svs (Tree.rgt ((Tree.zp m L).take k)))
  apart : ∀ g, vl.ownBlock = some g → vr.ownBlock ≠ some g
  below : Below base ws w
theorem lft_step (zs : List (Bool × Tree.T)) (t : Tree.T) : Tree.lft (zs ++ [(false, t)]) = t :: Tree.lft zs := by simp [Tree.lft]
theorem lft_skip (zs : List (Bool × Tree.T)) (t : Tree.T) : Tree.lft (zs ++ [(true, t)]) = Tree.lft zs := by simp [Tree.lft]
theorem rgt_step (zs : List (Bool × Tree.T)) (t : Tree.T) : Tree.rgt (zs ++ [(true, t)]) = Tree.rgt zs ++ [t] := by simp [Tree.rgt]
theorem rgt_skip (zs : List (Bool × Tree.T)) (t : Tree.T) : Tree.rgt (zs ++ [(false, t)]) = Tree.rgt zs := by simp [Tree.rgt]
theorem rgt_len (zs : List (Bool × Tree.T)) : (Tree.rgt zs).length ≤ zs.length := by
  have := Tree.lr_len zs; rw [List.length_append] at this; omega
theorem lft_len (zs : List (Bool × Tree.T)) : (Tree.lft zs).length ≤ zs.length := by
  have := Tree.lr_len zs; rw [List.length_append] at this; omega
end Go.Proofs.YthoakchdlidemaaDoor

namespace Go.Proofs.YthoakchdlidemaaDoor
open Go.RowKit

theorem infoLS : (Tryd.prog.info? 33).map (fun i => (i.zero, i.size, i.bytes)) = some (some (.slice none 0 0), 1, 24) := by kernel_rfl
/-- append(ls, l): a list of lists -/
theorem append_row (w : World) (base : Nat) (v : Value) (cs : List Value) (a : Option Addr) (n cap : Nat) (hown : Own w base v cs) (hlen : cs.length ≤ 2000000) (hbase : base ≤ w.heap.size) :
    ∃ v' w', (Builtin.append_ #[98, 98] 98 #[v, .slice (some ⟨w.heap.size, 0, none⟩) 1 1]).run Tryd.prog (w.alloc (.cells #[.slice a n cap] 33)) = .ok v' w' ∧ Own w' base v' (cs ++ [.slice a n cap]) ∧ Below base w w' ∧
      w.grownBy w' v.ownBlock ∧ (v'.ownBlock = v.ownBlock ∨ v'.ownBlock = some (w.heap.size + 1)) := by
  obtain ⟨i0, hi, hz0, hz1, hz2⟩ := info_parts infoLS
  have hsrc : Src Tryd.prog 1 98 (.slice (some ⟨w.heap.size, 0, none⟩) 1 1) 1 [.slice a n cap] (w.alloc (.cells #[.slice a n cap] 33)) :=
    Src.ofSlice _ Tryd.underlying98 ⟨w.heap.size, 0, none⟩ 1 1 [.slice a n cap] (by simp) (fun j u hj => by
      rw [Addr.add_mid, cell_of_row _ _ _ _ _ _ (heap_alloc_new w _), Nat.zero_add]; simpa using hj) (fun u hu => by simp at hu; subst hu; rfl)
  obtain ⟨v', w', h1, h2, h3, h4⟩ := run_append_O (P := Tryd.prog) (w.alloc (.cells #[.slice a n cap] 33)) base 98 98 98 33 i0 (.slice none 0 0) Tryd.underlying98 hi hz0 hz1 rfl v cs (hown.alloc _) _ 1 [.slice a n cap] hsrc
    (by rw [hz2]; omega) (by rw [maxLen]; omega) (by rw [size_alloc]; omega) (fun _ => by omega)
  refine ⟨v', w', h1, h2, ((Below.refl base w).alloc hbase _).trans (Below.ofGrown h3 hown.ge (by rw [size_alloc]; omega)), ?_, by rw [size_alloc] at h4; exact h4⟩
  exact ⟨h3.os, h3.tape, h3.output, by have := h3.size; rw [size_alloc] at this; omega, fun k hk hne => (h3.block k (by rw [size_alloc]; omega) hne).trans (Below.heap_alloc w _ k hk)⟩
end Go.Proofs.YthoakchdlidemaaDoor

namespace Go.Proofs.YthoakchdlidemaaDoor
open Go.RowKit

/-- everything outside S is as it was -/
structure Keep (S : Nat → Prop) (w w' : World) : Prop where
  os : w'.os = w.os
  tape : w'.tape = w.tape
  output : w'.output = w.output
  size : w.heap.size ≤ w'.heap.size
  block : ∀ k, k < w.heap.size → ¬ S k → w'.heap[k]? = w.heap[k]?
theorem Keep.refl (S : Nat → Prop) (w : World) : Keep S w w := ⟨rfl, rfl, rfl, Nat.le_refl _, fun _ _ _ => rfl⟩
theorem Keep.trans {S T : Nat → Prop} {w w1 w2 : World} (h : Keep S w w1) (k : Keep T w1 w2) (hT : ∀ j, j < w.heap.size → T j → S j) : Keep S w w2 :=
  ⟨k.os.trans h.os, k.tape.trans h.tape, k.output.trans h.output, Nat.le_trans h.size k.size, fun i hi hb => (k.block i (Nat.lt_of_lt_of_le hi h.size) (fun e => hb (hT i hi e))).trans (h.block i hi hb)⟩
theorem Keep.mono {S T : Nat → Prop} {w w' : World} (h : Keep S w w') (hT : ∀ j, j < w.heap.size → S j → T j) : Keep T w w' := ⟨h.os, h.tape, h.output, h.size, fun k hk hb => h.block k hk fun e => hb (hT k hk e)⟩
theorem Keep.ofBelow {S : Nat → Prop} {w w' : World} (h : Below w.heap.size w w') : Keep S w w' := ⟨h.os, h.tape, h.output, h.size, fun k hk _ => h.block k hk⟩
theorem Keep.ofGrown {S : Nat → Prop} {w w' : World} {row : Option Nat} (h : w.grownBy w' row) (hr : ∀ k, row = some k → S k) : Keep S w w' :=
  ⟨h.os, h.tape, h.output, h.size, fun k hk hs => h.block k hk fun e => hs (hr k e.symm)⟩
theorem Keep.ofSet {S : Nat → Prop} (w : World) (b o : Nat) (v : Value) (hb : S b) : Keep S w (w.setCell ⟨b, o, none⟩ v) :=
  ⟨rfl, rfl, rfl, by simp [World.setCell], fun k _ hs => Below.heap_setCell w _ v k (fun e => hs (e ▸ hb))⟩
theorem Own.keep {S : Nat → Prop} {w w' : World} {base : Nat} {v : Value} {cs : List Value} (h : Own w base v cs) (hb : Keep S w w') (hne : ∀ k, v.ownBlock = some k → ¬ S k) : Own w' base v cs := by
  refine h.kept hb.size fun g hg => hb.block g ?_ (hne g hg)
  rcases h with ⟨rfl, _⟩ | ⟨g', cap, rfl, h1, h2, h3, h4, h5, h6⟩
  · cases hg
  · cases hg; exact h6
theorem own_sl {w : World} {base : Nat} {v : Value} {cs : List Value} (h : Own w base v cs) : ∃ a n c, v = .slice a n c := by
  rcases h with ⟨rfl, _⟩ | ⟨g', cap, rfl, _⟩ <;> exact ⟨_, _, _, rfl⟩
end Go.Proofs.YthoakchdlidemaaDoor

namespace Go.Proofs.YthoakchdlidemaaDoor
open Go.RowKit

/-- blocks of F alone were touched; F' has what is new besides -/
structure Mvs (F : Nat → Prop) (w w' : World) (F' : Nat → Prop) : Prop where
  keep : Keep F w w'
  new : ∀ k, F' k → F k ∨ w.heap.size ≤ k
theorem Mvs.trans {F G H : Nat → Prop} {w w1 w2 : World} (h : Mvs F w w1 G) (k : Mvs G w1 w2 H) : Mvs F w w2 H := by
  refine ⟨h.keep.trans k.keep fun j hj hg => ?_, fun j hj => ?_⟩
  · rcases h.new j hg with e | e
    · exact e
    · omega
  · rcases k.new j hj with e | e
    · exact h.new j e
    · exact .inr (Nat.le_trans h.keep.size e)
theorem Mvs.refl (F : Nat → Prop) (w : World) : Mvs F w w F := ⟨Keep.refl F w, fun _ h => .inl h⟩
/-- what is said hangs on these blocks alone -/
structure Foot {α : Type} (J : (Nat → Prop) → List α → World → Prop) : Prop where
  keep : ∀ F pre W W' S, J F pre W → Keep S W W' → (∀ k, F k → ¬ S k) → J F pre W'
  lt : ∀ F pre W, J F pre W → ∀ k, F k → k < W.heap.size
theorem Keep.ofPut {S : Nat → Prop} (w : World) (l : Nat) (o : Obj) (hl : S l) : Keep S w (w.putObj l o) :=
  ⟨rfl, rfl, rfl, by rw [World.putObj_size]; exact Nat.le_refl _, fun k _ hs => World.putObj_heap_other (fun e => hs (e ▸ hl))⟩
/-- an iterator: it tells xs, one by one; C: blocks that it looks at and a round must not touch; Cw: those that it writes into -/
def IterC {α : Type} (P : Program) (gf : Nat) (lb : Array Value) (encs : α → Array Value) (xs : List α) (C Cw : Nat → Prop) (w : World) : Prop :=
  ∀ (n l : Nat) (J Jx : (Nat → Prop) → List α → World → Prop) (F : Nat → Prop) (W : World), Foot J → Foot Jx → Below w.heap.size w W → (∀ k, F k → ¬ C k) →
    (∀ (F : Nat → Prop) (pre : List α) (x : α) (rest : List α) (W1 : World), J F pre W1 → xs = pre ++ x :: rest → YieldAt Fence.wide (n - 1) P l (encs x) W1 fun e W' =>
      ∃ F', Mvs F W1 W' F' ∧ ((e = .returned (.bool true) ∧ J F' (pre ++ [x]) W') ∨ (e = .returned (.bool false) ∧ Jx F' (pre ++ [x]) W'))) →
    J F [] W →
    CallsIn Fence.wide n P gf (#[.func (.yield l) #[] #[]] ++ lb) W fun e W' => (∃ v, e = .returned v) ∧ ∃ F', Keep (fun k => F k ∨ Cw k) W W' ∧ (∀ k, F' k → F k ∨ W.heap.size ≤ k) ∧ (J F' xs W' ∨ ∃ pre, pre <+: xs ∧ Jx F' pre W')
/-- how a round's body may be left -/
def footPost {α : Type} (I : (Nat → Prop) → List α → World → Prop) (Ix : Code → (Nat → Prop) → List α → World → Prop) (F : Nat → Prop) (xs : List α) (W : World) : Exit → Act → World → Prop
  | .normal, _, W' => ∃ F', Mvs F W W' F' ∧ I F' xs W'
  | .ret, _, W' => ∃ F', Mvs F W W' F' ∧ Ix .ret F' xs W'
  | .exit id, _, W' => ∃ F', Mvs F W W' F' ∧ Ix (.exit id) F' xs W'
  | .goto t, _, W' => ∃ F', Mvs F W W' F' ∧ Ix (.goto t) F' xs W'
  | .panic _, _, _ => False
  | .outgrown, _, _ => False
/-- the world behind the loop, seen from ahead of it -/
structure Aft (F0 C : Nat → Prop) (w W : World) (F : Nat → Prop) (D : Nat) : Prop where
  keep : Keep (fun k => F0 k ∨ C k) w W
  new : ∀ k, F k → F0 k ∨ w.heap.size ≤ k
  mark : W.heap[D]? = some (.deferred (some []))
  hi : w.heap.size ≤ D
  out : ¬ F D
set_option maxHeartbeats 1000000 in
theorem range_foot {α : Type} {P : Program} {n : Nat} {g : Operand} {ps : Array Tmp} {assign body : Code} {Q : Exit → Act → World → Prop} {a : Act} {w : World}
    {gf : Nat} {lb : Array Value} (hg : a.eval g = .func (.func gf) #[] lb) (eg : ∀ args w, (callFunc gf args).run P w = .ok (.enter gf args) w)
    {encs : α → Array Value} {xs : List α} {C Cw : Nat → Prop} (hit : IterC P gf lb encs xs C Cw w) (hps : ∀ x, (encs x).size = ps.size)
    (I : (Nat → Prop) → List α → World → Prop) (Ix : Code → (Nat → Prop) → List α → World → Prop) (hI : Foot I) (hIx : ∀ c, Foot (Ix c))
    (F0 : Nat → Prop) (h0 : I F0 [] w) (hC : ∀ k, F0 k → ¬ C k) (hCl : ∀ k, C k → k < w.heap.size)
    (A : (Nat → Prop) → List α → α → Act → World → Prop) (hA : ∀ x a, Foot (fun F pre W => A F pre x a W))
    (hassign : ∀ (l : Nat) (F : Nat → Prop) (pre : List α) (x : α) (rest : List α) (W : World), I F pre W → xs = pre ++ x :: rest →
      assign.wpIn (Fence.wide.inRound l) (n - 1 - 1) P (Exit.then (fun a₁ W₁ => ∃ F₁, Mvs F W W₁ F₁ ∧ A F₁ pre x a₁ W₁) (fun _ _ _ => False)) { tmps := (ps.zip (encs x)).foldl (fun t (p, v) => t.setIfInBounds p v) a.tmps, defers := [] } W)
    (hbody : ∀ (l : Nat) (F : Nat → Prop) (pre : List α) (x : α) (rest : List α) (a₁ : Act) (W : World), A F pre x a₁ W → xs = pre ++ x :: rest →
      body.wpIn (Fence.wide.inRound l) (n - 1 - 1) P (footPost I Ix F (pre ++ [x]) W) a₁ W)
    (hdone : ∀ (D : Nat) (F : Nat → Prop) (W : World), I F xs W → Aft F0 Cw w W F D → Q .normal { a with defers := { target := .collected D, args := #[] } :: a.defers } W)
    (hstop : ∀ (D : Nat) (c : Code) (F : Nat → Prop) (pre : List α) (W : World), pre <+: xs → Ix c F pre W → Aft F0 Cw w W F D → c.wpIn Fence.wide n P Q { a with defers := { target := .collected D, args := #[] } :: a.defers } W) :
    (Code.rangeFunc g ps assign body).wpIn Fence.wide n P Q a w := by
  refine wpIn_rangeFunc ?_
  intro fn hfn
  obtain ⟨rec, hrec⟩ : ∃ rec : LoopState → Option Code → Loop, rec = fun st pe => { state := st, pending := pe, fn, tmps := a.tmps, params := ps, assign, body, defers := w.heap.size } := ⟨_, rfl⟩
  obtain ⟨W1, hW1⟩ : ∃ W1, (w.alloc (.deferred (some []))).alloc (.loop (rec .ready none)) = W1 := ⟨_, rfl⟩
  have hL1 : W1.heap[w.heap.size + 1]? = some (.loop (rec .ready none)) := by
    rw [← hW1]; have := World.alloc_heap_new (w.alloc (.deferred (some []))) (.loop (rec .ready none)); rwa [World.size_alloc] at this
  have hK1 : W1.heap[w.heap.size]? = some (.deferred (some [])) := by
    rw [← hW1]; exact (Below.heap_alloc _ _ _ (by simp)).trans (World.alloc_heap_new w _)
  have hb1 : Below w.heap.size w W1 := by
    rw [← hW1]; exact ((Below.refl _ w).alloc (Nat.le_refl _) _).alloc (by simp) _
  have hI1 : I F0 [] W1 := hI.keep _ _ _ _ (fun _ => False) h0 (Keep.ofBelow hb1) (fun _ _ e => e)
  have hsz1 : W1.heap.size = w.heap.size + 2 := by rw [← hW1]; simp
  refine ⟨w.heap.size + 1, [{ target := .collected w.heap.size, args := #[] }], W1, { target := .fn (.func gf) lb, args := #[.func (.yield (w.heap.size + 1)) #[] #[]] }, W1, gf,
    #[.func (.yield (w.heap.size + 1)) #[] #[]] ++ lb, W1, ?_, ?_, ?_, ?_, (fun h => by cases h), ?_⟩
  · rw [← hW1, hrec]; exact run_enterLoop_outer _ _ _ _ _
  · simp only [resolve, hg]
    simp [go_sem]
  · intro f' _; trivial
  · simp [invoke, go_sem, eg]
  · obtain ⟨L, hL⟩ : ∃ L, L = w.heap.size + 1 := ⟨_, rfl⟩
    obtain ⟨D, hD⟩ : ∃ D, D = w.heap.size := ⟨_, rfl⟩
    rw [← hL] at hL1
    rw [← hD] at hK1
    have hF0 : ∀ k, F0 k → k < w.heap.size := hI.lt _ _ _ h0
    refine (hit (n - 1) (w.heap.size + 1)
      (fun F pre W => F L ∧ F D ∧ W.heap[L]? = some (.loop (rec .ready none)) ∧ W.heap[D]? = some (.deferred (some [])) ∧ ∃ F1 : Nat → Prop, (∀ k, F1 k → F k) ∧ ¬ F1 L ∧ ¬ F1 D ∧ (∀ k, F k → F1 k ∨ k = L ∨ k = D) ∧ I F1 pre W)
      (fun F pre W => F L ∧ F D ∧ ∃ c, W.heap[L]? = some (.loop (rec .done (some c))) ∧ W.heap[D]? = some (.deferred (some [])) ∧ ∃ F1 : Nat → Prop, (∀ k, F1 k → F k) ∧ ¬ F1 L ∧ ¬ F1 D ∧ (∀ k, F k → F1 k ∨ k = L ∨ k = D) ∧ Ix c F1 pre W)
      (fun k => F0 k ∨ k = L ∨ k = D) W1 ?_ ?_ hb1 ?_ ?_ ?_).mono ?_
    · refine ⟨?_, ?_⟩
      · rintro F pre W W' S ⟨hl, hd, h1, h2, F1, h3, h4, h5, h6, h7⟩ hk hs
        exact ⟨hl, hd, (hk.block L (Array.getElem?_eq_some_iff.1 h1).1 (hs L hl)).trans h1, (hk.block D (Array.getElem?_eq_some_iff.1 h2).1 (hs D hd)).trans h2, F1, h3, h4, h5, h6, hI.keep _ _ _ _ _ h7 hk fun k hk' => hs k (h3 k hk')⟩
      · rintro F pre W ⟨hl, hd, h1, h2, F1, h3, h4, h5, h6, h7⟩ k hk
        rcases h6 k hk with e | rfl | rfl
        · exact hI.lt _ _ _ h7 k e
        · exact (Array.getElem?_eq_some_iff.1 h1).1
        · exact (Array.getElem?_eq_some_iff.1 h2).1
    · refine ⟨?_, ?_⟩
      · rintro F pre W W' S ⟨hl, hd, c, h1, h2, F1, h3, h4, h5, h6, h7⟩ hk hs
        exact ⟨hl, hd, c, (hk.block L (Array.getElem?_eq_some_iff.1 h1).1 (hs L hl)).trans h1, (hk.block D (Array.getElem?_eq_some_iff.1 h2).1 (hs D hd)).trans h2, F1, h3, h4, h5, h6, (hIx c).keep _ _ _ _ _ h7 hk fun k hk' => hs k (h3 k hk')⟩
      · rintro F pre W ⟨hl, hd, c, h1, h2, F1, h3, h4, h5, h6, h7⟩ k hk
        rcases h6 k hk with e | rfl | rfl
        · exact (hIx c).lt _ _ _ h7 k e
        · exact (Array.getElem?_eq_some_iff.1 h1).1
        · exact (Array.getElem?_eq_some_iff.1 h2).1
    · rintro k (e | rfl | rfl) hc
      · exact hC k e hc
      · have := hCl _ hc; omega
      · have := hCl _ hc; omega
    · -- one round
      rintro F pre x rest W ⟨hl, hd, h1, h2, F1, h3, h4, h5, h6, h7⟩ hx
      have hLlt : L < W.heap.size := (Array.getElem?_eq_some_iff.1 h1).1
      have hDlt : D < W.heap.size := (Array.getElem?_eq_some_iff.1 h2).1
      have hy := run_yield (P := P) (args := encs x) h1 (by rw [hrec]; exact hps x)
      rw [hrec] at hy
      refine ⟨fn, _, assign, body, by rw [← hL]; exact hy, roundIn_of_wpIn hfn (wpIn_mono (hassign _ F1 pre x rest W h7 hx) ?_)⟩
      rintro e a₁ W₁ hp
      cases e with
      | normal =>
        obtain ⟨F2, hm1, hA1⟩ := hp
        have nL2 : ¬ F2 L := fun e => by rcases hm1.new L e with e | e; exact h4 e; omega
        have nD2 : ¬ F2 D := fun e => by rcases hm1.new D e with e | e; exact h5 e; omega
        have g1 : W₁.heap[L]? = some (.loop (rec .ready none)) := (hm1.keep.block L hLlt h4).trans h1
        have g2 : W₁.heap[D]? = some (.deferred (some [])) := (hm1.keep.block D hDlt h5).trans h2
        have hLlt1 : L < W₁.heap.size := (Array.getElem?_eq_some_iff.1 g1).1
        have hDlt1 : D < W₁.heap.size := (Array.getElem?_eq_some_iff.1 g2).1
        refine ⟨W₁.putObj L (.loop { rec .ready none with state := .busy }), by rw [← hL]; exact run_beginRound g1 (by rw [hrec]), ?_⟩
        have q1 : (W₁.putObj L (.loop { rec .ready none with state := .busy })).heap[L]? = some (.loop { rec .ready none with state := .busy }) := World.putObj_heap_same hLlt1
        have q2 : (W₁.putObj L (.loop { rec .ready none with state := .busy })).heap[D]? = some (.deferred (some [])) := (World.putObj_heap_other (by omega)).trans g2
        have kp1 : Keep (fun k => k = L) W₁ (W₁.putObj L (.loop { rec .ready none with state := .busy })) := Keep.ofPut _ _ _ rfl
        have hA2 := (hA x a₁).keep _ _ _ _ _ hA1 kp1 (fun k hk e => nL2 (e ▸ hk))
        generalize hW2 : W₁.putObj L (.loop { rec .ready none with state := .busy }) = W₂ at *
        refine wpIn_mono (hbody _ F2 pre x rest a₁ W₂ hA2 hx) ?_
        have fin : ∀ (jump : Option Code) (W3 : World) (F3 : Nat → Prop), Mvs F2 W₂ W3 F3 →
            (Instr.endRound (w.heap.size + 1) jump).run P W3 = .ok (.bool jump.isNone) (W3.putObj L (.loop (rec (if jump.isNone then .ready else .done) jump))) ∧
            (W3.putObj L (.loop (rec (if jump.isNone then .ready else .done) jump))).heap[L]? = some (.loop (rec (if jump.isNone then .ready else .done) jump)) ∧
            (W3.putObj L (.loop (rec (if jump.isNone then .ready else .done) jump))).heap[D]? = some (.deferred (some [])) ∧ ¬ F3 L ∧ ¬ F3 D ∧
            Mvs F W (W3.putObj L (.loop (rec (if jump.isNone then .ready else .done) jump))) (fun k => F3 k ∨ k = L ∨ k = D) := fun jump W3 F3 hm => by
          have r1 := (hm.keep.block L (Array.getElem?_eq_some_iff.1 q1).1 nL2).trans q1
          have r2 := (hm.keep.block D (Array.getElem?_eq_some_iff.1 q2).1 nD2).trans q2
          have := run_endRound (P := P) jump r1
          rw [hrec] at this ⊢
          have nL3 : ¬ F3 L := fun e => by rcases hm.new L e with e | e; exact nL2 e; have := (Array.getElem?_eq_some_iff.1 q1).1; omega
          have nD3 : ¬ F3 D := fun e => by rcases hm.new D e with e | e; exact nD2 e; have := (Array.getElem?_eq_some_iff.1 q2).1; omega
          refine ⟨by rw [← hL]; exact this, World.putObj_heap_same (Array.getElem?_eq_some_iff.1 r1).1, (World.putObj_heap_other (by omega)).trans r2, nL3, nD3, ?_, ?_⟩
          · have e1 : Keep F W W₁ := hm1.keep.mono fun j _ hj => h3 j hj
            have e2 : Keep F W W₂ := e1.trans kp1 fun j _ hj => by rw [hj]; exact hl
            have e3 : Keep F W W3 := e2.trans hm.keep fun j hj hg => by
              rcases hm1.new j hg with e | e
              · exact h3 j e
              · omega
            exact e3.trans (Keep.ofPut (S := fun k => k = L) _ _ _ rfl) fun j _ hj => by rw [hj]; exact hl
          · rintro k (e | rfl | rfl)
            · have hs2 : W₁.heap.size ≤ W₂.heap.size := kp1.size
              have hs1 := hm1.keep.size
              rcases hm.new k e with e | e
              · rcases hm1.new k e with e | e
                · exact .inl (h3 k e)
                · exact .inr e
              · exact .inr (by omega)
            · exact .inl hl
            · exact .inl hd
        rintro e a3 W3 hp
        cases e with
        | normal =>
          obtain ⟨F3, hm, hi3⟩ := hp
          obtain ⟨hr, t1, t2, t3, t4, t5⟩ := fin none W3 F3 hm
          exact ⟨_, _, hr, _, t5, .inl ⟨rfl, .inr (.inl rfl), .inr (.inr rfl), t1, t2, F3, fun k hk => .inl hk, t3, t4, fun k hk => hk, hI.keep _ _ _ _ _ hi3 (Keep.ofPut (S := fun k => k = L) _ _ _ rfl) (fun k hk e => t3 (e ▸ hk))⟩⟩
        | ret =>
          obtain ⟨F3, hm, hi3⟩ := hp
          obtain ⟨hr, t1, t2, t3, t4, t5⟩ := fin (some .ret) W3 F3 hm
          exact ⟨_, _, hr, _, t5, .inr ⟨rfl, .inr (.inl rfl), .inr (.inr rfl), _, t1, t2, F3, fun k hk => .inl hk, t3, t4, fun k hk => hk, (hIx _).keep _ _ _ _ _ hi3 (Keep.ofPut (S := fun k => k = L) _ _ _ rfl) (fun k hk e => t3 (e ▸ hk))⟩⟩
        | exit id =>
          obtain ⟨F3, hm, hi3⟩ := hp
          obtain ⟨hr, t1, t2, t3, t4, t5⟩ := fin (some (.exit id)) W3 F3 hm
          exact ⟨_, _, hr, _, t5, .inr ⟨rfl, .inr (.inl rfl), .inr (.inr rfl), _, t1, t2, F3, fun k hk => .inl hk, t3, t4, fun k hk => hk, (hIx _).keep _ _ _ _ _ hi3 (Keep.ofPut (S := fun k => k = L) _ _ _ rfl) (fun k hk e => t3 (e ▸ hk))⟩⟩
        | goto t =>
          obtain ⟨F3, hm, hi3⟩ := hp
          obtain ⟨hr, t1, t2, t3, t4, t5⟩ := fin (some (.goto t)) W3 F3 hm
          exact ⟨_, _, hr, _, t5, .inr ⟨rfl, .inr (.inl rfl), .inr (.inr rfl), _, t1, t2, F3, fun k hk => .inl hk, t3, t4, fun k hk => hk, (hIx _).keep _ _ _ _ _ hi3 (Keep.ofPut (S := fun k => k = L) _ _ _ rfl) (fun k hk e => t3 (e ▸ hk))⟩⟩
        | panic ch => exact hp.elim
        | outgrown => exact hp.elim
      | exit id => exact hp.elim
      | goto t => exact hp.elim
      | ret => exact hp.elim
      | panic ch => exact hp.elim
      | outgrown => exact hp.elim
    · exact ⟨.inr (.inl rfl), .inr (.inr rfl), hL1, hK1, F0, fun k hk => .inl hk, fun e => by have := hF0 _ e; omega, fun e => by have := hF0 _ e; omega, fun k hk => hk, hI1⟩
    · -- behind the iterator
      rintro e W2 ⟨⟨v, rfl⟩, F', hk, hn, hj⟩
      have aft : ∀ (o : Obj) (F1 : Nat → Prop), (∀ k, F1 k → F' k) → ¬ F1 L → ¬ F1 D → W2.heap[D]? = some (.deferred (some [])) → Aft F0 Cw w (W2.putObj L o) F1 D := fun o F1 h3 h4 h5 h2 => by
        refine ⟨?_, fun k hk' => ?_, (World.putObj_heap_other (by omega)).trans h2, by omega, h5⟩
        · have e1 : Keep (fun k => F0 k ∨ Cw k) w W1 := Keep.ofBelow hb1
          have e2 : Keep (fun k => F0 k ∨ Cw k) w W2 := e1.trans hk fun j hj hg => by
            rcases hg with (e | rfl | rfl) | e
            · exact .inl e
            · omega
            · omega
            · exact .inr e
          exact e2.trans (Keep.ofPut (S := fun k => k = L) _ _ _ rfl) fun j hj he => by rw [he] at hj; omega
        · rcases hn k (h3 k hk') with (e | rfl | rfl) | e
          · exact .inl e
          · exact absurd hk' h4
          · exact absurd hk' h5
          · exact .inr (by omega)
      rcases hj with ⟨hl, hd, h1, h2, F1, h3, h4, h5, h6, h7⟩ | ⟨pre, hpre, hl, hd, c, h1, h2, F1, h3, h4, h5, h6, h7⟩
      · refine ⟨none, W2.putObj L (.loop { rec .ready none with state := .exhausted }), by rw [← hL]; have := run_endLoop (P := P) h1 (by rw [hrec]; simp); rw [hrec] at this ⊢; exact this, ?_⟩
        rw [← hD]
        exact hdone D F1 _ (hI.keep _ _ _ _ _ h7 (Keep.ofPut (S := fun k => k = L) _ _ _ rfl) (fun k hk e => h4 (e ▸ hk))) (aft _ F1 h3 h4 h5 h2)
      · refine ⟨some c, W2.putObj L (.loop { rec .done (some c) with state := .exhausted }), by rw [← hL]; have := run_endLoop (P := P) h1 (by rw [hrec]; simp); rw [hrec] at this ⊢; exact this, ?_⟩
        rw [← hD]
        exact hstop D c F1 pre _ hpre ((hIx c).keep _ _ _ _ _ h7 (Keep.ofPut (S := fun k => k = L) _ _ _ rfl) (fun k hk e => h4 (e ▸ hk))) (aft _ F1 h3 h4 h5 h2)
end Go.Proofs.YthoakchdlidemaaDoor
