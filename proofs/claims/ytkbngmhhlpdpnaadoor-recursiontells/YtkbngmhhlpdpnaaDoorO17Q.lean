import Derived.Test.YtkbngmhhlpdpnaaDoorO16
import Derived.Test.YtkbngmhhlpdpnaaDoorO10
import Derived.Test.YtkbngmhhlpdpnaaDoorK5Q
namespace Go.Proofs.YtkbngmhhlpdpnaaDoor
open Go.RowKit

set_option maxRecDepth 100000 in
set_option maxHeartbeats 400000 in
theorem proof_any (l : List (List UInt8)) (m : Nat) (a : Option Addr) (cap : Nat) (w : World) (hM : l.length ≤ 1000000) (hm1 : 1 ≤ m) (hm : m ≤ l.length) (hl : l.length ≤ cap) (hc : cap ≤ 9223372036854775807) (hA : At w a l) (T : Tabs w) :
    Calls Tryd.prog 46 #[.slice a l.length cap, .int .i64 m] w (Out w (Tree.proof m l true)) := by
  have hmf : ∀ (fn : Fn) (first cap : Array Value) (w : World), (Instr.makeFunc fn first cap).run Tryd.prog w = .ok (.func fn first cap) w := fun _ _ _ _ => rfl
  have hb := (Below.refl w.heap.size w).alloc (Nat.le_refl _) (.cells #[Value.func (.func 81) #[] #[Value.pointer (some ⟨w.heap.size, 0, none⟩)]] 61)
  have hc1 := proof1_any _ l m true a cap w.heap.size (w.alloc (.cells #[Value.func (.func 81) #[] #[Value.pointer (some ⟨w.heap.size, 0, none⟩)]] 61)) (Nat.le_refl _) hM hm1 hm hl hc (hA.below hb (Nat.le_refl _)) (T.below hb T.lt)
    (by rw [cell_of_row _ _ _ _ _ _ (heap_alloc_new w _)]; rfl)
  generalize Tree.proof m l true = L at *
  generalize l.length = n at *
  clear hA T hc hl
  go_enter Tryd.func46, Tryd.ntmps46
  go_wp2_with (go_at_call 81; refine hc1.mono ?_; rintro e w1 ⟨v1, rfl, hO1, hw1⟩)
  go_ret
  exact ⟨_, rfl, hO1.mono hb.size, hb.trans (hw1.mono (by rw [size_alloc]; omega))⟩
/-- T4 -/
def proofOut (l : List (List UInt8)) (m : Int) : List (List UInt8) × Int := if wrg l = 0 then (if 1 ≤ m ∧ m ≤ l.length then (Tree.proof m.toNat l true, 0) else ([], 31)) else ([], wrg l)
set_option maxRecDepth 100000 in
set_option maxHeartbeats 400000 in
theorem rProof_any (l : List (List UInt8)) (m : Int) (a : Option Addr) (cap : Nat) (w : World) (hl : l.length ≤ cap) (hc : cap ≤ 9223372036854775807) (hA : At w a l) :
    Calls Tryd.prog 14 #[.slice a l.length cap, .int .i64 m] w (Out2 w (proofOut l m)) := by
  have h1 := wrong_any l a cap w (by omega) hA
  by_cases h : wrg l = 0
  · have h4 := wrg_le h
    rw [h] at h1
    by_cases hm : 1 ≤ m ∧ m ≤ l.length
    · have ho : proofOut l m = (Tree.proof m.toNat l true, 0) := by rw [proofOut, if_pos h, if_pos hm]
      rw [ho]
      have h2 := rproof_any _ l m.toNat true a cap w (Nat.le_refl _) (by omega) (by omega) (by omega) hl hc hA
      rw [Int.toNat_of_nonneg (show 0 ≤ m by omega)] at h2
      generalize Tree.proof m.toNat l true = L at *
      generalize l.length = n at *
      obtain ⟨b1, b2⟩ := hm
      have b3 : ¬ (n : Int) < m := by omega
      have b4 : ¬ m < 1 := by omega
      clear h hA ho
      go_enter Tryd.func14, Tryd.ntmps14
      go_wp2_with (first
        | (go_at_call 44; refine h1.mono ?_; rintro e w1 ⟨rfl, rfl⟩)
        | (go_at_call 47; refine h2.mono ?_; rintro e w2 ⟨v2, rfl, hO2, hw2⟩))
      go_ret2
      exact ⟨_, rfl, hO2, hw2⟩
    · have ho : proofOut l m = ([], 31) := by rw [proofOut, if_pos h, if_neg hm]
      rw [ho]
      generalize l.length = n at *
      clear h hA ho
      by_cases b4 : m < 1
      · clear hm
        go_enter Tryd.func14, Tryd.ntmps14
        go_wp2_with (go_at_call 44; refine h1.mono ?_; rintro e w1 ⟨rfl, rfl⟩)
        go_ret2
        exact ⟨_, rfl, Own.nil _ _, Below.refl _ _⟩
      · have b3 : (n : Int) < m := by omega
        clear hm
        go_enter Tryd.func14, Tryd.ntmps14
        go_wp2_with (go_at_call 44; refine h1.mono ?_; rintro e w1 ⟨rfl, rfl⟩)
        go_ret2
        exact ⟨_, rfl, Own.nil _ _, Below.refl _ _⟩
  · have ho : proofOut l m = ([], wrg l) := by rw [proofOut, if_neg h]
    rw [ho]
    generalize wrg l = z at *
    generalize l.length = n at *
    have b0 : (z != 0) = true := by simpa using h
    clear hA ho
    go_enter Tryd.func14, Tryd.ntmps14
    go_wp2_with (go_at_call 44; refine h1.mono ?_; rintro e w1 ⟨rfl, rfl⟩)
    go_ret2
    exact ⟨_, rfl, Own.nil _ _, Below.refl _ _⟩
set_option maxRecDepth 100000 in
set_option maxHeartbeats 400000 in
theorem Proof_any (l : List (List UInt8)) (m : Int) (a : Option Addr) (cap : Nat) (w : World) (hl : l.length ≤ cap) (hc : cap ≤ 9223372036854775807) (hA : At w a l) (T : Tabs w) :
    Calls Tryd.prog 13 #[.slice a l.length cap, .int .i64 m] w (Out2 w (proofOut l m)) := by
  have h1 := check_any l a cap w (by omega) hA
  by_cases h : wrg l = 0
  · have h4 := wrg_le h
    rw [h] at h1
    by_cases hm : 1 ≤ m ∧ m ≤ l.length
    · have ho : proofOut l m = (Tree.proof m.toNat l true, 0) := by rw [proofOut, if_pos h, if_pos hm]
      rw [ho]
      have h2 := proof_any l m.toNat a cap w (by omega) (by omega) (by omega) hl hc hA T
      rw [Int.toNat_of_nonneg (show 0 ≤ m by omega)] at h2
      generalize Tree.proof m.toNat l true = L at *
      generalize l.length = n at *
      obtain ⟨b1, b2⟩ := hm
      have b3 : ¬ (n : Int) < m := by omega
      have b4 : ¬ m < 1 := by omega
      clear h hA ho
      go_enter Tryd.func13, Tryd.ntmps13
      go_wp2_with (first
        | (go_at_call 41; refine h1.mono ?_; rintro e w1 ⟨rfl, rfl⟩)
        | (go_at_call 46; refine h2.mono ?_; rintro e w2 ⟨v2, rfl, hO2, hw2⟩))
      go_ret2
      exact ⟨_, rfl, hO2, hw2⟩
    · have ho : proofOut l m = ([], 31) := by rw [proofOut, if_pos h, if_neg hm]
      rw [ho]
      generalize l.length = n at *
      clear h hA ho
      by_cases b4 : m < 1
      · clear hm
        go_enter Tryd.func13, Tryd.ntmps13
        go_wp2_with (go_at_call 41; refine h1.mono ?_; rintro e w1 ⟨rfl, rfl⟩)
        go_ret2
        exact ⟨_, rfl, Own.nil _ _, Below.refl _ _⟩
      · have b3 : (n : Int) < m := by omega
        clear hm
        go_enter Tryd.func13, Tryd.ntmps13
        go_wp2_with (go_at_call 41; refine h1.mono ?_; rintro e w1 ⟨rfl, rfl⟩)
        go_ret2
        exact ⟨_, rfl, Own.nil _ _, Below.refl _ _⟩
  · have ho : proofOut l m = ([], wrg l) := by rw [proofOut, if_neg h]
    rw [ho]
    generalize wrg l = z at *
    generalize l.length = n at *
    have b0 : (z != 0) = true := by simpa using h
    clear hA ho
    go_enter Tryd.func13, Tryd.ntmps13
    go_wp2_with (go_at_call 41; refine h1.mono ?_; rintro e w1 ⟨rfl, rfl⟩)
    go_ret2
    exact ⟨_, rfl, Own.nil _ _, Below.refl _ _⟩
end Go.Proofs.YtkbngmhhlpdpnaaDoor

namespace Go.Proofs.YtkbngmhhlpdpnaaDoor
open Go.RowKit

/-- T3 -/
def partOut (l : List (List UInt8)) (b e : Int) : List UInt8 × Int := if wrg l = 0 then (if 0 ≤ b ∧ b ≤ e ∧ e ≤ l.length then (Tree.root ((l.take e.toNat).drop b.toNat), 0) else ([], 30)) else ([], wrg l)
end Go.Proofs.YtkbngmhhlpdpnaaDoor

namespace Go.Proofs.YtkbngmhhlpdpnaaDoor
open Go.RowKit

/-- which of n things -/
def pk (c n : Int) : Int := (if c < 0 then -(c + 1) else c) % n
theorem pk_nonneg (c n : Int) (hn : 0 < n) : 0 ≤ pk c n := Int.emod_nonneg _ (by omega)
theorem pk_lt (c n : Int) (hn : 0 < n) : pk c n < n := Int.emod_lt_of_pos _ hn
theorem AtI.below {w w' : World} {a : Option Addr} {l : List Int} {B : Nat} (h : AtI w a l) (hb : Below B w w') (hB : w.heap.size ≤ B) : AtI w' a l := fun j p hp => by
  obtain ⟨x, rfl, hx, hc⟩ := h j p hp
  exact ⟨x, rfl, Nat.lt_of_lt_of_le hx hb.size, (hb.cell (p := x.add j) (by rw [addr_block]; omega)).trans hc⟩
theorem AtI.pos {w : World} {a : Option Addr} {l : List Int} (h : AtI w a l) (hl : 0 < l.length) : ∃ x, a = some x := by
  obtain ⟨x, hx, _⟩ := h 0 _ (List.getElem?_eq_getElem hl)
  exact ⟨x, hx⟩
theorem AtI.cell {w : World} {x : Addr} {l : List Int} (h : AtI w (some x) l) (j : Nat) (hj : j < l.length) : w.cell? (x.add j) = some (.int .i64 l[j]) := by
  obtain ⟨y, hy, _, hc⟩ := h j _ (List.getElem?_eq_getElem hj)
  obtain rfl := Option.some.inj hy
  exact hc
def nums (cs : List Int) (k : Nat) : List (List UInt8) := (cs.take k).map lf
theorem nums_succ (cs : List Int) (k : Nat) (h : k < cs.length) : nums cs (k + 1) = nums cs k ++ [lf cs[k]] := by
  rw [nums, nums, List.take_add_one, List.getElem?_eq_getElem h, List.map_append]; rfl
theorem nums_len (cs : List Int) (k : Nat) : (nums cs k).length = min k cs.length := by simp [nums]
theorem nums_hs (cs : List Int) (k : Nat) : Tree.Hs (nums cs k) := fun x hx => by
  simp only [nums, List.mem_map] at hx
  obtain ⟨c, _, rfl⟩ := hx
  exact lf_length c
end Go.Proofs.YtkbngmhhlpdpnaaDoor
