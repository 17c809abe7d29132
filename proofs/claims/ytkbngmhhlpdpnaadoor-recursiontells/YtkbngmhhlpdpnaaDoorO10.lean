import Derived.Test.YtkbngmhhlpdpnaaDoorO9
namespace Go.Proofs.YtkbngmhhlpdpnaaDoor
open Go.RowKit

set_option maxRecDepth 100000 in
set_option maxHeartbeats 400000 in
theorem path_any (l : List (List UInt8)) (m : Nat) (a : Option Addr) (cap : Nat) (w : World) (hM : l.length ≤ 1000000) (hm : m < l.length) (hl : l.length ≤ cap) (hc : cap ≤ 9223372036854775807) (hA : At w a l) (T : Tabs w) :
    Calls Tryd.prog 43 #[.slice a l.length cap, .int .i64 m] w (Out w (Tree.path m l)) := by
  have hmf : ∀ (fn : Fn) (first cap : Array Value) (w : World), (Instr.makeFunc fn first cap).run Tryd.prog w = .ok (.func fn first cap) w := fun _ _ _ _ => rfl
  have hb := (Below.refl w.heap.size w).alloc (Nat.le_refl _) (.cells #[Value.func (.func 77) #[] #[Value.pointer (some ⟨w.heap.size, 0, none⟩)]] 60)
  have hc1 := path1_any _ l m a cap w.heap.size (w.alloc (.cells #[Value.func (.func 77) #[] #[Value.pointer (some ⟨w.heap.size, 0, none⟩)]] 60)) (Nat.le_refl _) hM hm hl hc (hA.below hb (Nat.le_refl _)) (T.below hb T.lt)
    (by rw [cell_of_row _ _ _ _ _ _ (heap_alloc_new w _)]; rfl)
  generalize Tree.path m l = L at *
  generalize l.length = n at *
  clear hA T hc hl
  go_enter Tryd.func43, Tryd.ntmps43
  go_wp2_with (go_at_call 77; refine hc1.mono ?_; rintro e w1 ⟨v1, rfl, hO1, hw1⟩)
  go_ret
  exact ⟨_, rfl, hO1.mono hb.size, hb.trans (hw1.mono (by rw [size_alloc]; omega))⟩
/-- a list of one's own, and a number, come out -/
def Out2 (w : World) (o : List (List UInt8) × Int) (e : Ending) (w' : World) : Prop := ∃ v, e = .returned (.tuple #[v, .int .i64 o.2]) ∧ Own w' w.heap.size v (svs o.1) ∧ Below w.heap.size w w'
/-- T4 -/
def pathOut (l : List (List UInt8)) (m : Int) : List (List UInt8) × Int := if wrg l = 0 then (if 0 ≤ m ∧ m < l.length then (Tree.path m.toNat l, 0) else ([], 30)) else ([], wrg l)
set_option maxRecDepth 100000 in
set_option maxHeartbeats 400000 in
theorem isLeaf_yes (a : Option Addr) (n cap : Nat) (m : Int) (h : 0 ≤ m ∧ m < n) (w : World) :
    Calls Tryd.prog 42 #[.slice a n cap, .int .i64 m] w fun e w' => e = .returned (.bool true) ∧ w' = w := by
  obtain ⟨h1, h2⟩ := h
  go_enter Tryd.func42, Tryd.ntmps42
  go_wp2
  go_ret
  exact ⟨rfl, rfl⟩
set_option maxRecDepth 100000 in
set_option maxHeartbeats 400000 in
theorem isLeaf_no (a : Option Addr) (n cap : Nat) (m : Int) (h : ¬ (0 ≤ m ∧ m < n)) (w : World) :
    Calls Tryd.prog 42 #[.slice a n cap, .int .i64 m] w fun e w' => e = .returned (.bool false) ∧ w' = w := by
  by_cases h1 : 0 ≤ m
  · have h2 : ¬ m < n := fun h2 => h ⟨h1, h2⟩
    clear h
    go_enter Tryd.func42, Tryd.ntmps42
    go_wp2
    go_ret
    exact ⟨rfl, rfl⟩
  · clear h
    go_enter Tryd.func42, Tryd.ntmps42
    go_wp2
    go_ret
    exact ⟨rfl, rfl⟩
theorem wrg_le {l : List (List UInt8)} (h : wrg l = 0) : l.length ≤ 4096 := by
  unfold wrg at h
  split at h
  · omega
  · omega
set_option maxRecDepth 100000 in
set_option maxHeartbeats 400000 in
theorem Path_any (l : List (List UInt8)) (m : Int) (a : Option Addr) (cap : Nat) (w : World) (hl : l.length ≤ cap) (hc : cap ≤ 9223372036854775807) (hA : At w a l) (T : Tabs w) :
    Calls Tryd.prog 11 #[.slice a l.length cap, .int .i64 m] w (Out2 w (pathOut l m)) := by
  have h1 := check_any l a cap w (by omega) hA
  by_cases h : wrg l = 0
  · have h4 := wrg_le h
    rw [h] at h1
    by_cases hm : 0 ≤ m ∧ m < l.length
    · have ho : pathOut l m = (Tree.path m.toNat l, 0) := by rw [pathOut, if_pos h, if_pos hm]
      rw [ho]
      have h2 := path_any l m.toNat a cap w (by omega) (by omega) hl hc hA T
      rw [Int.toNat_of_nonneg hm.1] at h2
      have h3 := isLeaf_yes a l.length cap m hm w
      generalize Tree.path m.toNat l = L at *
      generalize l.length = n at *
      clear h hA T hm ho
      go_enter Tryd.func11, Tryd.ntmps11
      go_wp2_with (first
        | (go_at_call 41; refine h1.mono ?_; rintro e w1 ⟨rfl, rfl⟩)
        | (go_at_call 42; refine h3.mono ?_; rintro e w1 ⟨rfl, rfl⟩)
        | (go_at_call 43; refine h2.mono ?_; rintro e w2 ⟨v2, rfl, hO2, hw2⟩))
      go_ret2
      exact ⟨_, rfl, hO2, hw2⟩
    · have ho : pathOut l m = ([], 30) := by rw [pathOut, if_pos h, if_neg hm]
      rw [ho]
      have h3 := isLeaf_no a l.length cap m hm w
      generalize l.length = n at *
      clear h hA T hm ho
      go_enter Tryd.func11, Tryd.ntmps11
      go_wp2_with (first
        | (go_at_call 41; refine h1.mono ?_; rintro e w1 ⟨rfl, rfl⟩)
        | (go_at_call 42; refine h3.mono ?_; rintro e w1 ⟨rfl, rfl⟩))
      go_ret2
      exact ⟨_, rfl, Own.nil _ _, Below.refl _ _⟩
  · have ho : pathOut l m = ([], wrg l) := by rw [pathOut, if_neg h]
    rw [ho]
    generalize wrg l = z at *
    generalize l.length = n at *
    have b0 : (z != 0) = true := by simpa using h
    clear hA T ho
    go_enter Tryd.func11, Tryd.ntmps11
    go_wp2_with (go_at_call 41; refine h1.mono ?_; rintro e w1 ⟨rfl, rfl⟩)
    go_ret2
    exact ⟨_, rfl, Own.nil _ _, Below.refl _ _⟩
set_option maxRecDepth 100000 in
set_option maxHeartbeats 400000 in
theorem rPath_any (l : List (List UInt8)) (m : Int) (a : Option Addr) (cap : Nat) (w : World) (hl : l.length ≤ cap) (hc : cap ≤ 9223372036854775807) (hA : At w a l) :
    Calls Tryd.prog 12 #[.slice a l.length cap, .int .i64 m] w (Out2 w (pathOut l m)) := by
  have h1 := wrong_any l a cap w (by omega) hA
  by_cases h : wrg l = 0
  · have h4 := wrg_le h
    rw [h] at h1
    by_cases hm : 0 ≤ m ∧ m < l.length
    · have ho : pathOut l m = (Tree.path m.toNat l, 0) := by rw [pathOut, if_pos h, if_pos hm]
      rw [ho]
      have h2 := rpath_any _ l m.toNat a cap w (Nat.le_refl _) (by omega) (by omega) hl hc hA
      rw [Int.toNat_of_nonneg hm.1] at h2
      generalize Tree.path m.toNat l = L at *
      generalize l.length = n at *
      obtain ⟨b1, b2⟩ := hm
      have b3 : ¬ (n : Int) ≤ m := by omega
      have b4 : ¬ m < 0 := by omega
      clear h hA ho
      go_enter Tryd.func12, Tryd.ntmps12
      go_wp2_with (first
        | (go_at_call 44; refine h1.mono ?_; rintro e w1 ⟨rfl, rfl⟩)
        | (go_at_call 45; refine h2.mono ?_; rintro e w2 ⟨v2, rfl, hO2, hw2⟩))
      go_ret2
      exact ⟨_, rfl, hO2, hw2⟩
    · have ho : pathOut l m = ([], 30) := by rw [pathOut, if_pos h, if_neg hm]
      rw [ho]
      generalize l.length = n at *
      clear h hA ho
      by_cases b4 : m < 0
      · clear hm
        go_enter Tryd.func12, Tryd.ntmps12
        go_wp2_with (go_at_call 44; refine h1.mono ?_; rintro e w1 ⟨rfl, rfl⟩)
        go_ret2
        exact ⟨_, rfl, Own.nil _ _, Below.refl _ _⟩
      · have b3 : (n : Int) ≤ m := by omega
        clear hm
        go_enter Tryd.func12, Tryd.ntmps12
        go_wp2_with (go_at_call 44; refine h1.mono ?_; rintro e w1 ⟨rfl, rfl⟩)
        go_ret2
        exact ⟨_, rfl, Own.nil _ _, Below.refl _ _⟩
  · have ho : pathOut l m = ([], wrg l) := by rw [pathOut, if_neg h]
    rw [ho]
    generalize wrg l = z at *
    generalize l.length = n at *
    have b0 : (z != 0) = true := by simpa using h
    clear hA ho
    go_enter Tryd.func12, Tryd.ntmps12
    go_wp2_with (go_at_call 44; refine h1.mono ?_; rintro e w1 ⟨rfl, rfl⟩)
    go_ret2
    exact ⟨_, rfl, Own.nil _ _, Below.refl _ _⟩
end Go.Proofs.YtkbngmhhlpdpnaaDoor
