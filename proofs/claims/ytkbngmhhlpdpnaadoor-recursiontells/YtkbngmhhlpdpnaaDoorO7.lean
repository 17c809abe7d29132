import Derived.Test.YtkbngmhhlpdpnaaDoorO6
import Derived.Laws.EntriesVeiled
namespace Go.Proofs.YtkbngmhhlpdpnaaDoor
open Go.RowKit

set_option maxRecDepth 100000 in
set_option maxHeartbeats 400000 in
/-- the program's root -/
theorem root_any (l : List (List UInt8)) (a : Option Addr) (cap : Nat) (w : World) (hl : l.length ≤ cap) (hc : cap ≤ 9223372036854775807) (hA : At w a l) (T : Tabs w) :
    Calls Tryd.prog 65 #[.slice a l.length cap] w fun e w' => e = .returned (sv (Tree.root l)) ∧ Below w.heap.size w w' := by
  have hmf : ∀ (fn : Fn) (first cap : Array Value) (w : World), (Instr.makeFunc fn first cap).run Tryd.prog w = .ok (.func fn first cap) w := fun _ _ _ _ => rfl
  generalize hn : l.length = n at *
  go_enter Tryd.func65, Tryd.ntmps65
  have hb := (Below.refl w.heap.size w).alloc (Nat.le_refl _) (.cells #[Value.func (.func 95) #[] #[Value.pointer (some ⟨w.heap.size, 0, none⟩)]] 76)
  have hc1 := root1_any n l a cap w.heap.size (w.alloc (.cells #[Value.func (.func 95) #[] #[Value.pointer (some ⟨w.heap.size, 0, none⟩)]] 76)) (by omega) (by omega) hc (hA.below hb (Nat.le_refl _)) (T.below hb T.lt)
    (by rw [cell_of_row _ _ _ _ _ _ (heap_alloc_new w _)]; rfl)
  rw [hn] at hc1
  clear hn hA T hc hl
  go_wp2_with (go_at_call 95; refine hc1.mono ?_; rintro e w1 ⟨rfl, hw1⟩)
  go_ret
  exact ⟨rfl, hb.trans (hw1.mono (by rw [size_alloc]; omega))⟩

/-- T2 -/
def wrg (l : List (List UInt8)) : Int := if 4096 < l.length then 31 else if l.all (·.length == 32) then 0 else 32
theorem all_take (l : List (List UInt8)) (k : Nat) (hk : k < l.length) (h : (l.take k).all (·.length == 32) = true) (h2 : (l[k]).length = 32) : (l.take (k + 1)).all (·.length == 32) = true := by
  rw [List.take_succ_eq_append_getElem hk, List.all_append, h]
  simp [h2]
theorem all_not (l : List (List UInt8)) (k : Nat) (hk : k < l.length) (h2 : ¬ (l[k]).length = 32) : l.all (·.length == 32) = false := by
  rw [List.all_eq_false]
  exact ⟨l[k], List.getElem_mem hk, by simpa using h2⟩
set_option maxRecDepth 100000 in
set_option maxHeartbeats 400000 in
theorem check_any (l : List (List UInt8)) (a : Option Addr) (cap : Nat) (w : World) (hc : l.length ≤ 9223372036854775807) (hA : At w a l) :
    Calls Tryd.prog 41 #[.slice a l.length cap] w fun e w' => e = .returned (.int .i64 (wrg l)) ∧ w' = w := by
  generalize hn : l.length = n at *
  by_cases h1 : 4096 < n
  · have h' : (4096 : Int) < (n : Int) := by omega
    go_enter Tryd.func41, Tryd.ntmps41
    go_wp2
    go_ret
    exact ⟨by rw [wrg, if_pos (by omega)]; rfl, rfl⟩
  · have h' : ¬ (4096 : Int) < (n : Int) := by omega
    have HA := hid hA
    have e1 := hid (show wrg l = if l.all (·.length == 32) then 0 else 32 by rw [wrg, if_neg (by omega)])
    clear hA
    go_enter Tryd.func41, Tryd.ntmps41
    go_wp2
    go_loopw [10] (fun i w' => ∃ k : Nat, k ≤ n ∧ i = .int .i64 (k : Int) ∧ Hid ((l.take k).all (·.length == 32) = true) ∧ w' = w) (fun i _ => n - (intOf i).toNat)
    case atStart => exact ⟨0, by omega, rfl, rfl, rfl⟩
    case round =>
      obtain ⟨k, hk, rfl, hall, rfl⟩ := hrel
      by_cases hkn : k < n
      · have b0 : (k : Int) < (n : Int) := by omega
        obtain ⟨x, rfl⟩ := HA.out.pos (by omega)
        obtain ⟨s, hs, hcell⟩ := HA.out.cell k (by omega)
        by_cases h32 : s.size = 32
        · have b1 : ((s.size : Int) != 32) = false := by simp; omega
          have e2 := hid (all_take l k (by omega) hall.out (by rw [← hs.out, data_length]; exact h32))
          clear HA
          go_wp2
          exact ⟨⟨k + 1, by omega, by go_num, e2, trivial⟩, by simp [intOf]; omega⟩
        · have b1 : ((s.size : Int) != 32) = true := by simp; omega
          have e2 := hid (all_not l k (by omega) (by rw [← hs.out, data_length]; exact h32))
          clear HA
          go_wp2
          go_ret
          exact ⟨by rw [e1.out, e2.out]; rfl, rfl⟩
      · obtain rfl : k = n := by omega
        have b0 : ¬ (k : Int) < (k : Int) := by omega
        rw [← hn, List.take_length] at hall
        go_wp2
        go_ret
        exact ⟨by rw [e1.out, hall.out]; rfl, rfl⟩
set_option maxRecDepth 100000 in
set_option maxHeartbeats 400000 in
theorem wrong_any (l : List (List UInt8)) (a : Option Addr) (cap : Nat) (w : World) (hc : l.length ≤ 9223372036854775807) (hA : At w a l) :
    Calls Tryd.prog 44 #[.slice a l.length cap] w fun e w' => e = .returned (.int .i64 (wrg l)) ∧ w' = w := by
  generalize hn : l.length = n at *
  by_cases h1 : 4096 < n
  · have h' : (4096 : Int) < (n : Int) := by omega
    go_enter Tryd.func44, Tryd.ntmps44
    go_wp2
    go_ret
    exact ⟨by rw [wrg, if_pos (by omega)]; rfl, rfl⟩
  · have h' : ¬ (4096 : Int) < (n : Int) := by omega
    have HA := hid hA
    have e1 := hid (show wrg l = if l.all (·.length == 32) then 0 else 32 by rw [wrg, if_neg (by omega)])
    clear hA
    go_enter Tryd.func44, Tryd.ntmps44
    go_wp2
    go_loopw [3] (fun i w' => ∃ k : Nat, k ≤ n ∧ i = .int .i64 (k : Int) ∧ Hid ((l.take k).all (·.length == 32) = true) ∧ w' = w) (fun i _ => n - (intOf i).toNat)
    case atStart => exact ⟨0, by omega, rfl, rfl, rfl⟩
    case round =>
      obtain ⟨k, hk, rfl, hall, rfl⟩ := hrel
      by_cases hkn : k < n
      · have b0 : (k : Int) < (n : Int) := by omega
        obtain ⟨x, rfl⟩ := HA.out.pos (by omega)
        obtain ⟨s, hs, hcell⟩ := HA.out.cell k (by omega)
        by_cases h32 : s.size = 32
        · have b1 : ((s.size : Int) != 32) = false := by simp; omega
          have e2 := hid (all_take l k (by omega) hall.out (by rw [← hs.out, data_length]; exact h32))
          clear HA
          go_wp2
          exact ⟨⟨k + 1, by omega, by go_num, e2, trivial⟩, by simp [intOf]; omega⟩
        · have b1 : ((s.size : Int) != 32) = true := by simp; omega
          have e2 := hid (all_not l k (by omega) (by rw [← hs.out, data_length]; exact h32))
          clear HA
          go_wp2
          go_ret
          exact ⟨by rw [e1.out, e2.out]; rfl, rfl⟩
      · obtain rfl : k = n := by omega
        have b0 : ¬ (k : Int) < (k : Int) := by omega
        rw [← hn, List.take_length] at hall
        go_wp2
        go_ret
        exact ⟨by rw [e1.out, hall.out]; rfl, rfl⟩
/-- T3 -/
def rootOut (l : List (List UInt8)) : List UInt8 × Int := if wrg l = 0 then (Tree.root l, 0) else ([], wrg l)
set_option maxRecDepth 100000 in
set_option maxHeartbeats 400000 in
theorem Root_any (l : List (List UInt8)) (a : Option Addr) (cap : Nat) (w : World) (hl : l.length ≤ cap) (hc : cap ≤ 9223372036854775807) (hA : At w a l) (T : Tabs w) :
    Calls Tryd.prog 33 #[.slice a l.length cap] w fun e w' => e = .returned (.tuple #[sv (rootOut l).1, .int .i64 (rootOut l).2]) ∧ Below w.heap.size w w' := by
  have h1 := check_any l a cap w (by omega) hA
  have h2 := root_any l a cap w hl hc hA T
  generalize l.length = n at *
  unfold rootOut
  generalize Tree.root l = r at *
  by_cases h : wrg l = 0
  · rw [if_pos h]
    rw [h] at h1
    clear h hA T
    go_enter Tryd.func33, Tryd.ntmps33
    go_wp2_with (first
      | (go_at_call 41; refine h1.mono ?_; rintro e w1 ⟨rfl, rfl⟩)
      | (go_at_call 65; refine h2.mono ?_; rintro e w2 ⟨rfl, hw2⟩))
    go_ret2
    exact ⟨rfl, hw2⟩
  · rw [if_neg h]
    generalize wrg l = z at *
    have b0 : (z != 0) = true := by simpa using h
    clear hA T h2
    go_enter Tryd.func33, Tryd.ntmps33
    go_wp2_with (go_at_call 41; refine h1.mono ?_; rintro e w1 ⟨rfl, rfl⟩)
    go_ret2
    exact ⟨rfl, Below.refl _ _⟩
end Go.Proofs.YtkbngmhhlpdpnaaDoor
