import Derived.Test.YtagplmnnbjidmaaDoorCR5
import Derived.Laws.EntriesVeiled
namespace Go.Proofs.YtagplmnnbjidmaaDoor
open Go.RowKit

/-- the closure that calls itself, in its own variable -/
def rootFn (c : Nat) : Value := .func (.func 66) #[] #[.pointer (some ⟨c, 0, none⟩)]
set_option maxRecDepth 100000 in
set_option maxHeartbeats 400000 in
theorem root1_nil (a : Option Addr) (cap c : Nat) (w : World) (T : Tabs w) :
    Calls Tryd.prog 66 #[.slice a 0 cap, .pointer (some ⟨c, 0, none⟩)] w fun e w' => e = .returned (sv (Tree.root [])) ∧ Below w.heap.size w w' := by
  rw [Tree.root_nil]
  have he := empty_any w T
  obtain ⟨D, hD⟩ : ∃ D, Sha.sha [] = D := ⟨_, rfl⟩
  rw [hD] at he ⊢
  clear hD
  go_enter Tryd.func66, Tryd.ntmps66
  go_wp2_with (go_at_call 47; refine he.mono ?_; rintro e w1 ⟨rfl, hw1⟩)
  go_ret
  exact ⟨rfl, hw1⟩
set_option maxRecDepth 100000 in
set_option maxHeartbeats 400000 in
theorem root1_one (p : List UInt8) (a : Option Addr) (cap c : Nat) (w : World) (hA : At w a [p]) :
    Calls Tryd.prog 66 #[.slice a 1 cap, .pointer (some ⟨c, 0, none⟩)] w fun e w' => e = .returned (sv (Tree.root [p])) ∧ Below w.heap.size w w' := by
  rw [Tree.root_one]
  obtain ⟨x, rfl, hx, hc⟩ := hA 0 p rfl
  rw [addr_zero] at hc
  go_enter Tryd.func66, Tryd.ntmps66
  go_wp2
  go_ret
  exact ⟨rfl, Below.refl _ _⟩
theorem cell_below {w w' : World} {c : Nat} {v : Value} (h : w.cell? ⟨c, 0, none⟩ = some v) (hb : Below w.heap.size w w') : w'.cell? ⟨c, 0, none⟩ = some v :=
  (hb.cell (p := ⟨c, 0, none⟩) (block_lt_of_cell h)).trans h
set_option maxRecDepth 100000 in
set_option maxHeartbeats 2000000 in
theorem root1_any : ∀ (f : Nat) (l : List (List UInt8)) (a : Option Addr) (cap c : Nat) (w : World), l.length ≤ f → l.length ≤ cap → cap ≤ 9223372036854775807 → At w a l → Tabs w →
    w.cell? ⟨c, 0, none⟩ = some (.func (.func 66) #[] #[.pointer (some ⟨c, 0, none⟩)]) →
    Calls Tryd.prog 66 #[.slice a l.length cap, .pointer (some ⟨c, 0, none⟩)] w fun e w' => e = .returned (sv (Tree.root l)) ∧ Below w.heap.size w w' := by
  intro f
  induction f with
  | zero =>
    intro l a cap c w hf hl hc hA T hcl
    obtain rfl : l = [] := List.length_eq_zero_iff.1 (by omega)
    exact root1_nil a cap c w T
  | succ f ih =>
    intro l a cap c w hf hl hc hA T hcl
    match l, hf, hl, hA with
    | [], _, _, _ => exact root1_nil a cap c w T
    | [p], _, _, hA => exact root1_one p a cap c w hA
    | p :: q :: t, hf, hl, hA =>
      obtain ⟨n, hn⟩ : ∃ n, (p :: q :: t).length = n := ⟨_, rfl⟩
      have h2 : 2 ≤ n := by rw [← hn]; simp
      obtain ⟨x, rfl⟩ := hA.pos (by rw [hn]; omega)
      have e := hid (Tree.root_cut (l := p :: q :: t) (by rw [hn]; exact h2))
      generalize p :: q :: t = l at *
      rw [hn] at e hf hl ⊢
      have k1 := Tree.sp_lt h2
      have k2 := Tree.sp_pos h2
      have hs : spI (n : Int) = ((Tree.sp n : Nat) : Int) := rfl
      generalize Tree.sp n = k at *
      have l1 : (l.take k).length = k := by rw [List.length_take, hn]; omega
      have l2 : (l.drop k).length = n - k := by rw [List.length_drop, hn]
      have c1 := fun w' (h : At w' (some x) (l.take k)) => ih (l.take k) (some x) k c w' (by omega) (by omega) (by omega) h
      have c2 := fun w' (h : At w' (some (x.add k)) (l.drop k)) => ih (l.drop k) (some (x.add k)) (n - k) c w' (by omega) (by omega) (by omega) h
      rw [l1] at c1
      rw [l2] at c2
      have n1 : ((n : Int) == 0) = false := by simp; omega
      have n2 : ((n : Int) == 1) = false := by simp; omega
      have A1 := hid (hA.take k)
      have A2 := hid (hA.drop k)
      generalize hp1 : Tree.root (l.take k) = r1 at *
      generalize hp2 : Tree.root (l.drop k) = r2 at *
      obtain ⟨m, d, hm⟩ : ∃ m d, Hid (nodeOf r1 r2 = (m, d)) := ⟨_, _, rfl⟩
      have e' := hid (show Tree.root l = m by rw [e.out, ← nodeOf_nd, hm.out])
      have HT := hid T
      clear hA ih hn e hp1 hp2 T
      go_enter Tryd.func66, Tryd.ntmps66
      go_wp2_with (first
        | (go_at_call 68; refine (split_any (n : Int) (by omega) (by omega) _).mono ?_; rintro e w0 ⟨rfl, rfl⟩; rw [hs])
        | (go_at_call 67; refine (cut_any x n cap k k1 hl _).mono ?_; rintro e wc ⟨rfl, hbc, hhc⟩; have hcl0 := cell_below hcl hbc))
      have Bc := hid hbc.drew
      have A1c := hid (A1.out.heap (w' := wc.drew) hhc)
      have A2c := hid (A2.out.heap (w' := wc.drew) hhc)
      have Tc := hid (HT.out.below hbc.drew HT.out.lt)
      have hcl1 : wc.drew.cell? ⟨c, 0, none⟩ = some (.func (.func 66) #[] #[.pointer (some ⟨c, 0, none⟩)]) := hcl0
      clear hbc hhc A1 A2 HT hcl hcl0
      go_region_with (first
        | (go_at_call 66; with_reducible refine (c1 _ A1c.out Tc.out hcl1).mono ?_; rintro e w1 ⟨rfl, hw1⟩; have hcl2 := cell_below hcl1 hw1)
        | (go_at_call 66; with_reducible refine (c2 _ (A2c.out.below hw1 (Nat.le_refl _)) (Tc.out.below hw1 Tc.out.lt) hcl2).mono ?_; rintro e w2 ⟨rfl, hw2⟩)
        | (go_at_call 12; refine (node_at hm _ ((Tc.out.below hw1 Tc.out.lt).below hw2 (Tc.out.below hw1 Tc.out.lt).lt)).mono ?_; rintro e w3 ⟨rfl, hw3⟩))
      all_goals
        have s1 := hw1.size
        have s2 := hw2.size
        have s3 := Bc.out.size
        have Bf := hid (((Bc.out.trans (hw1.mono (by omega))).trans (hw2.mono (by omega))).trans (hw3.mono (by omega)))
        clear hw1 hw2 hw3 s1 s2 s3 Bc
        go_wp2
        go_ret
        exact ⟨by rw [e'.out]; rfl, Bf.out⟩
end Go.Proofs.YtagplmnnbjidmaaDoor

namespace Go.Proofs.YtagplmnnbjidmaaDoor
open Go.RowKit

set_option maxRecDepth 100000 in
set_option maxHeartbeats 400000 in
/-- the program's root -/
theorem root_any (l : List (List UInt8)) (a : Option Addr) (cap : Nat) (w : World) (hl : l.length ≤ cap) (hc : cap ≤ 9223372036854775807) (hA : At w a l) (T : Tabs w) :
    Calls Tryd.prog 41 #[.slice a l.length cap] w fun e w' => e = .returned (sv (Tree.root l)) ∧ Below w.heap.size w w' := by
  have hmf : ∀ (fn : Fn) (first cap : Array Value) (w : World), (Instr.makeFunc fn first cap).run Tryd.prog w = .ok (.func fn first cap) w := fun _ _ _ _ => rfl
  generalize hn : l.length = n at *
  go_enter Tryd.func41, Tryd.ntmps41
  have hb := (Below.refl w.heap.size w).alloc (Nat.le_refl _) (.cells #[Value.func (.func 66) #[] #[Value.pointer (some ⟨w.heap.size, 0, none⟩)]] 85)
  have hc1 := root1_any n l a cap w.heap.size (w.alloc (.cells #[Value.func (.func 66) #[] #[Value.pointer (some ⟨w.heap.size, 0, none⟩)]] 85)) (by omega) (by omega) hc (hA.below hb (Nat.le_refl _)) (T.below hb T.lt)
    (by rw [cell_of_row _ _ _ _ _ _ (heap_alloc_new w _)]; rfl)
  rw [hn] at hc1
  clear hn hA T hc hl
  go_wp2_with (go_at_call 66; refine hc1.mono ?_; rintro e w1 ⟨rfl, hw1⟩)
  go_ret
  exact ⟨rfl, hb.trans (hw1.mono (by rw [size_alloc]; omega))⟩

/-- T2 -/
def wrg (l : List (List UInt8)) : Int := if 4096 < l.length then 31 else if l.all (·.length == 32) then 0 else 32
theorem all_take (l : List (List UInt8)) (k : Nat) (hk : k < l.length) (h : (l.take k).all (·.length == 32) = true) (h2 : (l[k]).length = 32) : (l.take (k + 1)).all (·.length == 32) = true := by
  rw [List.take_succ_eq_append_getElem hk, List.all_append, h]
  simp [h2]
theorem all_not (l : List (List UInt8)) (k : Nat) (hk : k < l.length) (h2 : ¬ (l[k]).length = 32) : l.all (·.length == 32) = false := by
  rw [List.all_eq_false]
  exact ⟨l[k], List.getElem_mem hk, by simpa using h2⟩
set_option maxRecDepth 100000 in
set_option maxHeartbeats 400000 in
theorem check_any (l : List (List UInt8)) (a : Option Addr) (cap : Nat) (w : World) (hc : l.length ≤ 9223372036854775807) (hA : At w a l) :
    Calls Tryd.prog 40 #[.slice a l.length cap] w fun e w' => e = .returned (.int .i64 (wrg l)) ∧ w' = w := by
  generalize hn : l.length = n at *
  by_cases h1 : 4096 < n
  · have h' : (4096 : Int) < (n : Int) := by omega
    go_enter Tryd.func40, Tryd.ntmps40
    go_wp2
    go_ret
    exact ⟨by rw [wrg, if_pos (by omega)]; rfl, rfl⟩
  · have h' : ¬ (4096 : Int) < (n : Int) := by omega
    have HA := hid hA
    have e1 := hid (show wrg l = if l.all (·.length == 32) then 0 else 32 by rw [wrg, if_neg (by omega)])
    clear hA
    go_enter Tryd.func40, Tryd.ntmps40
    go_wp2
    go_loopw [10] (fun i w' => ∃ k : Nat, k ≤ n ∧ i = .int .i64 (k : Int) ∧ Hid ((l.take k).all (·.length == 32) = true) ∧ w' = w) (fun i _ => n - (intOf i).toNat)
    case atStart => exact ⟨0, by omega, rfl, rfl, rfl⟩
    case round =>
      obtain ⟨k, hk, rfl, hall, rfl⟩ := hrel
      by_cases hkn : k < n
      · have b0 : (k : Int) < (n : Int) := by omega
        obtain ⟨x, rfl⟩ := HA.out.pos (by omega)
        obtain ⟨s, hs, hcell⟩ := HA.out.cell k (by omega)
        by_cases h32 : s.size = 32
        · have b1 : ((s.size : Int) != 32) = false := by simp; omega
          have e2 := hid (all_take l k (by omega) hall.out (by rw [← hs.out, data_length]; exact h32))
          clear HA
          go_wp2
          exact ⟨⟨k + 1, by omega, by go_num, e2, trivial⟩, by simp [intOf]; omega⟩
        · have b1 : ((s.size : Int) != 32) = true := by simp; omega
          have e2 := hid (all_not l k (by omega) (by rw [← hs.out, data_length]; exact h32))
          clear HA
          go_wp2
          go_ret
          exact ⟨by rw [e1.out, e2.out]; rfl, rfl⟩
      · obtain rfl : k = n := by omega
        have b0 : ¬ (k : Int) < (k : Int) := by omega
        rw [← hn, List.take_length] at hall
        go_wp2
        go_ret
        exact ⟨by rw [e1.out, hall.out]; rfl, rfl⟩
/-- T3 -/
def rootOut (l : List (List UInt8)) : List UInt8 × Int := if wrg l = 0 then (Tree.root l, 0) else ([], wrg l)
set_option maxRecDepth 100000 in
set_option maxHeartbeats 400000 in
theorem Root_any (l : List (List UInt8)) (a : Option Addr) (cap : Nat) (w : World) (hl : l.length ≤ cap) (hc : cap ≤ 9223372036854775807) (hA : At w a l) (T : Tabs w) :
    Calls Tryd.prog 18 #[.slice a l.length cap] w fun e w' => e = .returned (.tuple #[sv (rootOut l).1, .int .i64 (rootOut l).2]) ∧ Below w.heap.size w w' := by
  have h1 := check_any l a cap w (by omega) hA
  have h2 := root_any l a cap w hl hc hA T
  generalize l.length = n at *
  unfold rootOut
  generalize Tree.root l = r at *
  by_cases h : wrg l = 0
  · rw [if_pos h]
    rw [h] at h1
    clear h hA T
    go_enter Tryd.func18, Tryd.ntmps18
    go_wp2_with (first
      | (go_at_call 40; refine h1.mono ?_; rintro e w1 ⟨rfl, rfl⟩)
      | (go_at_call 41; refine h2.mono ?_; rintro e w2 ⟨rfl, hw2⟩))
    go_ret2
    exact ⟨rfl, hw2⟩
  · rw [if_neg h]
    generalize wrg l = z at *
    have b0 : (z != 0) = true := by simpa using h
    clear hA T h2
    go_enter Tryd.func18, Tryd.ntmps18
    go_wp2_with (go_at_call 40; refine h1.mono ?_; rintro e w1 ⟨rfl, rfl⟩)
    go_ret2
    exact ⟨rfl, Below.refl _ _⟩
end Go.Proofs.YtagplmnnbjidmaaDoor
