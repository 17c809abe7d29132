import Derived.Test.YthoekndjeclimaaGreatDoorCR6
import Derived.Laws.EntriesVeiled
namespace Go.Proofs.YthoekndjeclimaaGreatDoor
open Go.RowKit

/-- the closure that calls itself, in its own variable -/
def rootFn (c : Nat) : Value := .func (.func 62) #[] #[.pointer (some ⟨c, 0, none⟩)]
set_option maxRecDepth 100000 in
set_option maxHeartbeats 400000 in
theorem root1_nil (a : Option Addr) (cap c : Nat) (w : World) (T : Tabs w) :
    Calls Tryz.prog 62 #[.slice a 0 cap, .pointer (some ⟨c, 0, none⟩)] w fun e w' => e = .returned (sv (Tree.root [])) ∧ Below w.heap.size w w' := by
  rw [Tree.root_nil]
  have he := empty_any w T
  obtain ⟨D, hD⟩ : ∃ D, Sha.sha [] = D := ⟨_, rfl⟩
  rw [hD] at he ⊢
  clear hD
  go_enter Tryz.func62, Tryz.ntmps62
  go_wp2_with (go_at_call 63; refine he.mono ?_; rintro e w1 ⟨rfl, hw1⟩)
  go_ret
  exact ⟨rfl, hw1⟩
set_option maxRecDepth 100000 in
set_option maxHeartbeats 400000 in
theorem root1_one (p : List UInt8) (a : Option Addr) (cap c : Nat) (w : World) (hA : At w a [p]) :
    Calls Tryz.prog 62 #[.slice a 1 cap, .pointer (some ⟨c, 0, none⟩)] w fun e w' => e = .returned (sv (Tree.root [p])) ∧ Below w.heap.size w w' := by
  rw [Tree.root_one]
  obtain ⟨x, rfl, hx, hc⟩ := hA 0 p rfl
  rw [addr_zero] at hc
  go_enter Tryz.func62, Tryz.ntmps62
  go_wp2
  go_ret
  exact ⟨rfl, Below.refl _ _⟩
theorem cell_below {w w' : World} {c : Nat} {v : Value} (h : w.cell? ⟨c, 0, none⟩ = some v) (hb : Below w.heap.size w w') : w'.cell? ⟨c, 0, none⟩ = some v :=
  (hb.cell (p := ⟨c, 0, none⟩) (block_lt_of_cell h)).trans h
set_option maxRecDepth 100000 in
set_option maxHeartbeats 2000000 in
theorem root1_any : ∀ (f : Nat) (l : List (List UInt8)) (a : Option Addr) (cap c : Nat) (w : World), l.length ≤ f → l.length ≤ cap → cap ≤ 9223372036854775807 → At w a l → Tabs w →
    w.cell? ⟨c, 0, none⟩ = some (.func (.func 62) #[] #[.pointer (some ⟨c, 0, none⟩)]) →
    Calls Tryz.prog 62 #[.slice a l.length cap, .pointer (some ⟨c, 0, none⟩)] w fun e w' => e = .returned (sv (Tree.root l)) ∧ Below w.heap.size w w' := by
  intro f
  induction f with
  | zero =>
    intro l a cap c w hf hl hc hA T hcl
    obtain rfl : l = [] := List.length_eq_zero_iff.1 (by omega)
    exact root1_nil a cap c w T
  | succ f ih =>
    intro l a cap c w hf hl hc hA T hcl
    match l, hf, hl, hA with
    | [], _, _, _ => exact root1_nil a cap c w T
    | [p], _, _, hA => exact root1_one p a cap c w hA
    | p :: q :: t, hf, hl, hA =>
      obtain ⟨n, hn⟩ : ∃ n, (p :: q :: t).length = n := ⟨_, rfl⟩
      have h2 : 2 ≤ n := by rw [← hn]; simp
      obtain ⟨x, rfl⟩ := hA.pos (by rw [hn]; omega)
      have e := hid (Tree.root_cut (l := p :: q :: t) (by rw [hn]; exact h2))
      generalize p :: q :: t = l at *
      rw [hn] at e hf hl ⊢
      have k1 := Tree.sp_lt h2
      have k2 := Tree.sp_pos h2
      have hs : spI (n : Int) = ((Tree.sp n : Nat) : Int) := rfl
      generalize Tree.sp n = k at *
      have l1 : (l.take k).length = k := by rw [List.length_take, hn]; omega
      have l2 : (l.drop k).length = n - k := by rw [List.length_drop, hn]
      have c1 := fun w' (h : At w' (some x) (l.take k)) => ih (l.take k) (some x) k c w' (by omega) (by omega) (by omega) h
      have c2 := fun w' (h : At w' (some (x.add k)) (l.drop k)) => ih (l.drop k) (some (x.add k)) (n - k) c w' (by omega) (by omega) (by omega) h
      rw [l1] at c1
      rw [l2] at c2
      have n1 : ((n : Int) == 0) = false := by simp; omega
      have n2 : ((n : Int) == 1) = false := by simp; omega
      have A1 := hid (hA.take k)
      have A2 := hid (hA.drop k)
      generalize hp1 : Tree.root (l.take k) = r1 at *
      generalize hp2 : Tree.root (l.drop k) = r2 at *
      obtain ⟨m, d, hm⟩ : ∃ m d, Hid (nodeOf r1 r2 = (m, d)) := ⟨_, _, rfl⟩
      have e' := hid (show Tree.root l = m by rw [e.out, ← nodeOf_nd, hm.out])
      have HT := hid T
      clear hA ih hn e hp1 hp2 T
      go_enter Tryz.func62, Tryz.ntmps62
      go_wp2_with (first
        | (go_at_call 52; refine (split_any (n : Int) (by omega) (by omega) _).mono ?_; rintro e w0 ⟨rfl, rfl⟩; rw [hs])
        | (go_at_call 64; refine (cut_any x n cap k k1 hl _).mono ?_; rintro e wc ⟨rfl, hbc, hhc⟩; have hcl0 := cell_below hcl hbc))
      have Bc := hid hbc.drew
      have A1c := hid (A1.out.heap (w' := wc.drew) hhc)
      have A2c := hid (A2.out.heap (w' := wc.drew) hhc)
      have Tc := hid (HT.out.below hbc.drew HT.out.lt)
      have hcl1 : wc.drew.cell? ⟨c, 0, none⟩ = some (.func (.func 62) #[] #[.pointer (some ⟨c, 0, none⟩)]) := hcl0
      clear hbc hhc A1 A2 HT hcl hcl0
      go_region_with (first
        | (go_at_call 62; with_reducible refine (c1 _ A1c.out Tc.out hcl1).mono ?_; rintro e w1 ⟨rfl, hw1⟩; have hcl2 := cell_below hcl1 hw1)
        | (go_at_call 62; with_reducible refine (c2 _ (A2c.out.below hw1 (Nat.le_refl _)) (Tc.out.below hw1 Tc.out.lt) hcl2).mono ?_; rintro e w2 ⟨rfl, hw2⟩)
        | (go_at_call 65; refine (node_at hm _ ((Tc.out.below hw1 Tc.out.lt).below hw2 (Tc.out.below hw1 Tc.out.lt).lt)).mono ?_; rintro e w3 ⟨rfl, hw3⟩))
      all_goals
        have s1 := hw1.size
        have s2 := hw2.size
        have s3 := Bc.out.size
        have Bf := hid (((Bc.out.trans (hw1.mono (by omega))).trans (hw2.mono (by omega))).trans (hw3.mono (by omega)))
        clear hw1 hw2 hw3 s1 s2 s3 Bc
        go_wp2
        go_ret
        exact ⟨by rw [e'.out]; rfl, Bf.out⟩
end Go.Proofs.YthoekndjeclimaaGreatDoor

namespace Go.Proofs.YthoekndjeclimaaGreatDoor
open Go.RowKit

set_option maxRecDepth 100000 in
set_option maxHeartbeats 400000 in
/-- the program's root -/
theorem root_any (l : List (List UInt8)) (a : Option Addr) (cap : Nat) (w : World) (hl : l.length ≤ cap) (hc : cap ≤ 9223372036854775807) (hA : At w a l) (T : Tabs w) :
    Calls Tryz.prog 43 #[.slice a l.length cap] w fun e w' => e = .returned (sv (Tree.root l)) ∧ Below w.heap.size w w' := by
  have hmf : ∀ (fn : Fn) (first cap : Array Value) (w : World), (Instr.makeFunc fn first cap).run Tryz.prog w = .ok (.func fn first cap) w := fun _ _ _ _ => rfl
  generalize hn : l.length = n at *
  go_enter Tryz.func43, Tryz.ntmps43
  have hb := (Below.refl w.heap.size w).alloc (Nat.le_refl _) (.cells #[Value.func (.func 62) #[] #[Value.pointer (some ⟨w.heap.size, 0, none⟩)]] 57)
  have hc1 := root1_any n l a cap w.heap.size (w.alloc (.cells #[Value.func (.func 62) #[] #[Value.pointer (some ⟨w.heap.size, 0, none⟩)]] 57)) (by omega) (by omega) hc (hA.below hb (Nat.le_refl _)) (T.below hb T.lt)
    (by rw [cell_of_row _ _ _ _ _ _ (heap_alloc_new w _)]; rfl)
  rw [hn] at hc1
  clear hn hA T hc hl
  go_wp2_with (go_at_call 62; refine hc1.mono ?_; rintro e w1 ⟨rfl, hw1⟩)
  go_ret
  exact ⟨rfl, hb.trans (hw1.mono (by rw [size_alloc]; omega))⟩

/-- T2 -/
def wrg (l : List (List UInt8)) : Int := if 4096 < l.length then 31 else if l.all (·.length == 32) then 0 else 32
theorem all_take (l : List (List UInt8)) (k : Nat) (hk : k < l.length) (h : (l.take k).all (·.length == 32) = true) (h2 : (l[k]).length = 32) : (l.take (k + 1)).all (·.length == 32) = true := by
  rw [List.take_succ_eq_append_getElem hk, List.all_append, h]
  simp [h2]
theorem all_not (l : List (List UInt8)) (k : Nat) (hk : k < l.length) (h2 : ¬ (l[k]).length = 32) : l.all (·.length == 32) = false := by
  rw [List.all_eq_false]
  exact ⟨l[k], List.getElem_mem hk, by simpa using h2⟩
set_option maxRecDepth 100000 in
set_option maxHeartbeats 400000 in
theorem check_any (l : List (List UInt8)) (a : Option Addr) (cap : Nat) (w : World) (hc : l.length ≤ 9223372036854775807) (hA : At w a l) :
    Calls Tryz.prog 42 #[.slice a l.length cap] w fun e w' => e = .returned (.int .i64 (wrg l)) ∧ w' = w := by
  generalize hn : l.length = n at *
  by_cases h1 : 4096 < n
  · have h' : (4096 : Int) < (n : Int) := by omega
    go_enter Tryz.func42, Tryz.ntmps42
    go_wp2
    go_ret
    exact ⟨by rw [wrg, if_pos (by omega)]; rfl, rfl⟩
  · have h' : ¬ (4096 : Int) < (n : Int) := by omega
    have HA := hid hA
    have e1 := hid (show wrg l = if l.all (·.length == 32) then 0 else 32 by rw [wrg, if_neg (by omega)])
    clear hA
    go_enter Tryz.func42, Tryz.ntmps42
    go_wp2
    go_loopw [10] (fun i w' => ∃ k : Nat, k ≤ n ∧ i = .int .i64 (k : Int) ∧ Hid ((l.take k).all (·.length == 32) = true) ∧ w' = w) (fun i _ => n - (intOf i).toNat)
    case atStart => exact ⟨0, by omega, rfl, rfl, rfl⟩
    case round =>
      obtain ⟨k, hk, rfl, hall, rfl⟩ := hrel
      by_cases hkn : k < n
      · have b0 : (k : Int) < (n : Int) := by omega
        obtain ⟨x, rfl⟩ := HA.out.pos (by omega)
        obtain ⟨s, hs, hcell⟩ := HA.out.cell k (by omega)
        by_cases h32 : s.size = 32
        · have b1 : ((s.size : Int) != 32) = false := by simp; omega
          have e2 := hid (all_take l k (by omega) hall.out (by rw [← hs.out, data_length]; exact h32))
          clear HA
          go_wp2
          exact ⟨⟨k + 1, by omega, by go_num, e2, trivial⟩, by simp [intOf]; omega⟩
        · have b1 : ((s.size : Int) != 32) = true := by simp; omega
          have e2 := hid (all_not l k (by omega) (by rw [← hs.out, data_length]; exact h32))
          clear HA
          go_wp2
          go_ret
          exact ⟨by rw [e1.out, e2.out]; rfl, rfl⟩
      · obtain rfl : k = n := by omega
        have b0 : ¬ (k : Int) < (k : Int) := by omega
        rw [← hn, List.take_length] at hall
        go_wp2
        go_ret
        exact ⟨by rw [e1.out, hall.out]; rfl, rfl⟩
set_option maxRecDepth 100000 in
set_option maxHeartbeats 400000 in
theorem wrong_any (l : List (List UInt8)) (a : Option Addr) (cap : Nat) (w : World) (hc : l.length ≤ 9223372036854775807) (hA : At w a l) :
    Calls Tryz.prog 80 #[.slice a l.length cap] w fun e w' => e = .returned (.int .i64 (wrg l)) ∧ w' = w := by
  generalize hn : l.length = n at *
  by_cases h1 : 4096 < n
  · have h' : (4096 : Int) < (n : Int) := by omega
    go_enter Tryz.func80, Tryz.ntmps80
    go_wp2
    go_ret
    exact ⟨by rw [wrg, if_pos (by omega)]; rfl, rfl⟩
  · have h' : ¬ (4096 : Int) < (n : Int) := by omega
    have HA := hid hA
    have e1 := hid (show wrg l = if l.all (·.length == 32) then 0 else 32 by rw [wrg, if_neg (by omega)])
    clear hA
    go_enter Tryz.func80, Tryz.ntmps80
    go_wp2
    go_loopw [3] (fun i w' => ∃ k : Nat, k ≤ n ∧ i = .int .i64 (k : Int) ∧ Hid ((l.take k).all (·.length == 32) = true) ∧ w' = w) (fun i _ => n - (intOf i).toNat)
    case atStart => exact ⟨0, by omega, rfl, rfl, rfl⟩
    case round =>
      obtain ⟨k, hk, rfl, hall, rfl⟩ := hrel
      by_cases hkn : k < n
      · have b0 : (k : Int) < (n : Int) := by omega
        obtain ⟨x, rfl⟩ := HA.out.pos (by omega)
        obtain ⟨s, hs, hcell⟩ := HA.out.cell k (by omega)
        by_cases h32 : s.size = 32
        · have b1 : ((s.size : Int) != 32) = false := by simp; omega
          have e2 := hid (all_take l k (by omega) hall.out (by rw [← hs.out, data_length]; exact h32))
          clear HA
          go_wp2
          exact ⟨⟨k + 1, by omega, by go_num, e2, trivial⟩, by simp [intOf]; omega⟩
        · have b1 : ((s.size : Int) != 32) = true := by simp; omega
          have e2 := hid (all_not l k (by omega) (by rw [← hs.out, data_length]; exact h32))
          clear HA
          go_wp2
          go_ret
          exact ⟨by rw [e1.out, e2.out]; rfl, rfl⟩
      · obtain rfl : k = n := by omega
        have b0 : ¬ (k : Int) < (k : Int) := by omega
        rw [← hn, List.take_length] at hall
        go_wp2
        go_ret
        exact ⟨by rw [e1.out, hall.out]; rfl, rfl⟩
/-- T3 -/
def rootOut (l : List (List UInt8)) : List UInt8 × Int := if wrg l = 0 then (Tree.root l, 0) else ([], wrg l)
set_option maxRecDepth 100000 in
set_option maxHeartbeats 400000 in
theorem Root_any (l : List (List UInt8)) (a : Option Addr) (cap : Nat) (w : World) (hl : l.length ≤ cap) (hc : cap ≤ 9223372036854775807) (hA : At w a l) (T : Tabs w) :
    Calls Tryz.prog 16 #[.slice a l.length cap] w fun e w' => e = .returned (.tuple #[sv (rootOut l).1, .int .i64 (rootOut l).2]) ∧ Below w.heap.size w w' := by
  have h1 := check_any l a cap w (by omega) hA
  have h2 := root_any l a cap w hl hc hA T
  generalize l.length = n at *
  unfold rootOut
  generalize Tree.root l = r at *
  by_cases h : wrg l = 0
  · rw [if_pos h]
    rw [h] at h1
    clear h hA T
    go_enter Tryz.func16, Tryz.ntmps16
    go_wp2_with (first
      | (go_at_call 42; refine h1.mono ?_; rintro e w1 ⟨rfl, rfl⟩)
      | (go_at_call 43; refine h2.mono ?_; rintro e w2 ⟨rfl, hw2⟩))
    go_ret2
    exact ⟨rfl, hw2⟩
  · rw [if_neg h]
    generalize wrg l = z at *
    have b0 : (z != 0) = true := by simpa using h
    clear hA T h2
    go_enter Tryz.func16, Tryz.ntmps16
    go_wp2_with (go_at_call 42; refine h1.mono ?_; rintro e w1 ⟨rfl, rfl⟩)
    go_ret2
    exact ⟨rfl, Below.refl _ _⟩
set_option maxRecDepth 100000 in
set_option maxHeartbeats 400000 in
theorem rRoot_any (l : List (List UInt8)) (a : Option Addr) (cap : Nat) (w : World) (hl : l.length ≤ cap) (hc : cap ≤ 9223372036854775807) (hA : At w a l) :
    Calls Tryz.prog 56 #[.slice a l.length cap] w fun e w' => e = .returned (.tuple #[sv (rootOut l).1, .int .i64 (rootOut l).2]) ∧ Below w.heap.size w w' := by
  have h1 := wrong_any l a cap w (by omega) hA
  have h2 := R_any _ l a cap w (Nat.le_refl _) hl hc hA
  generalize l.length = n at *
  unfold rootOut
  generalize Tree.root l = r at *
  by_cases h : wrg l = 0
  · rw [if_pos h]
    rw [h] at h1
    clear h hA
    go_enter Tryz.func56, Tryz.ntmps56
    go_wp2_with (first
      | (go_at_call 80; refine h1.mono ?_; rintro e w1 ⟨rfl, rfl⟩)
      | (go_at_call 81; refine h2.mono ?_; rintro e w2 ⟨rfl, hw2⟩))
    go_ret2
    exact ⟨rfl, hw2⟩
  · rw [if_neg h]
    generalize wrg l = z at *
    have b0 : (z != 0) = true := by simpa using h
    clear hA h2
    go_enter Tryz.func56, Tryz.ntmps56
    go_wp2_with (go_at_call 80; refine h1.mono ?_; rintro e w1 ⟨rfl, rfl⟩)
    go_ret2
    exact ⟨rfl, Below.refl _ _⟩
end Go.Proofs.YthoekndjeclimaaGreatDoor

namespace Go.Proofs.YthoekndjeclimaaGreatDoor.Tree
theorem path_length : ∀ (f m : Nat) (l : List T), l.length ≤ f → (path m l).length ≤ l.length
  | 0, m, l, h => by rw [path_small (by omega)]; simp
  | f + 1, m, l, h => by
    by_cases h2 : l.length < 2
    · rw [path_small h2]; simp
    · have a := sp_lt (n := l.length) (by omega)
      have b := sp_pos (n := l.length) (by omega)
      rw [path_cut (by omega)]
      split
      · have := path_length f m (l.take (sp l.length)) (by simp; omega)
        simp at *; omega
      · have := path_length f (m - sp l.length) (l.drop (sp l.length)) (by simp; omega)
        simp at *; omega
theorem proof_length : ∀ (f m : Nat) (l : List T) (whole : Bool), l.length ≤ f → 1 ≤ m → m ≤ l.length → (proof m l whole).length ≤ l.length
  | 0, m, l, _, h, h1, h2 => by omega
  | f + 1, m, l, whole, h, h1, h2 => by
    by_cases he : m = l.length
    · subst he
      cases whole
      · rw [proof_part h1]; simpa using h1
      · rw [proof_whole h1]; simp
    · have a := sp_lt (n := l.length) (by omega)
      have b := sp_pos (n := l.length) (by omega)
      by_cases hk : m ≤ sp l.length
      · rw [proof_left h1 (by omega) hk]
        have := proof_length f m (l.take (sp l.length)) whole (by simp; omega) h1 (by simp; omega)
        simp at *; omega
      · rw [proof_right h1 (by omega) hk]
        have := proof_length f (m - sp l.length) (l.drop (sp l.length)) false (by simp; omega) (by omega) (by simp; omega)
        simp at *; omega
theorem many_length : ∀ (f : Nat) (is : List Nat) (b : Nat) (l : List T), l.length ≤ f → 1 ≤ l.length → (many is b l).length ≤ l.length
  | 0, is, b, l, h, h1 => by omega
  | f + 1, is, b, l, h, h1 => by
    by_cases hi : is = []
    · subst hi; rw [many_none h1]; simpa using h1
    · by_cases h2 : l.length = 1
      · rw [many_one hi h2]; simp
      · have x := sp_lt (n := l.length) (by omega)
        have y := sp_pos (n := l.length) (by omega)
        rw [many_cut hi (by omega)]
        have := many_length f (is.filter (· < b + sp l.length)) b (l.take (sp l.length)) (by simp; omega) (by simp; omega)
        have := many_length f (is.filter (b + sp l.length ≤ ·)) (b + sp l.length) (l.drop (sp l.length)) (by simp; omega) (by simp; omega)
        simp at *; omega
end Go.Proofs.YthoekndjeclimaaGreatDoor.Tree
namespace Go.Proofs.YthoekndjeclimaaGreatDoor
open Go.RowKit
def svs (L : List (List UInt8)) : List Value := L.map sv
theorem svs_length (L : List (List UInt8)) : (svs L).length = L.length := by simp [svs]
theorem infoS : (Tryz.prog.info? 9).map (fun i => (i.zero, i.size, i.bytes)) = some (some (.string ⟨#[]⟩), 1, 16) := by kernel_rfl
/-- append(l, s) -/
theorem append_text (w : World) (base : Nat) (v : Value) (L : List (List UInt8)) (p : List UInt8) (hown : Own w base v (svs L)) (hlen : L.length ≤ 2000000) (hbase : base ≤ w.heap.size) :
    ∃ v' w', (Builtin.append_ #[22, 22] 22 #[v, .slice (some ⟨w.heap.size, 0, none⟩) 1 1]).run Tryz.prog (w.alloc (.cells #[sv p] 9)) = .ok v' w' ∧ Own w' base v' (svs (L ++ [p])) ∧ Below base w w' := by
  obtain ⟨i0, hi, hz0, hz1, hz2⟩ := info_parts infoS
  have hsrc : Src Tryz.prog 1 22 (.slice (some ⟨w.heap.size, 0, none⟩) 1 1) 1 [sv p] (w.alloc (.cells #[sv p] 9)) :=
    Src.ofSlice _ Tryz.underlying22 ⟨w.heap.size, 0, none⟩ 1 1 [sv p] (by simp) (fun j u hj => by
      rw [Addr.add_mid, cell_of_row _ _ _ _ _ _ (heap_alloc_new w _), Nat.zero_add]; simpa using hj) (fun u hu => by simp at hu; subst hu; rfl)
  obtain ⟨v', w', h1, h2, h3, h4⟩ := run_append_O (P := Tryz.prog) (w.alloc (.cells #[sv p] 9)) base 22 22 22 9 i0 (.string ⟨#[]⟩) Tryz.underlying22 hi hz0 hz1 rfl v (svs L) (hown.alloc _) _ 1 [sv p] hsrc
    (by rw [svs_length, hz2]; omega) (by rw [svs_length, maxLen]; omega) (by rw [size_alloc]; omega) (fun _ => by omega)
  refine ⟨v', w', h1, by simpa [svs] using h2, ?_⟩
  exact ((Below.refl base w).alloc hbase _).trans (Below.ofGrown h3 hown.ge (by rw [size_alloc]; omega))

/-- a list of one's own comes out -/
def Out (w : World) (L : List (List UInt8)) (e : Ending) (w' : World) : Prop := ∃ v, e = .returned v ∧ Own w' w.heap.size v (svs L) ∧ Below w.heap.size w w'
end Go.Proofs.YthoekndjeclimaaGreatDoor

namespace Go.Proofs.YthoekndjeclimaaGreatDoor
open Go.RowKit

set_option maxRecDepth 100000 in
set_option maxHeartbeats 400000 in
theorem path1_one (m : Int) (a : Option Addr) (cap c : Nat) (w : World) :
    Calls Tryz.prog 66 #[.int .i64 m, .slice a 1 cap, .pointer (some ⟨c, 0, none⟩)] w (Out w []) := by
  go_enter Tryz.func66, Tryz.ntmps66
  go_wp2
  go_ret
  exact ⟨_, rfl, Own.nil _ _, Below.refl _ _⟩
set_option maxRecDepth 100000 in
set_option maxHeartbeats 2000000 in
/-- the program's -/
theorem path1_any : ∀ (f : Nat) (l : List (List UInt8)) (m : Nat) (a : Option Addr) (cap c : Nat) (w : World), l.length ≤ f → l.length ≤ 1000000 → m < l.length → l.length ≤ cap → cap ≤ 9223372036854775807 → At w a l → Tabs w →
    w.cell? ⟨c, 0, none⟩ = some (.func (.func 66) #[] #[.pointer (some ⟨c, 0, none⟩)]) →
    Calls Tryz.prog 66 #[.int .i64 m, .slice a l.length cap, .pointer (some ⟨c, 0, none⟩)] w (Out w (Tree.path m l)) := by
  intro f
  induction f with
  | zero => intro l m a cap c w hf _ hm; omega
  | succ f ih =>
    intro l m a cap c w hf hM hm hl hc hA T hcl
    by_cases h1 : l.length = 1
    · rw [h1, Tree.path_small (by omega)]
      exact path1_one m a cap c w
    · obtain ⟨n, hn⟩ : ∃ n, l.length = n := ⟨_, rfl⟩
      have h2 : 2 ≤ n := by omega
      obtain ⟨x, rfl⟩ := hA.pos (by rw [hn]; omega)
      have e := hid (Tree.path_cut (m := m) (l := l) (by rw [hn]; exact h2))
      rw [hn] at e hf hl hm h1 hM ⊢
      have k1 := Tree.sp_lt h2
      have k2 := Tree.sp_pos h2
      have hs : spI (n : Int) = ((Tree.sp n : Nat) : Int) := rfl
      generalize Tree.sp n = k at *
      have l1 : (l.take k).length = k := by rw [List.length_take, hn]; omega
      have l2 : (l.drop k).length = n - k := by rw [List.length_drop, hn]
      have n2 : ((n : Int) == 1) = false := by simp; omega
      have HT := hid T
      have A1 := hid (hA.take k)
      have A2 := hid (hA.drop k)
      by_cases hmk : m < k
      · have b0 : (m : Int) < (k : Int) := by omega
        have c1 := fun w' (h : At w' (some x) (l.take k)) => ih (l.take k) m (some x) k c w' (by omega) (by omega) (by omega) (by omega) (by omega) h
        have c2 := fun w' (h : At w' (some (x.add k)) (l.drop k)) => root_any (l.drop k) (some (x.add k)) (n - k) w' (by omega) (by omega) h
        rw [l1] at c1
        rw [l2] at c2
        have hpl := Tree.path_length _ m (l.take k) (Nat.le_refl _)
        rw [if_pos hmk] at e
        generalize Tree.path m (l.take k) = L at *
        generalize Tree.root (l.drop k) = r at *
        clear hA ih hn T
        go_enter Tryz.func66, Tryz.ntmps66
        go_wp2_with (first
          | (go_at_call 52; refine (split_any (n : Int) (by omega) (by omega) _).mono ?_; rintro e w0 ⟨rfl, rfl⟩; rw [hs])
          | (go_at_call 64; refine (cut_any x n cap k k1 hl _).mono ?_; rintro e wc ⟨rfl, hbc, hhc⟩; have hcl0 := cell_below hcl hbc)
          | (go_at_call 66; refine (c1 _ (A1.out.heap hhc) (HT.out.below hbc HT.out.lt) hcl0).mono ?_; rintro e w1 ⟨v1, rfl, hO1, hw1⟩)
          | (go_at_call 43; refine (c2 _ ((A2.out.heap hhc).below hw1 (Nat.le_refl _)) ((HT.out.below hbc HT.out.lt).below hw1 (HT.out.below hbc HT.out.lt).lt)).mono ?_; rintro e w2 ⟨rfl, hw2⟩; obtain ⟨v3, w3, hap, hO3, hb3⟩ := append_text w2 wc.heap.size v1 L r (hO1.below hw2 (Nat.le_refl _)) (by omega) (Nat.le_trans hw1.size hw2.size); rw [show sv r = Value.string ⟨r.toArray⟩ from rfl] at hap ⊢)
          | (at_builtin; go_must (refine Lib.wpList_append_run _ rfl _ _ 22 22 rfl _ _ rfl rfl _ _ hap ?_)))
        go_ret
        exact ⟨_, rfl, by rw [e.out]; exact hO3.mono hbc.size, hbc.trans (((hw1.trans (hw2.mono hw1.size)).trans hb3).mono hbc.size)⟩
      · have b0 : ¬ (m : Int) < (k : Int) := by omega
        have c1 := fun w' (h : At w' (some (x.add k)) (l.drop k)) => ih (l.drop k) (m - k) (some (x.add k)) (n - k) c w' (by omega) (by omega) (by omega) (by omega) (by omega) h
        have c2 := fun w' (h : At w' (some x) (l.take k)) => root_any (l.take k) (some x) k w' (by omega) (by omega) h
        rw [l2, show ((m - k : Nat) : Int) = (m : Int) - (k : Int) from by omega] at c1
        rw [l1] at c2
        have hpl := Tree.path_length _ (m - k) (l.drop k) (Nat.le_refl _)
        rw [if_neg hmk] at e
        generalize Tree.path (m - k) (l.drop k) = L at *
        generalize Tree.root (l.take k) = r at *
        clear hA ih hn T
        go_enter Tryz.func66, Tryz.ntmps66
        go_wp2_with (first
          | (go_at_call 52; refine (split_any (n : Int) (by omega) (by omega) _).mono ?_; rintro e w0 ⟨rfl, rfl⟩; rw [hs])
          | (go_at_call 64; refine (cut_any x n cap k k1 hl _).mono ?_; rintro e wc ⟨rfl, hbc, hhc⟩; have hcl0 := cell_below hcl hbc)
          | (go_at_call 66; refine (c1 _ (A2.out.heap hhc) (HT.out.below hbc HT.out.lt) hcl0).mono ?_; rintro e w1 ⟨v1, rfl, hO1, hw1⟩)
          | (go_at_call 43; refine (c2 _ ((A1.out.heap hhc).below hw1 (Nat.le_refl _)) ((HT.out.below hbc HT.out.lt).below hw1 (HT.out.below hbc HT.out.lt).lt)).mono ?_; rintro e w2 ⟨rfl, hw2⟩; obtain ⟨v3, w3, hap, hO3, hb3⟩ := append_text w2 wc.heap.size v1 L r (hO1.below hw2 (Nat.le_refl _)) (by omega) (Nat.le_trans hw1.size hw2.size); rw [show sv r = Value.string ⟨r.toArray⟩ from rfl] at hap ⊢)
          | (at_builtin; go_must (refine Lib.wpList_append_run _ rfl _ _ 22 22 rfl _ _ rfl rfl _ _ hap ?_)))
        go_ret
        exact ⟨_, rfl, by rw [e.out]; exact hO3.mono hbc.size, hbc.trans (((hw1.trans (hw2.mono hw1.size)).trans hb3).mono hbc.size)⟩
end Go.Proofs.YthoekndjeclimaaGreatDoor
