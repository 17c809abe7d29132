import Derived.Test.YtejdecfpegpgcaaDoorCR5
import Derived.Laws.EntriesVeiled
namespace Go.Proofs.YtejdecfpegpgcaaDoor
open Go.RowKit

set_option maxRecDepth 100000 in
set_option maxHeartbeats 400000 in
/-- the program's root -/
theorem root_any (l : List (List UInt8)) (a : Option Addr) (cap : Nat) (w : World) (hl : l.length ≤ cap) (hc : cap ≤ 9223372036854775807) (hA : At w a l) (T : Tabs w) :
    Calls Tryd.prog 65 #[.slice a l.length cap] w fun e w' => e = .returned (sv (Tree.root l)) ∧ Below w.heap.size w w' := by
  have hmf : ∀ (fn : Fn) (first cap : Array Value) (w : World), (Instr.makeFunc fn first cap).run Tryd.prog w = .ok (.func fn first cap) w := fun _ _ _ _ => rfl
  generalize hn : l.length = n at *
  go_enter Tryd.func65, Tryd.ntmps65
  have hb := (Below.refl w.heap.size w).alloc (Nat.le_refl _) (.cells #[Value.func (.func 91) #[] #[Value.pointer (some ⟨w.heap.size, 0, none⟩)]] 94)
  have hc1 := root1_any n l a cap w.heap.size (w.alloc (.cells #[Value.func (.func 91) #[] #[Value.pointer (some ⟨w.heap.size, 0, none⟩)]] 94)) (by omega) (by omega) hc (hA.below hb (Nat.le_refl _)) (T.below hb T.lt)
    (by rw [cell_of_row _ _ _ _ _ _ (heap_alloc_new w _)]; rfl)
  rw [hn] at hc1
  clear hn hA T hc hl
  go_wp2_with (go_at_call 91; refine hc1.mono ?_; rintro e w1 ⟨rfl, hw1⟩)
  go_ret
  exact ⟨rfl, hb.trans (hw1.mono (by rw [size_alloc]; omega))⟩

/-- T2 -/
def wrg (l : List (List UInt8)) : Int := if 4096 < l.length then 31 else if l.all (·.length == 32) then 0 else 32
theorem all_take (l : List (List UInt8)) (k : Nat) (hk : k < l.length) (h : (l.take k).all (·.length == 32) = true) (h2 : (l[k]).length = 32) : (l.take (k + 1)).all (·.length == 32) = true := by
  rw [List.take_succ_eq_append_getElem hk, List.all_append, h]
  simp [h2]
theorem all_not (l : List (List UInt8)) (k : Nat) (hk : k < l.length) (h2 : ¬ (l[k]).length = 32) : l.all (·.length == 32) = false := by
  rw [List.all_eq_false]
  exact ⟨l[k], List.getElem_mem hk, by simpa using h2⟩
set_option maxRecDepth 100000 in
set_option maxHeartbeats 400000 in
theorem check_any (l : List (List UInt8)) (a : Option Addr) (cap : Nat) (w : World) (hc : l.length ≤ 9223372036854775807) (hA : At w a l) :
    Calls Tryd.prog 64 #[.slice a l.length cap] w fun e w' => e = .returned (.int .i64 (wrg l)) ∧ w' = w := by
  generalize hn : l.length = n at *
  by_cases h1 : 4096 < n
  · have h' : (4096 : Int) < (n : Int) := by omega
    go_enter Tryd.func64, Tryd.ntmps64
    go_wp2
    go_ret
    exact ⟨by rw [wrg, if_pos (by omega)]; rfl, rfl⟩
  · have h' : ¬ (4096 : Int) < (n : Int) := by omega
    have HA := hid hA
    have e1 := hid (show wrg l = if l.all (·.length == 32) then 0 else 32 by rw [wrg, if_neg (by omega)])
    clear hA
    go_enter Tryd.func64, Tryd.ntmps64
    go_wp2
    go_loopw [10] (fun i w' => ∃ k : Nat, k ≤ n ∧ i = .int .i64 (k : Int) ∧ Hid ((l.take k).all (·.length == 32) = true) ∧ w' = w) (fun i _ => n - (intOf i).toNat)
    case atStart => exact ⟨0, by omega, rfl, rfl, rfl⟩
    case round =>
      obtain ⟨k, hk, rfl, hall, rfl⟩ := hrel
      by_cases hkn : k < n
      · have b0 : (k : Int) < (n : Int) := by omega
        obtain ⟨x, rfl⟩ := HA.out.pos (by omega)
        obtain ⟨s, hs, hcell⟩ := HA.out.cell k (by omega)
        by_cases h32 : s.size = 32
        · have b1 : ((s.size : Int) != 32) = false := by simp; omega
          have e2 := hid (all_take l k (by omega) hall.out (by rw [← hs.out, data_length]; exact h32))
          clear HA
          go_wp2
          exact ⟨⟨k + 1, by omega, by go_num, e2, trivial⟩, by simp [intOf]; omega⟩
        · have b1 : ((s.size : Int) != 32) = true := by simp; omega
          have e2 := hid (all_not l k (by omega) (by rw [← hs.out, data_length]; exact h32))
          clear HA
          go_wp2
          go_ret
          exact ⟨by rw [e1.out, e2.out]; rfl, rfl⟩
      · obtain rfl : k = n := by omega
        have b0 : ¬ (k : Int) < (k : Int) := by omega
        rw [← hn, List.take_length] at hall
        go_wp2
        go_ret
        exact ⟨by rw [e1.out, hall.out]; rfl, rfl⟩
/-- T3 -/
def rootOut (l : List (List UInt8)) : List UInt8 × Int := if wrg l = 0 then (Tree.root l, 0) else ([], wrg l)
set_option maxRecDepth 100000 in
set_option maxHeartbeats 400000 in
theorem Root_any (l : List (List UInt8)) (a : Option Addr) (cap : Nat) (w : World) (hl : l.length ≤ cap) (hc : cap ≤ 9223372036854775807) (hA : At w a l) (T : Tabs w) :
    Calls Tryd.prog 32 #[.slice a l.length cap] w fun e w' => e = .returned (.tuple #[sv (rootOut l).1, .int .i64 (rootOut l).2]) ∧ Below w.heap.size w w' := by
  have h1 := check_any l a cap w (by omega) hA
  have h2 := root_any l a cap w hl hc hA T
  generalize l.length = n at *
  unfold rootOut
  generalize Tree.root l = r at *
  by_cases h : wrg l = 0
  · rw [if_pos h]
    rw [h] at h1
    clear h hA T
    go_enter Tryd.func32, Tryd.ntmps32
    go_wp2_with (first
      | (go_at_call 64; refine h1.mono ?_; rintro e w1 ⟨rfl, rfl⟩)
      | (go_at_call 65; refine h2.mono ?_; rintro e w2 ⟨rfl, hw2⟩))
    go_ret2
    exact ⟨rfl, hw2⟩
  · rw [if_neg h]
    generalize wrg l = z at *
    have b0 : (z != 0) = true := by simpa using h
    clear hA T h2
    go_enter Tryd.func32, Tryd.ntmps32
    go_wp2_with (go_at_call 64; refine h1.mono ?_; rintro e w1 ⟨rfl, rfl⟩)
    go_ret2
    exact ⟨rfl, Below.refl _ _⟩
end Go.Proofs.YtejdecfpegpgcaaDoor

namespace Go.Proofs.YtejdecfpegpgcaaDoor.Tree
theorem path_length : ∀ (f m : Nat) (l : List T), l.length ≤ f → (path m l).length ≤ l.length
  | 0, m, l, h => by rw [path_small (by omega)]; simp
  | f + 1, m, l, h => by
    by_cases h2 : l.length < 2
    · rw [path_small h2]; simp
    · have a := sp_lt (n := l.length) (by omega)
      have b := sp_pos (n := l.length) (by omega)
      rw [path_cut (by omega)]
      split
      · have := path_length f m (l.take (sp l.length)) (by simp; omega)
        simp at *; omega
      · have := path_length f (m - sp l.length) (l.drop (sp l.length)) (by simp; omega)
        simp at *; omega
theorem proof_length : ∀ (f m : Nat) (l : List T) (whole : Bool), l.length ≤ f → 1 ≤ m → m ≤ l.length → (proof m l whole).length ≤ l.length
  | 0, m, l, _, h, h1, h2 => by omega
  | f + 1, m, l, whole, h, h1, h2 => by
    by_cases he : m = l.length
    · subst he
      cases whole
      · rw [proof_part h1]; simpa using h1
      · rw [proof_whole h1]; simp
    · have a := sp_lt (n := l.length) (by omega)
      have b := sp_pos (n := l.length) (by omega)
      by_cases hk : m ≤ sp l.length
      · rw [proof_left h1 (by omega) hk]
        have := proof_length f m (l.take (sp l.length)) whole (by simp; omega) h1 (by simp; omega)
        simp at *; omega
      · rw [proof_right h1 (by omega) hk]
        have := proof_length f (m - sp l.length) (l.drop (sp l.length)) false (by simp; omega) (by omega) (by simp; omega)
        simp at *; omega
theorem many_length : ∀ (f : Nat) (is : List Nat) (b : Nat) (l : List T), l.length ≤ f → 1 ≤ l.length → (many is b l).length ≤ l.length
  | 0, is, b, l, h, h1 => by omega
  | f + 1, is, b, l, h, h1 => by
    by_cases hi : is = []
    · subst hi; rw [many_none h1]; simpa using h1
    · by_cases h2 : l.length = 1
      · rw [many_one hi h2]; simp
      · have x := sp_lt (n := l.length) (by omega)
        have y := sp_pos (n := l.length) (by omega)
        rw [many_cut hi (by omega)]
        have := many_length f (is.filter (· < b + sp l.length)) b (l.take (sp l.length)) (by simp; omega) (by simp; omega)
        have := many_length f (is.filter (b + sp l.length ≤ ·)) (b + sp l.length) (l.drop (sp l.length)) (by simp; omega) (by simp; omega)
        simp at *; omega
end Go.Proofs.YtejdecfpegpgcaaDoor.Tree
namespace Go.Proofs.YtejdecfpegpgcaaDoor
open Go.RowKit
def svs (L : List (List UInt8)) : List Value := L.map sv
theorem svs_length (L : List (List UInt8)) : (svs L).length = L.length := by simp [svs]
theorem infoS : (Tryd.prog.info? 9).map (fun i => (i.zero, i.size, i.bytes)) = some (some (.string ⟨#[]⟩), 1, 16) := by kernel_rfl
/-- append(l, s) -/
theorem append_text (w : World) (base : Nat) (v : Value) (L : List (List UInt8)) (p : List UInt8) (hown : Own w base v (svs L)) (hlen : L.length ≤ 2000000) (hbase : base ≤ w.heap.size) :
    ∃ v' w', (Builtin.append_ #[55, 55] 55 #[v, .slice (some ⟨w.heap.size, 0, none⟩) 1 1]).run Tryd.prog (w.alloc (.cells #[sv p] 9)) = .ok v' w' ∧ Own w' base v' (svs (L ++ [p])) ∧ Below base w w' := by
  obtain ⟨i0, hi, hz0, hz1, hz2⟩ := info_parts infoS
  have hsrc : Src Tryd.prog 1 55 (.slice (some ⟨w.heap.size, 0, none⟩) 1 1) 1 [sv p] (w.alloc (.cells #[sv p] 9)) :=
    Src.ofSlice _ Tryd.underlying55 ⟨w.heap.size, 0, none⟩ 1 1 [sv p] (by simp) (fun j u hj => by
      rw [Addr.add_mid, cell_of_row _ _ _ _ _ _ (heap_alloc_new w _), Nat.zero_add]; simpa using hj) (fun u hu => by simp at hu; subst hu; rfl)
  obtain ⟨v', w', h1, h2, h3, h4⟩ := run_append_O (P := Tryd.prog) (w.alloc (.cells #[sv p] 9)) base 55 55 55 9 i0 (.string ⟨#[]⟩) Tryd.underlying55 hi hz0 hz1 rfl v (svs L) (hown.alloc _) _ 1 [sv p] hsrc
    (by rw [svs_length, hz2]; omega) (by rw [svs_length, maxLen]; omega) (by rw [size_alloc]; omega) (fun _ => by omega)
  refine ⟨v', w', h1, by simpa [svs] using h2, ?_⟩
  exact ((Below.refl base w).alloc hbase _).trans (Below.ofGrown h3 hown.ge (by rw [size_alloc]; omega))

/-- a list of one's own comes out -/
def Out (w : World) (L : List (List UInt8)) (e : Ending) (w' : World) : Prop := ∃ v, e = .returned v ∧ Own w' w.heap.size v (svs L) ∧ Below w.heap.size w w'
end Go.Proofs.YtejdecfpegpgcaaDoor

namespace Go.Proofs.YtejdecfpegpgcaaDoor
open Go.RowKit

set_option maxRecDepth 100000 in
set_option maxHeartbeats 400000 in
theorem path1_one (m : Int) (a : Option Addr) (cap c : Nat) (w : World) :
    Calls Tryd.prog 96 #[.int .i64 m, .slice a 1 cap, .pointer (some ⟨c, 0, none⟩)] w (Out w []) := by
  go_enter Tryd.func96, Tryd.ntmps96
  go_wp2
  go_ret
  exact ⟨_, rfl, Own.nil _ _, Below.refl _ _⟩
set_option maxRecDepth 100000 in
set_option maxHeartbeats 2000000 in
/-- the program's -/
theorem path1_any : ∀ (f : Nat) (l : List (List UInt8)) (m : Nat) (a : Option Addr) (cap c : Nat) (w : World), l.length ≤ f → l.length ≤ 1000000 → m < l.length → l.length ≤ cap → cap ≤ 9223372036854775807 → At w a l → Tabs w →
    w.cell? ⟨c, 0, none⟩ = some (.func (.func 96) #[] #[.pointer (some ⟨c, 0, none⟩)]) →
    Calls Tryd.prog 96 #[.int .i64 m, .slice a l.length cap, .pointer (some ⟨c, 0, none⟩)] w (Out w (Tree.path m l)) := by
  intro f
  induction f with
  | zero => intro l m a cap c w hf _ hm; omega
  | succ f ih =>
    intro l m a cap c w hf hM hm hl hc hA T hcl
    by_cases h1 : l.length = 1
    · rw [h1, Tree.path_small (by omega)]
      exact path1_one m a cap c w
    · obtain ⟨n, hn⟩ : ∃ n, l.length = n := ⟨_, rfl⟩
      have h2 : 2 ≤ n := by omega
      obtain ⟨x, rfl⟩ := hA.pos (by rw [hn]; omega)
      have e := hid (Tree.path_cut (m := m) (l := l) (by rw [hn]; exact h2))
      rw [hn] at e hf hl hm h1 hM ⊢
      have k1 := Tree.sp_lt h2
      have k2 := Tree.sp_pos h2
      have hs : spI (n : Int) = ((Tree.sp n : Nat) : Int) := rfl
      generalize Tree.sp n = k at *
      have l1 : (l.take k).length = k := by rw [List.length_take, hn]; omega
      have l2 : (l.drop k).length = n - k := by rw [List.length_drop, hn]
      have n2 : ((n : Int) == 1) = false := by simp; omega
      have HT := hid T
      have A1 := hid (hA.take k)
      have A2 := hid (hA.drop k)
      by_cases hmk : m < k
      · have b0 : (m : Int) < (k : Int) := by omega
        have c1 := fun w' (h : At w' (some x) (l.take k)) => ih (l.take k) m (some x) k c w' (by omega) (by omega) (by omega) (by omega) (by omega) h
        have c2 := fun w' (h : At w' (some (x.add k)) (l.drop k)) => root_any (l.drop k) (some (x.add k)) (n - k) w' (by omega) (by omega) h
        rw [l1] at c1
        rw [l2] at c2
        have hpl := Tree.path_length _ m (l.take k) (Nat.le_refl _)
        rw [if_pos hmk] at e
        generalize Tree.path m (l.take k) = L at *
        generalize Tree.root (l.drop k) = r at *
        clear hA ih hn T
        go_enter Tryd.func96, Tryd.ntmps96
        go_wp2_with (first
          | (go_at_call 94; refine (split_any (n : Int) (by omega) (by omega) _).mono ?_; rintro e w0 ⟨rfl, rfl⟩; rw [hs])
          | (go_at_call 93; refine (cut_any x n cap k k1 hl _).mono ?_; rintro e wc ⟨rfl, hbc, hhc⟩; have hcl0 := cell_below hcl hbc)
          | (go_at_call 96; refine (c1 _ (A1.out.heap hhc) (HT.out.below hbc HT.out.lt) hcl0).mono ?_; rintro e w1 ⟨v1, rfl, hO1, hw1⟩)
          | (go_at_call 65; refine (c2 _ ((A2.out.heap hhc).below hw1 (Nat.le_refl _)) ((HT.out.below hbc HT.out.lt).below hw1 (HT.out.below hbc HT.out.lt).lt)).mono ?_; rintro e w2 ⟨rfl, hw2⟩; obtain ⟨v3, w3, hap, hO3, hb3⟩ := append_text w2 wc.heap.size v1 L r (hO1.below hw2 (Nat.le_refl _)) (by omega) (Nat.le_trans hw1.size hw2.size); rw [show sv r = Value.string ⟨r.toArray⟩ from rfl] at hap ⊢)
          | (at_builtin; go_must (refine Lib.wpList_append_run _ rfl _ _ 55 55 rfl _ _ rfl rfl _ _ hap ?_)))
        go_ret
        exact ⟨_, rfl, by rw [e.out]; exact hO3.mono hbc.size, hbc.trans (((hw1.trans (hw2.mono hw1.size)).trans hb3).mono hbc.size)⟩
      · have b0 : ¬ (m : Int) < (k : Int) := by omega
        have c1 := fun w' (h : At w' (some (x.add k)) (l.drop k)) => ih (l.drop k) (m - k) (some (x.add k)) (n - k) c w' (by omega) (by omega) (by omega) (by omega) (by omega) h
        have c2 := fun w' (h : At w' (some x) (l.take k)) => root_any (l.take k) (some x) k w' (by omega) (by omega) h
        rw [l2, show ((m - k : Nat) : Int) = (m : Int) - (k : Int) from by omega] at c1
        rw [l1] at c2
        have hpl := Tree.path_length _ (m - k) (l.drop k) (Nat.le_refl _)
        rw [if_neg hmk] at e
        generalize Tree.path (m - k) (l.drop k) = L at *
        generalize Tree.root (l.take k) = r at *
        clear hA ih hn T
        go_enter Tryd.func96, Tryd.ntmps96
        go_wp2_with (first
          | (go_at_call 94; refine (split_any (n : Int) (by omega) (by omega) _).mono ?_; rintro e w0 ⟨rfl, rfl⟩; rw [hs])
          | (go_at_call 93; refine (cut_any x n cap k k1 hl _).mono ?_; rintro e wc ⟨rfl, hbc, hhc⟩; have hcl0 := cell_below hcl hbc)
          | (go_at_call 96; refine (c1 _ (A2.out.heap hhc) (HT.out.below hbc HT.out.lt) hcl0).mono ?_; rintro e w1 ⟨v1, rfl, hO1, hw1⟩)
          | (go_at_call 65; refine (c2 _ ((A1.out.heap hhc).below hw1 (Nat.le_refl _)) ((HT.out.below hbc HT.out.lt).below hw1 (HT.out.below hbc HT.out.lt).lt)).mono ?_; rintro e w2 ⟨rfl, hw2⟩; obtain ⟨v3, w3, hap, hO3, hb3⟩ := append_text w2 wc.heap.size v1 L r (hO1.below hw2 (Nat.le_refl _)) (by omega) (Nat.le_trans hw1.size hw2.size); rw [show sv r = Value.string ⟨r.toArray⟩ from rfl] at hap ⊢)
          | (at_builtin; go_must (refine Lib.wpList_append_run _ rfl _ _ 55 55 rfl _ _ rfl rfl _ _ hap ?_)))
        go_ret
        exact ⟨_, rfl, by rw [e.out]; exact hO3.mono hbc.size, hbc.trans (((hw1.trans (hw2.mono hw1.size)).trans hb3).mono hbc.size)⟩
end Go.Proofs.YtejdecfpegpgcaaDoor

namespace Go.Proofs.YtejdecfpegpgcaaDoor
open Go.RowKit

set_option maxRecDepth 100000 in
set_option maxHeartbeats 400000 in
theorem path_any (l : List (List UInt8)) (m : Nat) (a : Option Addr) (cap : Nat) (w : World) (hM : l.length ≤ 1000000) (hm : m < l.length) (hl : l.length ≤ cap) (hc : cap ≤ 9223372036854775807) (hA : At w a l) (T : Tabs w) :
    Calls Tryd.prog 67 #[.slice a l.length cap, .int .i64 m] w (Out w (Tree.path m l)) := by
  have hmf : ∀ (fn : Fn) (first cap : Array Value) (w : World), (Instr.makeFunc fn first cap).run Tryd.prog w = .ok (.func fn first cap) w := fun _ _ _ _ => rfl
  have hb := (Below.refl w.heap.size w).alloc (Nat.le_refl _) (.cells #[Value.func (.func 96) #[] #[Value.pointer (some ⟨w.heap.size, 0, none⟩)]] 122)
  have hc1 := path1_any _ l m a cap w.heap.size (w.alloc (.cells #[Value.func (.func 96) #[] #[Value.pointer (some ⟨w.heap.size, 0, none⟩)]] 122)) (Nat.le_refl _) hM hm hl hc (hA.below hb (Nat.le_refl _)) (T.below hb T.lt)
    (by rw [cell_of_row _ _ _ _ _ _ (heap_alloc_new w _)]; rfl)
  generalize Tree.path m l = L at *
  generalize l.length = n at *
  clear hA T hc hl
  go_enter Tryd.func67, Tryd.ntmps67
  go_wp2_with (go_at_call 96; refine hc1.mono ?_; rintro e w1 ⟨v1, rfl, hO1, hw1⟩)
  go_ret
  exact ⟨_, rfl, hO1.mono hb.size, hb.trans (hw1.mono (by rw [size_alloc]; omega))⟩
/-- a list of one's own, and a number, come out -/
def Out2 (w : World) (o : List (List UInt8) × Int) (e : Ending) (w' : World) : Prop := ∃ v, e = .returned (.tuple #[v, .int .i64 o.2]) ∧ Own w' w.heap.size v (svs o.1) ∧ Below w.heap.size w w'
/-- T4 -/
def pathOut (l : List (List UInt8)) (m : Int) : List (List UInt8) × Int := if wrg l = 0 then (if 0 ≤ m ∧ m < l.length then (Tree.path m.toNat l, 0) else ([], 30)) else ([], wrg l)
set_option maxRecDepth 100000 in
set_option maxHeartbeats 400000 in
theorem isLeaf_yes (a : Option Addr) (n cap : Nat) (m : Int) (h : 0 ≤ m ∧ m < n) (w : World) :
    Calls Tryd.prog 66 #[.slice a n cap, .int .i64 m] w fun e w' => e = .returned (.bool true) ∧ w' = w := by
  obtain ⟨h1, h2⟩ := h
  go_enter Tryd.func66, Tryd.ntmps66
  go_wp2
  go_ret
  exact ⟨rfl, rfl⟩
set_option maxRecDepth 100000 in
set_option maxHeartbeats 400000 in
theorem isLeaf_no (a : Option Addr) (n cap : Nat) (m : Int) (h : ¬ (0 ≤ m ∧ m < n)) (w : World) :
    Calls Tryd.prog 66 #[.slice a n cap, .int .i64 m] w fun e w' => e = .returned (.bool false) ∧ w' = w := by
  by_cases h1 : 0 ≤ m
  · have h2 : ¬ m < n := fun h2 => h ⟨h1, h2⟩
    clear h
    go_enter Tryd.func66, Tryd.ntmps66
    go_wp2
    go_ret
    exact ⟨rfl, rfl⟩
  · clear h
    go_enter Tryd.func66, Tryd.ntmps66
    go_wp2
    go_ret
    exact ⟨rfl, rfl⟩
theorem wrg_le {l : List (List UInt8)} (h : wrg l = 0) : l.length ≤ 4096 := by
  unfold wrg at h
  split at h
  · omega
  · omega
set_option maxRecDepth 100000 in
set_option maxHeartbeats 400000 in
theorem Path_any (l : List (List UInt8)) (m : Int) (a : Option Addr) (cap : Nat) (w : World) (hl : l.length ≤ cap) (hc : cap ≤ 9223372036854775807) (hA : At w a l) (T : Tabs w) :
    Calls Tryd.prog 33 #[.slice a l.length cap, .int .i64 m] w (Out2 w (pathOut l m)) := by
  have h1 := check_any l a cap w (by omega) hA
  by_cases h : wrg l = 0
  · have h4 := wrg_le h
    rw [h] at h1
    by_cases hm : 0 ≤ m ∧ m < l.length
    · have ho : pathOut l m = (Tree.path m.toNat l, 0) := by rw [pathOut, if_pos h, if_pos hm]
      rw [ho]
      have h2 := path_any l m.toNat a cap w (by omega) (by omega) hl hc hA T
      rw [Int.toNat_of_nonneg hm.1] at h2
      have h3 := isLeaf_yes a l.length cap m hm w
      generalize Tree.path m.toNat l = L at *
      generalize l.length = n at *
      clear h hA T hm ho
      go_enter Tryd.func33, Tryd.ntmps33
      go_wp2_with (first
        | (go_at_call 64; refine h1.mono ?_; rintro e w1 ⟨rfl, rfl⟩)
        | (go_at_call 66; refine h3.mono ?_; rintro e w1 ⟨rfl, rfl⟩)
        | (go_at_call 67; refine h2.mono ?_; rintro e w2 ⟨v2, rfl, hO2, hw2⟩))
      go_ret2
      exact ⟨_, rfl, hO2, hw2⟩
    · have ho : pathOut l m = ([], 30) := by rw [pathOut, if_pos h, if_neg hm]
      rw [ho]
      have h3 := isLeaf_no a l.length cap m hm w
      generalize l.length = n at *
      clear h hA T hm ho
      go_enter Tryd.func33, Tryd.ntmps33
      go_wp2_with (first
        | (go_at_call 64; refine h1.mono ?_; rintro e w1 ⟨rfl, rfl⟩)
        | (go_at_call 66; refine h3.mono ?_; rintro e w1 ⟨rfl, rfl⟩))
      go_ret2
      exact ⟨_, rfl, Own.nil _ _, Below.refl _ _⟩
  · have ho : pathOut l m = ([], wrg l) := by rw [pathOut, if_neg h]
    rw [ho]
    generalize wrg l = z at *
    generalize l.length = n at *
    have b0 : (z != 0) = true := by simpa using h
    clear hA T ho
    go_enter Tryd.func33, Tryd.ntmps33
    go_wp2_with (go_at_call 64; refine h1.mono ?_; rintro e w1 ⟨rfl, rfl⟩)
    go_ret2
    exact ⟨_, rfl, Own.nil _ _, Below.refl _ _⟩
end Go.Proofs.YtejdecfpegpgcaaDoor

namespace Go.Proofs.YtejdecfpegpgcaaDoor
open Go.RowKit

def u8 (c : Int) : UInt8 := UInt8.ofNat (c % 256).toNat
theorem u8_toNat (c : Int) : (((u8 c).toNat : Nat) : Int) = c % 256 := by
  unfold u8
  rw [UInt8.toNat_ofNat']
  omega
/-- the law's leaf of a number -/
def lf (c : Int) : List UInt8 := u8 c :: (List.replicate 30 0 ++ [u8 (c / 256)])
theorem lf_length (c : Int) : (lf c).length = 32 := by simp [lf]
theorem make32 (w : World) : (Instr.makeSlice 56 (.int .i64 32) (.int .i64 32)).run Tryd.prog w = .ok (.slice (some ⟨w.heap.size, 0, none⟩) 32 32) (w.alloc (.cells (bv (List.replicate 32 0)).toArray 5)) := by
  obtain ⟨i0, hi, hz0, hz1, hz2⟩ := info_parts info5'
  have h := run_make (P := Tryd.prog) w 56 5 i0 (.int .u8 0) Tryd.underlying56 hi hz0 .i64 .i64 32 32 (by omega) (by omega) (by rw [hz2]; decide) (by omega)
  rw [hz1] at h
  have e : madeCells (Value.int .u8 0).cells (Int.toNat 32 * 1) = (bv (List.replicate 32 0)).toArray := by
    apply Array.ext'
    have h1 : (madeCells (Value.int .u8 0).cells (Int.toNat 32 * 1)).toList = List.replicate (Int.toNat 32 * 1) (.int .u8 0) := toList_madeCells_one _ _
    rw [h1, bv, List.map_replicate]
    rfl
  rw [e] at h
  exact h
theorem lf_one (c : Int) : (bv (List.replicate 32 0)).toArray.setIfInBounds 0 (.int .u8 (c % 256)) = (bv (u8 c :: List.replicate 31 0)).toArray := by
  rw [← u8_toNat c]; rfl
theorem lf_two (c : Int) : (bv (u8 c :: List.replicate 31 0)).toArray.setIfInBounds 31 (.int .u8 (c / 256 % 256)) = (bv (lf c)).toArray := by
  rw [← u8_toNat (c / 256)]; rfl
end Go.Proofs.YtejdecfpegpgcaaDoor

namespace Go.Proofs.YtejdecfpegpgcaaDoor
open Go.RowKit

theorem split2 (w : World) : Calls Tryd.prog 94 #[.int .i64 2] w fun e w' => e = .returned (.int .i64 1) ∧ w' = w := split_any 2 (by decide) (by decide) w
theorem split3 (w : World) : Calls Tryd.prog 94 #[.int .i64 3] w fun e w' => e = .returned (.int .i64 2) ∧ w' = w := split_any 3 (by decide) (by decide) w
theorem split9 (w : World) : Calls Tryd.prog 94 #[.int .i64 9] w fun e w' => e = .returned (.int .i64 8) ∧ w' = w := split_any 9 (by decide) (by decide) w
theorem sp2 : Tree.sp 2 = 1 := by decide
theorem sp3 : Tree.sp 3 = 2 := by decide
theorem root2 (a b : List UInt8) : Tree.root [a, b] = Tree.nd a b := by
  rw [Tree.root_cut (by simp), show [a, b].length = 2 from rfl, sp2]
  rfl
theorem root3 (a b c : List UInt8) : Tree.root [a, b, c] = Tree.nd (Tree.nd a b) c := by
  rw [Tree.root_cut (by simp), show [a, b, c].length = 3 from rfl, sp3]
  show Tree.nd (Tree.root [a, b]) (Tree.root [c]) = _
  rw [root2, Tree.root_one]
theorem path3 (a b c : List UInt8) : Tree.path 2 [a, b, c] = [Tree.nd a b] := by
  rw [Tree.path_cut (by simp), show [a, b, c].length = 3 from rfl, sp3, if_neg (by omega)]
  show Tree.path 0 [c] ++ [Tree.root [a, b]] = _
  rw [root2, Tree.path_small (by simp)]
  rfl
theorem wrg3 (a b c : List UInt8) (ha : a.length = 32) (hb : b.length = 32) (hc : c.length = 32) : wrg [a, b, c] = 0 := by
  simp [wrg, ha, hb, hc]
theorem at3 (w : World) (a b c : List UInt8) : At (w.alloc (.cells #[sv a, sv b, sv c] 9)) (some ⟨w.heap.size, 0, none⟩) [a, b, c] := fun j p hp => by
  refine ⟨_, rfl, by rw [size_alloc]; exact Nat.lt_succ_self _, ?_⟩
  rw [Addr.add_mid, cell_of_row _ _ _ _ _ _ (heap_alloc_new w _), Nat.zero_add]
  match j, hp with
  | 0, h => obtain rfl := Option.some.inj h; rfl
  | 1, h => obtain rfl := Option.some.inj h; rfl
  | 2, h => obtain rfl := Option.some.inj h; rfl
theorem Root3 (a b c R : List UInt8) (ha : a.length = 32) (hb : b.length = 32) (hc : c.length = 32) (hR : Hid (Tree.nd (Tree.nd a b) c = R)) (x : Addr) (w : World) (hA : At w (some x) [a, b, c]) (T : Tabs w) :
    Calls Tryd.prog 32 #[.slice (some x) 3 3] w fun e w' => e = .returned (.tuple #[sv R, .int .i64 0]) ∧ Below w.heap.size w w' := by
  have h := Root_any [a, b, c] (some x) 3 w (by simp) (by omega) hA T
  rw [rootOut, if_pos (wrg3 a b c ha hb hc), root3, hR.out] at h
  exact h
theorem Path3 (a b c N : List UInt8) (ha : a.length = 32) (hb : b.length = 32) (hc : c.length = 32) (hN : Hid (Tree.nd a b = N)) (x : Addr) (w : World) (hA : At w (some x) [a, b, c]) (T : Tabs w) :
    Calls Tryd.prog 33 #[.slice (some x) 3 3, .int .i64 2] w fun e w' => ∃ y cap, e = .returned (.tuple #[.slice (some y) 1 cap, .int .i64 0]) ∧ w'.cell? y = some (sv N) ∧ y.block < w'.heap.size ∧ Below w.heap.size w w' := by
  have h := Path_any [a, b, c] 2 (some x) 3 w (by simp) (by omega) hA T
  rw [pathOut, if_pos (wrg3 a b c ha hb hc), if_pos (by simp), show Int.toNat 2 = 2 from rfl, path3, hN.out] at h
  refine h.mono ?_
  rintro e w1 ⟨v, rfl, hO, hb1⟩
  rcases hO with ⟨_, hc⟩ | ⟨g, cap, rfl, _, _, _, h4, _, h6⟩
  · simp [svs] at hc
  · exact ⟨_, cap, rfl, h4 0 (sv N) rfl, h6, hb1⟩
theorem svS (l : List UInt8) : sv l = .string ⟨l.toArray⟩ := rfl
end Go.Proofs.YtejdecfpegpgcaaDoor
