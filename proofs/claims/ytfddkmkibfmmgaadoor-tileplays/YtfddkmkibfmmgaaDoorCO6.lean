import Derived.Test.YtfddkmkibfmmgaaDoorCR5
import Derived.Laws.EntriesVeiled
import Derived.Test.YtfddkmkibfmmgaaDoorCK3
namespace Go.Proofs.YtfddkmkibfmmgaaDoor
open Go.RowKit

/-- the closure that calls itself, in its own variable -/
def rootFn (c : Nat) : Value := .func (.func 66) #[] #[.pointer (some ⟨c, 0, none⟩)]
set_option maxRecDepth 100000 in
set_option maxHeartbeats 400000 in
theorem root1_nil (a : Option Addr) (cap c : Nat) (w : World) (T : Tabs w) :
    Calls Tryd.prog 66 #[.slice a 0 cap, .pointer (some ⟨c, 0, none⟩)] w fun e w' => e = .returned (sv (Tree.root [])) ∧ Below w.heap.size w w' := by
  rw [Tree.root_nil]
  have he := empty_any w T
  obtain ⟨D, hD⟩ : ∃ D, Sha.sha [] = D := ⟨_, rfl⟩
  rw [hD] at he ⊢
  clear hD
  go_enter Tryd.func66, Tryd.ntmps66
  go_wp2_with (go_at_call 47; refine he.mono ?_; rintro e w1 ⟨rfl, hw1⟩)
  go_ret
  exact ⟨rfl, hw1⟩
set_option maxRecDepth 100000 in
set_option maxHeartbeats 400000 in
theorem root1_one (p : List UInt8) (a : Option Addr) (cap c : Nat) (w : World) (hA : At w a [p]) :
    Calls Tryd.prog 66 #[.slice a 1 cap, .pointer (some ⟨c, 0, none⟩)] w fun e w' => e = .returned (sv (Tree.root [p])) ∧ Below w.heap.size w w' := by
  rw [Tree.root_one]
  obtain ⟨x, rfl, hx, hc⟩ := hA 0 p rfl
  rw [addr_zero] at hc
  go_enter Tryd.func66, Tryd.ntmps66
  go_wp2
  go_ret
  exact ⟨rfl, Below.refl _ _⟩
theorem cell_below {w w' : World} {c : Nat} {v : Value} (h : w.cell? ⟨c, 0, none⟩ = some v) (hb : Below w.heap.size w w') : w'.cell? ⟨c, 0, none⟩ = some v :=
  (hb.cell (p := ⟨c, 0, none⟩) (block_lt_of_cell h)).trans h
set_option maxRecDepth 100000 in
set_option maxHeartbeats 2000000 in
theorem root1_any : ∀ (f : Nat) (l : List (List UInt8)) (a : Option Addr) (cap c : Nat) (w : World), l.length ≤ f → l.length ≤ cap → cap ≤ 9223372036854775807 → At w a l → Tabs w →
    w.cell? ⟨c, 0, none⟩ = some (.func (.func 66) #[] #[.pointer (some ⟨c, 0, none⟩)]) →
    Calls Tryd.prog 66 #[.slice a l.length cap, .pointer (some ⟨c, 0, none⟩)] w fun e w' => e = .returned (sv (Tree.root l)) ∧ Below w.heap.size w w' := by
  intro f
  induction f with
  | zero =>
    intro l a cap c w hf hl hc hA T hcl
    obtain rfl : l = [] := List.length_eq_zero_iff.1 (by omega)
    exact root1_nil a cap c w T
  | succ f ih =>
    intro l a cap c w hf hl hc hA T hcl
    match l, hf, hl, hA with
    | [], _, _, _ => exact root1_nil a cap c w T
    | [p], _, _, hA => exact root1_one p a cap c w hA
    | p :: q :: t, hf, hl, hA =>
      obtain ⟨n, hn⟩ : ∃ n, (p :: q :: t).length = n := ⟨_, rfl⟩
      have h2 : 2 ≤ n := by rw [← hn]; simp
      obtain ⟨x, rfl⟩ := hA.pos (by rw [hn]; omega)
      have e := hid (Tree.root_cut (l := p :: q :: t) (by rw [hn]; exact h2))
      generalize p :: q :: t = l at *
      rw [hn] at e hf hl ⊢
      have k1 := Tree.sp_lt h2
      have k2 := Tree.sp_pos h2
      have hs : spI (n : Int) = ((Tree.sp n : Nat) : Int) := rfl
      generalize Tree.sp n = k at *
      have l1 : (l.take k).length = k := by rw [List.length_take, hn]; omega
      have l2 : (l.drop k).length = n - k := by rw [List.length_drop, hn]
      have c1 := fun w' (h : At w' (some x) (l.take k)) => ih (l.take k) (some x) k c w' (by omega) (by omega) (by omega) h
      have c2 := fun w' (h : At w' (some (x.add k)) (l.drop k)) => ih (l.drop k) (some (x.add k)) (n - k) c w' (by omega) (by omega) (by omega) h
      rw [l1] at c1
      rw [l2] at c2
      have n1 : ((n : Int) == 0) = false := by simp; omega
      have n2 : ((n : Int) == 1) = false := by simp; omega
      have A1 := hid (hA.take k)
      have A2 := hid (hA.drop k)
      generalize hp1 : Tree.root (l.take k) = r1 at *
      generalize hp2 : Tree.root (l.drop k) = r2 at *
      obtain ⟨m, d, hm⟩ : ∃ m d, Hid (nodeOf r1 r2 = (m, d)) := ⟨_, _, rfl⟩
      have e' := hid (show Tree.root l = m by rw [e.out, ← nodeOf_nd, hm.out])
      have HT := hid T
      clear hA ih hn e hp1 hp2 T
      go_enter Tryd.func66, Tryd.ntmps66
      go_wp2_with (first
        | (go_at_call 68; refine (split_any (n : Int) (by omega) (by omega) _).mono ?_; rintro e w0 ⟨rfl, rfl⟩; rw [hs])
        | (go_at_call 67; refine (cut_any x n cap k k1 hl _).mono ?_; rintro e wc ⟨rfl, hbc, hhc⟩; have hcl0 := cell_below hcl hbc))
      have Bc := hid hbc.drew
      have A1c := hid (A1.out.heap (w' := wc.drew) hhc)
      have A2c := hid (A2.out.heap (w' := wc.drew) hhc)
      have Tc := hid (HT.out.below hbc.drew HT.out.lt)
      have hcl1 : wc.drew.cell? ⟨c, 0, none⟩ = some (.func (.func 66) #[] #[.pointer (some ⟨c, 0, none⟩)]) := hcl0
      clear hbc hhc A1 A2 HT hcl hcl0
      go_region_with (first
        | (go_at_call 66; with_reducible refine (c1 _ A1c.out Tc.out hcl1).mono ?_; rintro e w1 ⟨rfl, hw1⟩; have hcl2 := cell_below hcl1 hw1)
        | (go_at_call 66; with_reducible refine (c2 _ (A2c.out.below hw1 (Nat.le_refl _)) (Tc.out.below hw1 Tc.out.lt) hcl2).mono ?_; rintro e w2 ⟨rfl, hw2⟩)
        | (go_at_call 12; refine (node_at hm _ ((Tc.out.below hw1 Tc.out.lt).below hw2 (Tc.out.below hw1 Tc.out.lt).lt)).mono ?_; rintro e w3 ⟨rfl, hw3⟩))
      all_goals
        have s1 := hw1.size
        have s2 := hw2.size
        have s3 := Bc.out.size
        have Bf := hid (((Bc.out.trans (hw1.mono (by omega))).trans (hw2.mono (by omega))).trans (hw3.mono (by omega)))
        clear hw1 hw2 hw3 s1 s2 s3 Bc
        go_wp2
        go_ret
        exact ⟨by rw [e'.out]; rfl, Bf.out⟩
end Go.Proofs.YtfddkmkibfmmgaaDoor

namespace Go.Proofs.YtfddkmkibfmmgaaDoor
open Go.RowKit

set_option maxRecDepth 100000 in
set_option maxHeartbeats 400000 in
/-- the program's root -/
theorem root_any (l : List (List UInt8)) (a : Option Addr) (cap : Nat) (w : World) (hl : l.length ≤ cap) (hc : cap ≤ 9223372036854775807) (hA : At w a l) (T : Tabs w) :
    Calls Tryd.prog 41 #[.slice a l.length cap] w fun e w' => e = .returned (sv (Tree.root l)) ∧ Below w.heap.size w w' := by
  have hmf : ∀ (fn : Fn) (first cap : Array Value) (w : World), (Instr.makeFunc fn first cap).run Tryd.prog w = .ok (.func fn first cap) w := fun _ _ _ _ => rfl
  generalize hn : l.length = n at *
  go_enter Tryd.func41, Tryd.ntmps41
  have hb := (Below.refl w.heap.size w).alloc (Nat.le_refl _) (.cells #[Value.func (.func 66) #[] #[Value.pointer (some ⟨w.heap.size, 0, none⟩)]] 85)
  have hc1 := root1_any n l a cap w.heap.size (w.alloc (.cells #[Value.func (.func 66) #[] #[Value.pointer (some ⟨w.heap.size, 0, none⟩)]] 85)) (by omega) (by omega) hc (hA.below hb (Nat.le_refl _)) (T.below hb T.lt)
    (by rw [cell_of_row _ _ _ _ _ _ (heap_alloc_new w _)]; rfl)
  rw [hn] at hc1
  clear hn hA T hc hl
  go_wp2_with (go_at_call 66; refine hc1.mono ?_; rintro e w1 ⟨rfl, hw1⟩)
  go_ret
  exact ⟨rfl, hb.trans (hw1.mono (by rw [size_alloc]; omega))⟩

/-- T2 -/
def wrg (l : List (List UInt8)) : Int := if 4096 < l.length then 31 else if l.all (·.length == 32) then 0 else 32
theorem all_take (l : List (List UInt8)) (k : Nat) (hk : k < l.length) (h : (l.take k).all (·.length == 32) = true) (h2 : (l[k]).length = 32) : (l.take (k + 1)).all (·.length == 32) = true := by
  rw [List.take_succ_eq_append_getElem hk, List.all_append, h]
  simp [h2]
theorem all_not (l : List (List UInt8)) (k : Nat) (hk : k < l.length) (h2 : ¬ (l[k]).length = 32) : l.all (·.length == 32) = false := by
  rw [List.all_eq_false]
  exact ⟨l[k], List.getElem_mem hk, by simpa using h2⟩
set_option maxRecDepth 100000 in
set_option maxHeartbeats 400000 in
theorem check_any (l : List (List UInt8)) (a : Option Addr) (cap : Nat) (w : World) (hc : l.length ≤ 9223372036854775807) (hA : At w a l) :
    Calls Tryd.prog 40 #[.slice a l.length cap] w fun e w' => e = .returned (.int .i64 (wrg l)) ∧ w' = w := by
  generalize hn : l.length = n at *
  by_cases h1 : 4096 < n
  · have h' : (4096 : Int) < (n : Int) := by omega
    go_enter Tryd.func40, Tryd.ntmps40
    go_wp2
    go_ret
    exact ⟨by rw [wrg, if_pos (by omega)]; rfl, rfl⟩
  · have h' : ¬ (4096 : Int) < (n : Int) := by omega
    have HA := hid hA
    have e1 := hid (show wrg l = if l.all (·.length == 32) then 0 else 32 by rw [wrg, if_neg (by omega)])
    clear hA
    go_enter Tryd.func40, Tryd.ntmps40
    go_wp2
    go_loopw [10] (fun i w' => ∃ k : Nat, k ≤ n ∧ i = .int .i64 (k : Int) ∧ Hid ((l.take k).all (·.length == 32) = true) ∧ w' = w) (fun i _ => n - (intOf i).toNat)
    case atStart => exact ⟨0, by omega, rfl, rfl, rfl⟩
    case round =>
      obtain ⟨k, hk, rfl, hall, rfl⟩ := hrel
      by_cases hkn : k < n
      · have b0 : (k : Int) < (n : Int) := by omega
        obtain ⟨x, rfl⟩ := HA.out.pos (by omega)
        obtain ⟨s, hs, hcell⟩ := HA.out.cell k (by omega)
        by_cases h32 : s.size = 32
        · have b1 : ((s.size : Int) != 32) = false := by simp; omega
          have e2 := hid (all_take l k (by omega) hall.out (by rw [← hs.out, data_length]; exact h32))
          clear HA
          go_wp2
          exact ⟨⟨k + 1, by omega, by go_num, e2, trivial⟩, by simp [intOf]; omega⟩
        · have b1 : ((s.size : Int) != 32) = true := by simp; omega
          have e2 := hid (all_not l k (by omega) (by rw [← hs.out, data_length]; exact h32))
          clear HA
          go_wp2
          go_ret
          exact ⟨by rw [e1.out, e2.out]; rfl, rfl⟩
      · obtain rfl : k = n := by omega
        have b0 : ¬ (k : Int) < (k : Int) := by omega
        rw [← hn, List.take_length] at hall
        go_wp2
        go_ret
        exact ⟨by rw [e1.out, hall.out]; rfl, rfl⟩
/-- T3 -/
def rootOut (l : List (List UInt8)) : List UInt8 × Int := if wrg l = 0 then (Tree.root l, 0) else ([], wrg l)
set_option maxRecDepth 100000 in
set_option maxHeartbeats 400000 in
theorem Root_any (l : List (List UInt8)) (a : Option Addr) (cap : Nat) (w : World) (hl : l.length ≤ cap) (hc : cap ≤ 9223372036854775807) (hA : At w a l) (T : Tabs w) :
    Calls Tryd.prog 18 #[.slice a l.length cap] w fun e w' => e = .returned (.tuple #[sv (rootOut l).1, .int .i64 (rootOut l).2]) ∧ Below w.heap.size w w' := by
  have h1 := check_any l a cap w (by omega) hA
  have h2 := root_any l a cap w hl hc hA T
  generalize l.length = n at *
  unfold rootOut
  generalize Tree.root l = r at *
  by_cases h : wrg l = 0
  · rw [if_pos h]
    rw [h] at h1
    clear h hA T
    go_enter Tryd.func18, Tryd.ntmps18
    go_wp2_with (first
      | (go_at_call 40; refine h1.mono ?_; rintro e w1 ⟨rfl, rfl⟩)
      | (go_at_call 41; refine h2.mono ?_; rintro e w2 ⟨rfl, hw2⟩))
    go_ret2
    exact ⟨rfl, hw2⟩
  · rw [if_neg h]
    generalize wrg l = z at *
    have b0 : (z != 0) = true := by simpa using h
    clear hA T h2
    go_enter Tryd.func18, Tryd.ntmps18
    go_wp2_with (go_at_call 40; refine h1.mono ?_; rintro e w1 ⟨rfl, rfl⟩)
    go_ret2
    exact ⟨rfl, Below.refl _ _⟩
end Go.Proofs.YtfddkmkibfmmgaaDoor

namespace Go.Proofs.YtfddkmkibfmmgaaDoor.Tree
theorem path_length : ∀ (f m : Nat) (l : List T), l.length ≤ f → (path m l).length ≤ l.length
  | 0, m, l, h => by rw [path_small (by omega)]; simp
  | f + 1, m, l, h => by
    by_cases h2 : l.length < 2
    · rw [path_small h2]; simp
    · have a := sp_lt (n := l.length) (by omega)
      have b := sp_pos (n := l.length) (by omega)
      rw [path_cut (by omega)]
      split
      · have := path_length f m (l.take (sp l.length)) (by simp; omega)
        simp at *; omega
      · have := path_length f (m - sp l.length) (l.drop (sp l.length)) (by simp; omega)
        simp at *; omega
theorem proof_length : ∀ (f m : Nat) (l : List T) (whole : Bool), l.length ≤ f → 1 ≤ m → m ≤ l.length → (proof m l whole).length ≤ l.length
  | 0, m, l, _, h, h1, h2 => by omega
  | f + 1, m, l, whole, h, h1, h2 => by
    by_cases he : m = l.length
    · subst he
      cases whole
      · rw [proof_part h1]; simpa using h1
      · rw [proof_whole h1]; simp
    · have a := sp_lt (n := l.length) (by omega)
      have b := sp_pos (n := l.length) (by omega)
      by_cases hk : m ≤ sp l.length
      · rw [proof_left h1 (by omega) hk]
        have := proof_length f m (l.take (sp l.length)) whole (by simp; omega) h1 (by simp; omega)
        simp at *; omega
      · rw [proof_right h1 (by omega) hk]
        have := proof_length f (m - sp l.length) (l.drop (sp l.length)) false (by simp; omega) (by omega) (by simp; omega)
        simp at *; omega
theorem many_length : ∀ (f : Nat) (is : List Nat) (b : Nat) (l : List T), l.length ≤ f → 1 ≤ l.length → (many is b l).length ≤ l.length
  | 0, is, b, l, h, h1 => by omega
  | f + 1, is, b, l, h, h1 => by
    by_cases hi : is = []
    · subst hi; rw [many_none h1]; simpa using h1
    · by_cases h2 : l.length = 1
      · rw [many_one hi h2]; simp
      · have x := sp_lt (n := l.length) (by omega)
        have y := sp_pos (n := l.length) (by omega)
        rw [many_cut hi (by omega)]
        have := many_length f (is.filter (· < b + sp l.length)) b (l.take (sp l.length)) (by simp; omega) (by simp; omega)
        have := many_length f (is.filter (b + sp l.length ≤ ·)) (b + sp l.length) (l.drop (sp l.length)) (by simp; omega) (by simp; omega)
        simp at *; omega
end Go.Proofs.YtfddkmkibfmmgaaDoor.Tree
namespace Go.Proofs.YtfddkmkibfmmgaaDoor
open Go.RowKit
def svs (L : List (List UInt8)) : List Value := L.map sv
theorem svs_length (L : List (List UInt8)) : (svs L).length = L.length := by simp [svs]
theorem infoS : (Tryd.prog.info? 9).map (fun i => (i.zero, i.size, i.bytes)) = some (some (.string ⟨#[]⟩), 1, 16) := by kernel_rfl
/-- append(l, s) -/
theorem append_text (w : World) (base : Nat) (v : Value) (L : List (List UInt8)) (p : List UInt8) (hown : Own w base v (svs L)) (hlen : L.length ≤ 2000000) (hbase : base ≤ w.heap.size) :
    ∃ v' w', (Builtin.append_ #[33, 33] 33 #[v, .slice (some ⟨w.heap.size, 0, none⟩) 1 1]).run Tryd.prog (w.alloc (.cells #[sv p] 9)) = .ok v' w' ∧ Own w' base v' (svs (L ++ [p])) ∧ Below base w w' := by
  obtain ⟨i0, hi, hz0, hz1, hz2⟩ := info_parts infoS
  have hsrc : Src Tryd.prog 1 33 (.slice (some ⟨w.heap.size, 0, none⟩) 1 1) 1 [sv p] (w.alloc (.cells #[sv p] 9)) :=
    Src.ofSlice _ Tryd.underlying33 ⟨w.heap.size, 0, none⟩ 1 1 [sv p] (by simp) (fun j u hj => by
      rw [Addr.add_mid, cell_of_row _ _ _ _ _ _ (heap_alloc_new w _), Nat.zero_add]; simpa using hj) (fun u hu => by simp at hu; subst hu; rfl)
  obtain ⟨v', w', h1, h2, h3, h4⟩ := run_append_O (P := Tryd.prog) (w.alloc (.cells #[sv p] 9)) base 33 33 33 9 i0 (.string ⟨#[]⟩) Tryd.underlying33 hi hz0 hz1 rfl v (svs L) (hown.alloc _) _ 1 [sv p] hsrc
    (by rw [svs_length, hz2]; omega) (by rw [svs_length, maxLen]; omega) (by rw [size_alloc]; omega) (fun _ => by omega)
  refine ⟨v', w', h1, by simpa [svs] using h2, ?_⟩
  exact ((Below.refl base w).alloc hbase _).trans (Below.ofGrown h3 hown.ge (by rw [size_alloc]; omega))

/-- a list of one's own comes out -/
def Out (w : World) (L : List (List UInt8)) (e : Ending) (w' : World) : Prop := ∃ v, e = .returned v ∧ Own w' w.heap.size v (svs L) ∧ Below w.heap.size w w'
end Go.Proofs.YtfddkmkibfmmgaaDoor

namespace Go.Proofs.YtfddkmkibfmmgaaDoor
open Go.RowKit
theorem svs_one' {L : List (List UInt8)} {v : Value} (h : v ∈ svs L) : v.oneCell' = true := by
  simp only [svs, List.mem_map] at h
  obtain ⟨n, _, rfl⟩ := h
  rfl
/-- a row of texts -/
def Row (w : World) (H : Nat) (L : List (List UInt8)) : Prop := w.heap[H]? = some (.cells (svs L).toArray 9 (0, 0))
theorem Row.lt {w : World} {H : Nat} {L : List (List UInt8)} (h : Row w H L) : H < w.heap.size := lt_of_heap h
theorem Row.cell {w : World} {H : Nat} {L : List (List UInt8)} (h : Row w H L) {j : Nat} {p : List UInt8} (hp : L[j]? = some p) : w.cell? ⟨H, j, none⟩ = some (sv p) := by
  rw [cell_of_row _ _ _ _ _ _ h]; simp [svs, hp]
theorem Row.at {w : World} {H : Nat} {L : List (List UInt8)} (h : Row w H L) : At w (some ⟨H, 0, none⟩) L := fun j p hp => ⟨_, rfl, h.lt, by rw [Addr.add_mid, Nat.zero_add]; exact h.cell hp⟩
theorem Row.free {w : World} {H : Nat} {L : List (List UInt8)} (h : Row w H L) {j : Nat} (hj : j < L.length) : w.frozen? ⟨H, j, none⟩ = false := by
  have := (there_of_row h 0 L.length (by simp [svs])) j hj
  rw [Nat.zero_add] at this
  exact this.2
theorem Row.below {w w' : World} {H B : Nat} {L : List (List UInt8)} (h : Row w H L) (hb : Below B w w') (hB : H < B) : Row w' H L := by
  unfold Row; rw [hb.block H hB]; exact h
theorem Row.heap {w w' : World} {H : Nat} {L : List (List UInt8)} (h : Row w H L) (e : w'.heap = w.heap) : Row w' H L := by
  unfold Row; rw [e]; exact h
theorem Row.set {w : World} {H : Nat} {L : List (List UInt8)} (h : Row w H L) (k : Nat) (x : List UInt8) : Row (w.setCell ⟨H, k, none⟩ (sv x)) H (L.set k x) := by
  have e := setCell_eq_setRow w H k (svs L).toArray 9 (0, 0) (sv x) h
  unfold Row
  rw [e, setRow_heap _ _ _ _ _ _ h]
  refine congrArg (fun A => some (Obj.cells A 9 (0, 0))) ?_
  simp [svs, List.map_set]
theorem infoS1 : (Tryd.prog.info? 9).map (·.size) = some 1 := by kernel_rfl
/-- make([]string, c) -/
theorem make_texts (w : World) (c : Nat) (hc : c ≤ 8796093021960) :
    (Instr.makeSlice 33 (.int .i64 (c : Int)) (.int .i64 (c : Int))).run Tryd.prog w = .ok (.slice (some ⟨w.heap.size, 0, none⟩) c c) (w.alloc (.cells (svs (List.replicate c [])).toArray 9)) := by
  obtain ⟨i0, hi, hz0, hz1, hz2⟩ := info_parts infoS
  have h := run_make (P := Tryd.prog) w 33 9 i0 (.string ⟨#[]⟩) Tryd.underlying33 hi hz0 .i64 .i64 (c : Int) (c : Int) (by omega) (by omega) (by rw [hz2]; omega) (by omega)
  rw [Int.toNat_natCast, hz1, Nat.mul_one] at h
  have e : madeCells (Value.string ⟨#[]⟩).cells c = (svs (List.replicate c [])).toArray := by
    apply Array.ext'
    rw [show (madeCells (Value.string ⟨#[]⟩).cells c).toList = List.replicate c (.string ⟨#[]⟩) from toList_madeCells_one _ _]
    simp [svs]; exact .inr rfl
  rw [e] at h
  exact h
/-- copy(own, l) -/
theorem copy_texts (w : World) (H : Nat) (a : Option Addr) (cap' : Nat) (ps rest : List (List UInt8)) (hs : At w a ps) (hR : Row w H (List.replicate ps.length [] ++ rest)) (m cap : Nat) (hm : m = ps.length + rest.length) :
    ∃ w', (Builtin.copy_ #[33, 33] 3 #[.slice (some ⟨H, 0, none⟩) m cap, .slice a ps.length cap']).run Tryd.prog w = .ok (goInt ps.length) w' ∧ Row w' H (ps ++ rest) ∧ But H w w' := by
  by_cases h0 : ps.length = 0
  · obtain rfl : ps = [] := List.length_eq_zero_iff.1 h0
    exact ⟨w, run_copy_none (P := Tryd.prog) w _ _ _ 9 _ _ _ _ _ _ Tryd.underlying33 infoS1 (by simp), by simpa using hR, But.refl _ _⟩
  · obtain ⟨x, rfl, hx, _⟩ := hs 0 _ (List.getElem?_eq_getElem (by omega))
    have h := run_copy_row (P := Tryd.prog) w 33 33 3 9 H 0 m cap x ps.length cap' _ 9 (svs ps) Tryd.underlying33 infoS1 hR
      (by rw [svs_length]; exact (Nat.min_eq_left (by omega)).symm) (fun j u hu => by
        simp only [svs, List.getElem?_map, Option.map_eq_some_iff] at hu
        obtain ⟨p, hp, rfl⟩ := hu
        obtain ⟨y, hy, _, hc⟩ := hs j p hp
        cases hy
        exact hc) (by simp [svs]) (fun u hu => svs_one' hu)
    refine ⟨_, h.trans (by rw [svs_length]), ?_, (But.refl _ _).setRow _⟩
    unfold Row
    rw [setRow_heap _ _ _ _ _ _ hR]
    refine congrArg (fun A => some (Obj.cells A 9 (0, 0))) ?_
    simp [svs]
end Go.Proofs.YtfddkmkibfmmgaaDoor

namespace Go.Proofs.YtfddkmkibfmmgaaDoor
open Go.RowKit
set_option maxRecDepth 100000 in
theorem fisHash_is (s : ByteArray) (q : Bool) (h : ((s.size : Int) == 32) = q) (w : World) : Calls Tryd.prog 44 #[.string s] w fun r w' => r = .returned (.bool q) ∧ w' = w := by
  go_enter Tryd.func44, Tryd.ntmps44
  go_wp2
  go_ret
  exact ⟨rfl, rfl⟩
/-- are all of 32 bytes? -/
def hsB (l : List (List UInt8)) : Bool := l.all (·.length == 32)
set_option maxRecDepth 100000 in
set_option maxHeartbeats 2000000 in
theorem fnode_any {l r m : List UInt8} (h : Hid (Tree.nd l r = m)) (w : World) (T : Tabs w) :
    Calls Tryd.prog 69 #[sv l, sv r] w fun e w' => e = .returned (sv m) ∧ Below w.heap.size w w' := by
  obtain ⟨m', d, hm⟩ : ∃ m' d, Hid (nodeOf l r = (m', d)) := ⟨_, _, rfl⟩
  have e' := hid (show m = m' by rw [← h.out, ← nodeOf_nd, hm.out])
  go_enter Tryd.func69, Tryd.ntmps69
  go_wp2_with (go_at_call 12; refine (node_at hm _ T).mono ?_; rintro e w1 ⟨rfl, hw1⟩)
  go_ret
  exact ⟨by rw [e'.out]; rfl, hw1⟩
/-- make(nodeList, c) -/
theorem make_nodes (w : World) (c : Nat) (hc : c ≤ 8796093021960) :
    (Instr.makeSlice 86 (.int .i64 (c : Int)) (.int .i64 (c : Int))).run Tryd.prog w = .ok (.slice (some ⟨w.heap.size, 0, none⟩) c c) (w.alloc (.cells (svs (List.replicate c [])).toArray 9)) := by
  obtain ⟨i0, hi, hz0, hz1, hz2⟩ := info_parts infoS
  have h := run_make (P := Tryd.prog) w 86 9 i0 (.string ⟨#[]⟩) Tryd.underlying86 hi hz0 .i64 .i64 (c : Int) (c : Int) (by omega) (by omega) (by rw [hz2]; omega) (by omega)
  rw [Int.toNat_natCast, hz1, Nat.mul_one] at h
  have e : madeCells (Value.string ⟨#[]⟩).cells c = (svs (List.replicate c [])).toArray := by
    apply Array.ext'
    rw [show (madeCells (Value.string ⟨#[]⟩).cells c).toList = List.replicate c (.string ⟨#[]⟩) from toList_madeCells_one _ _]
    simp [svs]; exact .inr rfl
  rw [e] at h
  exact h
theorem copy_nodes (w : World) (H : Nat) (a : Option Addr) (cap' : Nat) (ps : List (List UInt8)) (hs : At w a ps) (hR : Row w H (List.replicate ps.length [])) (cap : Nat) :
    ∃ w', (Builtin.copy_ #[86, 86] 3 #[.slice (some ⟨H, 0, none⟩) ps.length cap, .slice a ps.length cap']).run Tryd.prog w = .ok (goInt ps.length) w' ∧ Row w' H ps ∧ But H w w' := by
  by_cases h0 : ps.length = 0
  · obtain rfl : ps = [] := List.length_eq_zero_iff.1 h0
    exact ⟨w, run_copy_none (P := Tryd.prog) w _ _ _ 9 _ _ _ _ _ _ Tryd.underlying86 infoS1 (by simp), by simpa using hR, But.refl _ _⟩
  · obtain ⟨x, rfl, hx, _⟩ := hs 0 _ (List.getElem?_eq_getElem (by omega))
    have h := run_copy_row (P := Tryd.prog) w 86 86 3 9 H 0 ps.length cap x ps.length cap' _ 9 (svs ps) Tryd.underlying86 infoS1 hR
      (by rw [svs_length]; exact (Nat.min_eq_left (by omega)).symm) (fun j u hu => by
        simp only [svs, List.getElem?_map, Option.map_eq_some_iff] at hu
        obtain ⟨p, hp, rfl⟩ := hu
        obtain ⟨y, hy, _, hc⟩ := hs j p hp
        cases hy
        exact hc) (by simp [svs]) (fun u hu => svs_one' hu)
    refine ⟨_, h.trans (by rw [svs_length]), ?_, (But.refl _ _).setRow _⟩
    unfold Row
    rw [setRow_heap _ _ _ _ _ _ hR]
    refine congrArg (fun A => some (Obj.cells A 9 (0, 0))) ?_
    simp [svs]
theorem fold_drop {H : List (List UInt8)} {j j' : Nat} (hj : j' = j + 1) (h : j + 1 < H.length) : Cut.fold (H.drop j) = Tree.nd (H[j]'(by omega)) (Cut.fold (H.drop j')) := by
  subst hj
  rw [List.drop_eq_getElem_cons (by omega), List.drop_eq_getElem_cons h]
  rfl
theorem fold_last {H : List (List UInt8)} {j : Nat} (h : j + 1 = H.length) : Cut.fold (H.drop j) = (H[j]'(by omega)) := by
  rw [List.drop_eq_getElem_cons (by omega), List.drop_eq_nil_of_le (by omega)]
  rfl
set_option maxRecDepth 100000 in
set_option maxHeartbeats 4000000 in
theorem froot_any (H : List (List UInt8)) (a : Option Addr) (cap : Nat) (w : World) (hn : H.length ≤ 8796093021952) (hA : At w a H) (T : Tabs w) :
    Calls Tryd.prog 43 #[.slice a H.length cap] w fun e w' => e = .returned (sv (Cut.fold H)) ∧ Below w.heap.size w w' := by
  obtain ⟨F, hF⟩ : ∃ F, Hid (Cut.fold H = F) := ⟨_, rfl⟩
  rw [hF.out]
  have HT := hid T
  have hT := T.lt
  by_cases h0 : H.length = 0
  · obtain rfl : H = [] := List.length_eq_zero_iff.1 h0
    have he := empty_any w T
    have e0 := hid (show Sha.sha [] = F from hF.out)
    rw [e0.out] at he
    show Calls _ _ #[.slice a 0 cap] _ _
    go_enter Tryd.func43, Tryd.ntmps43
    go_wp2_with (go_at_call 47; refine he.mono ?_; rintro e w1 ⟨rfl, hw1⟩)
    go_ret
    exact ⟨rfl, hw1⟩
  · obtain ⟨m, hm⟩ : ∃ m, H.length = m + 1 := ⟨H.length - 1, by omega⟩
    obtain ⟨y, rfl⟩ := hA.pos (by omega)
    obtain ⟨s, hs, hcell⟩ := hA.cell m (by omega)
    have hfl := hid (fold_last (H := H) (j := m) hm.symm)
    have HA := hid hA
    have Hm := hid hm
    have b1 : (((m + 1 : Nat) : Int) == 0) = false := by simp; omega
    have b2 : ((m + 1 : Nat) : Int) - 1 = (m : Int) := by omega
    have b3 : (m : Int) < ((m + 1 : Nat) : Int) := by omega
    have es := hid (show (.string s : Value) = sv (Cut.fold (H.drop m)) by rw [hfl.out, ← hs.out]; cases s; rfl)
    rw [hm] at hn ⊢
    clear hA T hs hm h0 hfl
    generalize hk : m + 1 = k at *
    go_enter Tryd.func43, Tryd.ntmps43
    go_wp2
    go_loopw [18, 4] (fun i r w' => ∃ j : Nat, j ≤ m ∧ i = .int .i64 (j : Int) ∧ r = sv (Cut.fold (H.drop (m - j))) ∧ Hid (Below w.heap.size w w')) (fun i _ _ => m - (intOf i).toNat)
    case atStart => exact ⟨0, by omega, rfl, es.out, Below.refl _ _⟩
    case round =>
      clear es
      obtain ⟨j, hj, rfl, rfl, hB⟩ := hrel
      by_cases hjm : j < m
      · have b0 : (j : Int) < (m : Int) := by omega
        have A1 := HA.out.below hB.out (Nat.le_refl _)
        obtain ⟨s, hs, hcell⟩ := A1.cell (m - 1 - j) (by have := Hm.out; omega)
        obtain ⟨N, hN⟩ : ∃ N, Hid (Cut.fold (H.drop (m - (j + 1))) = N) := ⟨_, rfl⟩
        have hnd : Hid (Tree.nd s.data.toList (Cut.fold (H.drop (m - j))) = N) := by
          unfold Hid
          have hd := fold_drop (H := H) (j := m - 1 - j) (j' := m - j) (by omega) (by have := Hm.out; omega)
          rw [hs.out, ← hN.out, show m - (j + 1) = m - 1 - j from by omega, hd]
        have i1 := fun w' T => fnode_any (l := s.data.toList) hnd w' T
        rw [show sv s.data.toList = .string s from by cases s; rfl] at i1
        have T1 := HT.out.below hB.out hT
        obtain ⟨u, hu⟩ : ∃ u : Nat, m - 1 - j = u := ⟨_, rfl⟩
        have u1 : (m : Int) - 1 - (j : Int) = (u : Int) := by omega
        have u2 : (u : Int) < (k : Int) := by omega
        rw [hu] at hcell
        generalize Cut.fold (H.drop (m - j)) = R at *
        clear hs hnd A1 HA
        go_wp2_with (go_at_call 69; refine (i1 _ T1).mono ?_; rintro e w2 ⟨rfl, hw2⟩)
        exact ⟨⟨j + 1, by omega, by go_num, by rw [hN.out], hid (hB.out.trans (hw2.mono hB.out.size))⟩, by simp [intOf]; omega⟩
      · obtain rfl : j = m := by omega
        have b0 : ¬ (j : Int) < (j : Int) := by omega
        clear HA
        go_wp2
        go_ret
        exact ⟨by rw [← hF.out]; rfl, hB.out⟩
end Go.Proofs.YtfddkmkibfmmgaaDoor
