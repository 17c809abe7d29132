import Derived.Test.YtbodgecbakcaaaaGreatDoorPkSP15
import Derived.Test.YtbodgecbakcaaaaGreatDoorPkO23
import Derived.Test.YtbodgecbakcaaaaGreatDoorPkFR1
import Derived.Test.YtbodgecbakcaaaaGreatDoorPkR5
import Derived.Test.YtbodgecbakcaaaaGreatDoorPkFS1
import Derived.Test.YtbodgecbakcaaaaGreatDoorPkSP7
import Derived.Test.YtbodgecbakcaaaaGreatDoorPkBM1
namespace Go.Proofs.YtbodgecbakcaaaaGreatDoor
open Go.RowKit Go.Shelf
def batchE (n : Int) (l : List Int) : Int :=
  if 1 ≤ n ∧ n ≤ 1099511627776 then (if l.length = 0 ∨ 256 < l.length then 83 else if rsgB l = true then (if 0 ≤ l.getD 0 0 ∧ l.getD 0 0 < n then (if 0 ≤ l.getD (l.length - 1) 0 ∧ l.getD (l.length - 1) 0 < n then 0 else 80) else 80) else 82) else 81
def batchL (n : Int) (l : List Int) : List (Nat × Nat) := if batchE n l = 0 then Tree.othF n.toNat 0 n.toNat (toN l) else []
theorem getD_at {l : List Int} {k : Nat} (h : k < l.length) : l.getD k 0 = l[k] := by simp [List.getD, h]
structure BatOk (n : Int) (l : List Int) : Prop where
  n1 : 1 ≤ n
  n2 : n ≤ 1099511627776
  l1 : 0 < l.length
  l2 : l.length ≤ 256
  so : l.Pairwise (· < ·)
  f0 : 0 ≤ l.getD 0 0
  fn : l.getD 0 0 < n
  e0 : 0 ≤ l.getD (l.length - 1) 0
  en : l.getD (l.length - 1) 0 < n
theorem batchE_ok {n : Int} {l : List Int} (h : BatOk n l) : batchE n l = 0 := by
  unfold batchE
  rw [if_pos ⟨h.n1, h.n2⟩, if_neg (by have := h.l1; have := h.l2; omega), if_pos (by unfold rsgB; exact decide_eq_true h.so), if_pos ⟨h.f0, h.fn⟩, if_pos ⟨h.e0, h.en⟩]
theorem BatOk.of {n : Int} {l : List Int} (h : batchE n l = 0) : BatOk n l := by
  unfold batchE at h
  split at h
  · rename_i h1
    split at h
    · cases h
    · rename_i h2
      split at h
      · rename_i h3
        split at h
        · rename_i h4
          split at h
          · rename_i h5
            exact ⟨h1.1, h1.2, by omega, by omega, of_decide_eq_true h3, h4.1, h4.2, h5.1, h5.2⟩
          · cases h
        · cases h
      · cases h
  · cases h
theorem BatOk.all {n : Int} {l : List Int} (h : BatOk n l) : ∀ i ∈ l, 0 ≤ i ∧ i < n := fun i hi => by
  obtain ⟨k, hk, rfl⟩ := List.mem_iff_getElem.1 hi
  have f0 := h.f0
  have en := h.en
  have l1 := h.l1
  rw [getD_at h.l1] at f0
  rw [getD_at (show l.length - 1 < l.length by omega)] at en
  have hp := List.pairwise_iff_getElem.1 h.so
  constructor
  · by_cases e : 0 = k
    · subst e; exact f0
    · have := hp 0 k h.l1 hk (by omega); omega
  · by_cases e : k = l.length - 1
    · subst e; exact en
    · have := hp k (l.length - 1) hk (by omega) (by omega); omega
theorem BatOk.ix {n : Int} {l : List Int} (h : BatOk n l) : ix (toN l) = l := by
  refine List.ext_getElem? fun k => ?_
  unfold Go.Proofs.YtbodgecbakcaaaaGreatDoor.ix toN
  rw [List.getElem?_map, List.getElem?_map]
  cases hk : l[k]? with
  | none => rfl
  | some x =>
    have := h.all x (List.mem_of_getElem? hk)
    simp only [Option.map_some]
    rw [Int.toNat_of_nonneg this.1]
theorem BatOk.sorted {n : Int} {l : List Int} (h : BatOk n l) : (toN l).Pairwise (· < ·) := by
  unfold toN
  rw [List.pairwise_map]
  refine h.so.imp_of_mem fun {a b} ha hb hab => ?_
  have := h.all a ha
  have := h.all b hb
  omega
theorem BatOk.len {n : Int} {l : List Int} (_ : BatOk n l) : (toN l).length = l.length := by unfold toN; rw [List.length_map]
def OneV (v : Value) : Prop := ∃ a n c, v = .slice a n c
theorem SpP.bad {w w' : World} {c : Int} (hb : Below w.heap.size w w') : SpP w c [] (.returned (.tuple #[.slice none 0 0, .int .i64 c])) w' := ⟨hb, _, rfl, OwnM.nil 2 _, fun k hk => by cases hk⟩
set_option maxRecDepth 100000 in
set_option maxHeartbeats 4000000 in
theorem batch8_walk (N L K cap : Nat) (x : Addr) (y0 y1 : Int) (R : List (Nat × Nat)) (w : World) (h1 : 1 ≤ L) (h2 : L ≤ 256) (hK : Hid (L - 1 = K)) (c0 : w.cell? x = some (.int .i64 y0)) (c1 : w.cell? (x.add K) = some (.int .i64 y1)) (hx : x.block < w.heap.size)
    (i1 : ∀ w', Calls Tryz.prog 66 #[.int .i64 (N : Int)] w' fun r w'' => r = .returned (.bool true) ∧ w'' = w')
    (i2 : Calls Tryz.prog 67 #[.slice (some x) L cap] w fun r w' => r = .returned (.bool true) ∧ Below w.heap.size w w')
    (i3 : ∀ w', Calls Tryz.prog 68 #[.int .i64 (N : Int), .int .i64 y0] w' fun r w'' => r = .returned (.bool true) ∧ w'' = w')
    (i4 : ∀ w', Calls Tryz.prog 68 #[.int .i64 (N : Int), .int .i64 y1] w' fun r w'' => r = .returned (.bool true) ∧ w'' = w')
    (i5 : ∀ w1, Below w.heap.size w w1 → Calls Tryz.prog 69 #[.int .i64 (N : Int), .func (.func 86) #[] #[.pointer (some ⟨w1.heap.size, 0, none⟩)]] (w1.alloc (.cells #[.slice (some x) L cap] 22)) fun r w' => ∃ v, r = .returned v ∧ SpP w 0 R (.returned (.tuple #[v, .int .i64 0])) w' ∧ OneV v) :
    Calls Tryz.prog 51 #[.int .i64 (N : Int), .slice (some x) L cap] w (SpP w 0 R) := by
  have q0 : ((L : Int) == 0) = false := by simp; omega
  have q1 : ¬ (256 : Int) < (L : Int) := by omega
  have q2 : (0 : Int) < (L : Int) := by omega
  have q3 : IntKind.i64.wrap ((L : Int) - 1) = (K : Int) := by have := hK.out; rw [IntKind.wrap_i64]; omega
  have q4 : (K : Int) < (L : Int) := by have := hK.out; omega
  have q5 : (0 : Int) ≤ (K : Int) := by omega
  go_enter Tryz.func51, Tryz.ntmps51
  go_wp2_with (first
    | (go_at_call 66; refine (i1 _).mono ?_; rintro r w' ⟨rfl, rfl⟩)
    | (go_at_call 67; refine i2.mono ?_; rintro r w1 ⟨rfl, hw1⟩; have d0 := (hw1.cell (p := x) hx).trans c0; have d1 := (hw1.cell (p := x.add K) (by rw [addr_block]; exact hx)).trans c1)
    | (go_at_call 68; (with_reducible refine (i3 _).mono ?_); rintro r w' ⟨rfl, rfl⟩)
    | (go_at_call 68; (with_reducible refine (i4 _).mono ?_); rintro r w' ⟨rfl, rfl⟩)
    | (go_at_call 70; refine (listed_any _ _ _ _).mono ?_; rintro r w' ⟨rfl, rfl⟩)
    | (go_at_call 69; refine (i5 _ hw1).mono ?_; rintro r w5 ⟨v, rfl, hP, hv⟩))
  go_ret2
  exact hP
set_option maxRecDepth 100000 in
set_option maxHeartbeats 4000000 in
theorem batch8_ok (n : Int) (l : List Int) (a : Option Addr) (cap : Nat) (w : World) (hA : AtI w a l) (ho : BatOk n l) : Calls Tryz.prog 51 #[.int .i64 n, .slice a l.length cap] w (SpP w 0 (Tree.othF n.toNat 0 n.toNat (toN l))) := by
  have i2 := rise_any l a cap w (by have := ho.l2; omega) hA
  have l1 := ho.l1
  have l2 := ho.l2
  obtain ⟨x, rfl⟩ := hA.pos l1
  have c0 := hA.cell 0 l1
  have c1 := hA.cell (l.length - 1) (by omega)
  have f0 := ho.f0
  have fn := ho.fn
  have e0 := ho.e0
  have en := ho.en
  rw [getD_at l1] at f0 fn
  rw [getD_at (show l.length - 1 < l.length by omega)] at e0 en
  have hsB : rsgB l = true := decide_eq_true ho.so
  rw [hsB] at i2
  have hso := ho.sorted
  have hlen := ho.len
  obtain ⟨N, rfl⟩ := Int.eq_ofNat_of_zero_le (show 0 ≤ n by have := ho.n1; omega)
  have hA2 : AtI w (some x) (ix (toN l)) := by rw [ho.ix]; exact hA
  have hN1 : 1 ≤ N ∧ N ≤ 1099511627776 := by have := ho.n1; have := ho.n2; omega
  have hxb : x.block < w.heap.size := by
    have := World.block_lt_of_cell? w _ c0
    rwa [addr_block] at this
  rw [Int.toNat_natCast, ← Tree.barF_oth (toN l) (hso.imp (fun h => by omega)) N 0 N (Nat.le_refl _) hN1.1]
  have hcl : ∀ b e, (Tree.wit (toN l) b e).length ≤ 1099511627776 := fun b e => by
    have := List.length_filter_le (fun i => decide (b ≤ i ∧ i < e)) (toN l)
    unfold Tree.wit; omega
  refine batch8_walk N l.length (l.length - 1) cap x _ _ _ w l1 l2 rfl c0 c1 hxb (fun w' => isSize_is _ true (by simp; omega) w') i2 (fun w' => isLeaf8_is _ _ true (by simpa using ⟨f0, fn⟩) w') (fun w' => isLeaf8_is _ _ true (by simpa using ⟨e0, en⟩) w') (fun w1 hw1 => ?_)
  have hb2 := (Below.refl _ w1).alloc (Nat.le_refl _) (.cells #[.slice (some x) (toN l).length cap] 22)
  have h5 := without_any N 86 #[.pointer (some ⟨w1.heap.size, 0, none⟩)] (fun b e => (Tree.wit (toN l) b e).length) (fun k => k < w.heap.size ∨ k = w1.heap.size) hN1.1 hN1.2 _
    (cnts_listed (toN l) (some x) cap N w _ w1.heap.size (by omega) hso hA2 (hw1.trans (hb2.mono hw1.size)) (Boxed.new w1 _ _)) hcl
    (fun k hk => by rw [size_alloc]; have := hw1.size; omega)
  rw [hlen] at h5 hb2
  refine h5.mono ?_
  rintro r w3 ⟨hb3, v, rfl, hO, hk⟩
  have hb := hb2.trans (hb3.mono hb2.size)
  refine ⟨v, rfl, ⟨hw1.trans (hb.mono hw1.size), v, rfl, hO, fun k hk' => ?_⟩, ownM_sl hO⟩
  have := hk k hk'
  rw [size_alloc] at this
  have := hw1.size
  omega
set_option maxRecDepth 100000 in
set_option maxHeartbeats 4000000 in
theorem batch8_bad (n : Int) (l : List Int) (a : Option Addr) (cap : Nat) (w : World) (hl : l.length ≤ 140737488355328) (hA : AtI w a l) (hz : batchE n l ≠ 0) : Calls Tryz.prog 51 #[.int .i64 n, .slice a l.length cap] w (SpP w (batchE n l) []) := by
  by_cases h1 : 1 ≤ n ∧ n ≤ 1099511627776
  · have i1 := fun w' => isSize_is n true (by simpa using h1) w'
    by_cases h2 : l.length = 0 ∨ 256 < l.length
    · have eE : batchE n l = 83 := by unfold batchE; rw [if_pos h1, if_pos h2]
      rw [eE]
      clear eE hz hA
      by_cases h3 : l.length = 0
      · rw [h3]
        go_enter Tryz.func51, Tryz.ntmps51
        go_wp2_with (go_at_call 66; refine (i1 _).mono ?_; rintro r w' ⟨rfl, rfl⟩)
        go_ret2
        exact SpP.bad (Below.refl _ _)
      · have h4 : 256 < l.length := by omega
        generalize l.length = L at *
        have q0 : ((L : Int) == 0) = false := by simp; omega
        have q1 : (256 : Int) < (L : Int) := by omega
        go_enter Tryz.func51, Tryz.ntmps51
        go_wp2_with (go_at_call 66; refine (i1 _).mono ?_; rintro r w' ⟨rfl, rfl⟩)
        go_ret2
        exact SpP.bad (Below.refl _ _)
    · have i2 := rise_any l a cap w (by omega) hA
      by_cases h3 : rsgB l = true
      · rw [h3] at i2
        obtain ⟨x, rfl⟩ := hA.pos (by omega)
        have c0 : w.cell? x = some (.int .i64 (l.getD 0 0)) := by rw [getD_at (show 0 < l.length by omega)]; exact hA.cell 0 (by omega)
        have c1 : w.cell? (x.add (l.length - 1)) = some (.int .i64 (l.getD (l.length - 1) 0)) := by rw [getD_at (show l.length - 1 < l.length by omega)]; exact hA.cell (l.length - 1) (by omega)
        have hxb : x.block < w.heap.size := World.block_lt_of_cell? w _ c0
        have eE : batchE n l = 80 := by
          unfold batchE at hz ⊢
          rw [if_pos h1, if_neg h2, if_pos h3] at hz ⊢
          split at hz
          · split at hz
            · exact absurd rfl hz
            · rw [if_pos ‹_›, if_neg ‹_›]
          · rw [if_neg ‹_›]
        rw [eE]
        by_cases h4 : 0 ≤ l.getD 0 0 ∧ l.getD 0 0 < n
        · have h5 : ¬ (0 ≤ l.getD (l.length - 1) 0 ∧ l.getD (l.length - 1) 0 < n) := fun h5 => hz (by unfold batchE; rw [if_pos h1, if_neg h2, if_pos h3, if_pos h4, if_pos h5])
          have i3 := fun w' => isLeaf8_is n (l.getD 0 0) true (by simpa using h4) w'
          have i4 := fun w' => isLeaf8_is n (l.getD (l.length - 1) 0) false (by simpa using h5) w'
          clear hz hA h4 h5 eE h3
          obtain ⟨K, hK⟩ : ∃ K, Hid (l.length - 1 = K) := ⟨_, rfl⟩
          rw [hK.out] at c1 i4
          generalize l.getD 0 0 = y0 at *
          generalize l.getD K 0 = y1 at *
          generalize l.length = L at *
          have q0 : ((L : Int) == 0) = false := by simp; omega
          have q1 : ¬ (256 : Int) < (L : Int) := by omega
          have q2 : (0 : Int) < (L : Int) := by omega
          have q3 : IntKind.i64.wrap ((L : Int) - 1) = (K : Int) := by have := hK.out; rw [IntKind.wrap_i64]; omega
          have q4 : (K : Int) < (L : Int) := by have := hK.out; omega
          have q5 : (0 : Int) ≤ (K : Int) := by omega
          clear h2
          go_enter Tryz.func51, Tryz.ntmps51
          go_wp2_with (first
            | (go_at_call 66; refine (i1 _).mono ?_; rintro r w' ⟨rfl, rfl⟩)
            | (go_at_call 67; refine i2.mono ?_; rintro r w1 ⟨rfl, hw1⟩; have d0 := (hw1.cell (p := x) hxb).trans c0; have d1 := (hw1.cell (p := x.add K) (by rw [addr_block]; exact hxb)).trans c1)
            | (go_at_call 68; (with_reducible refine (i3 _).mono ?_); rintro r w' ⟨rfl, rfl⟩)
            | (go_at_call 68; (with_reducible refine (i4 _).mono ?_); rintro r w' ⟨rfl, rfl⟩))
          go_ret2
          exact SpP.bad hw1
        · have i3 := fun w' => isLeaf8_is n (l.getD 0 0) false (by simpa using h4) w'
          clear hz hA h4 eE h3 c1
          generalize l.getD 0 0 = y0 at *
          generalize l.length = L at *
          have q0 : ((L : Int) == 0) = false := by simp; omega
          have q1 : ¬ (256 : Int) < (L : Int) := by omega
          have q2 : (0 : Int) < (L : Int) := by omega
          clear h2
          go_enter Tryz.func51, Tryz.ntmps51
          go_wp2_with (first
            | (go_at_call 66; refine (i1 _).mono ?_; rintro r w' ⟨rfl, rfl⟩)
            | (go_at_call 67; refine i2.mono ?_; rintro r w1 ⟨rfl, hw1⟩; have d0 := (hw1.cell (p := x) hxb).trans c0)
            | (go_at_call 68; (with_reducible refine (i3 _).mono ?_); rintro r w' ⟨rfl, rfl⟩))
          go_ret2
          exact SpP.bad hw1
      · have h3 : rsgB l = false := by simpa using h3
        rw [h3] at i2
        have eE : batchE n l = 82 := by unfold batchE; rw [if_pos h1, if_neg h2, if_neg (by rw [h3]; simp)]
        rw [eE]
        clear hz hA eE h3
        generalize l.length = L at *
        have q0 : ((L : Int) == 0) = false := by simp; omega
        have q1 : ¬ (256 : Int) < (L : Int) := by omega
        clear h2
        go_enter Tryz.func51, Tryz.ntmps51
        go_wp2_with (first
          | (go_at_call 66; refine (i1 _).mono ?_; rintro r w' ⟨rfl, rfl⟩)
          | (go_at_call 67; refine i2.mono ?_; rintro r w1 ⟨rfl, hw1⟩))
        go_ret2
        exact SpP.bad hw1
  · have i1 := fun w' => isSize_is n false (by simpa using h1) w'
    have eE : batchE n l = 81 := by unfold batchE; rw [if_neg h1]
    rw [eE]
    go_enter Tryz.func51, Tryz.ntmps51
    go_wp2_with (go_at_call 66; refine (i1 _).mono ?_; rintro r w' ⟨rfl, rfl⟩)
    go_ret2
    exact SpP.bad (Below.refl _ _)
theorem batch8_any (n : Int) (l : List Int) (a : Option Addr) (cap : Nat) (w : World) (hl : l.length ≤ 140737488355328) (hA : AtI w a l) : Calls Tryz.prog 51 #[.int .i64 n, .slice a l.length cap] w (SpP w (batchE n l) (batchL n l)) := by
  unfold batchL
  by_cases hz : batchE n l = 0
  · rw [if_pos hz, hz]
    exact batch8_ok n l a cap w hA (BatOk.of hz)
  · rw [if_neg hz]
    exact batch8_bad n l a cap w hl hA hz
end Go.Proofs.YtbodgecbakcaaaaGreatDoor

namespace Go.Proofs.YtbodgecbakcaaaaGreatDoor
open Go.RowKit Go.Shelf
attribute [local go_sem] Oper.semAt_some
abbrev enN (s : Nat × Nat) : Array Value := #[.agg #[.int .i64 (s.1 : Int), .int .i64 (s.2 : Int)]]
end Go.Proofs.YtbodgecbakcaaaaGreatDoor

namespace Go.Proofs.YtbodgecbakcaaaaGreatDoor
open Go.RowKit Go.Shelf
attribute [local go_sem] Oper.semAt_some
end Go.Proofs.YtbodgecbakcaaaaGreatDoor

namespace Go.Proofs.YtbodgecbakcaaaaGreatDoor
open Go.RowKit Go.Shelf
def hsB8 (l : List (List UInt8)) : Bool := l.all (·.length == 32)
abbrev Sub := (Int × Int) × ByteArray
def sbc (l : List Sub) : List Value := l.flatMap fun q => [.int .i64 q.1.1, .int .i64 q.1.2, .string q.2]
abbrev OwnS3 (w : World) (v : Value) (l : List Sub) : Prop := OwnM 3 w v l.length (sbc l)
end Go.Proofs.YtbodgecbakcaaaaGreatDoor

namespace Go.Proofs.YtbodgecbakcaaaaGreatDoor
open Go.RowKit
theorem svs_one' {L : List (List UInt8)} {v : Value} (h : v ∈ svs L) : v.oneCell' = true := by
  simp only [svs, List.mem_map] at h
  obtain ⟨n, _, rfl⟩ := h
  rfl
def Row (w : World) (H : Nat) (L : List (List UInt8)) : Prop := w.heap[H]? = some (.cells (svs L).toArray 9 (0, 0))
theorem Row.lt {w : World} {H : Nat} {L : List (List UInt8)} (h : Row w H L) : H < w.heap.size := lt_of_heap h
theorem Row.cell {w : World} {H : Nat} {L : List (List UInt8)} (h : Row w H L) {j : Nat} {p : List UInt8} (hp : L[j]? = some p) : w.cell? ⟨H, j, none⟩ = some (sv p) := by
  rw [cell_of_row _ _ _ _ _ _ h]; simp [svs, hp]
theorem Row.at {w : World} {H : Nat} {L : List (List UInt8)} (h : Row w H L) : At w (some ⟨H, 0, none⟩) L := fun j p hp => ⟨_, rfl, h.lt, by rw [Addr.add_mid, Nat.zero_add]; exact h.cell hp⟩
theorem Row.free {w : World} {H : Nat} {L : List (List UInt8)} (h : Row w H L) {j : Nat} (hj : j < L.length) : w.frozen? ⟨H, j, none⟩ = false := by
  have := (there_of_row h 0 L.length (by simp [svs])) j hj
  rw [Nat.zero_add] at this
  exact this.2
theorem Row.below {w w' : World} {H B : Nat} {L : List (List UInt8)} (h : Row w H L) (hb : Below B w w') (hB : H < B) : Row w' H L := by
  unfold Row; rw [hb.block H hB]; exact h
theorem Row.set {w : World} {H : Nat} {L : List (List UInt8)} (h : Row w H L) (k : Nat) (x : List UInt8) : Row (w.setCell ⟨H, k, none⟩ (sv x)) H (L.set k x) := by
  have e := setCell_eq_setRow w H k (svs L).toArray 9 (0, 0) (sv x) h
  unfold Row
  rw [e, setRow_heap _ _ _ _ _ _ h]
  refine congrArg (fun A => some (Obj.cells A 9 (0, 0))) ?_
  simp [svs, List.map_set]
theorem infoS1 : (Tryz.prog.info? 9).map (·.size) = some 1 := by kernel_rfl
theorem make_texts (w : World) (c : Nat) (hc : c ≤ 8796093021960) :
    (Instr.makeSlice 23 (.int .i64 (c : Int)) (.int .i64 (c : Int))).run Tryz.prog w = .ok (.slice (some ⟨w.heap.size, 0, none⟩) c c) (w.alloc (.cells (svs (List.replicate c [])).toArray 9)) := by
  obtain ⟨i0, hi, hz0, hz1, hz2⟩ := info_parts infoS
  have h := run_make (P := Tryz.prog) w 23 9 i0 (.string ⟨#[]⟩) Tryz.underlying23 hi hz0 .i64 .i64 (c : Int) (c : Int) (by omega) (by omega) (by rw [hz2]; omega) (by omega)
  rw [Int.toNat_natCast, hz1, Nat.mul_one] at h
  have e : madeCells (Value.string ⟨#[]⟩).cells c = (svs (List.replicate c [])).toArray := by
    apply Array.ext'
    rw [show (madeCells (Value.string ⟨#[]⟩).cells c).toList = List.replicate c (.string ⟨#[]⟩) from toList_madeCells_one _ _]
    simp [svs]; exact .inr rfl
  rw [e] at h
  exact h
theorem copy_texts (w : World) (H : Nat) (a : Option Addr) (cap' : Nat) (ps rest : List (List UInt8)) (hs : At w a ps) (hR : Row w H (List.replicate ps.length [] ++ rest)) (m cap : Nat) (hm : m = ps.length + rest.length) :
    ∃ w', (Builtin.copy_ #[23, 23] 3 #[.slice (some ⟨H, 0, none⟩) m cap, .slice a ps.length cap']).run Tryz.prog w = .ok (goInt ps.length) w' ∧ Row w' H (ps ++ rest) ∧ But H w w' := by
  by_cases h0 : ps.length = 0
  · obtain rfl : ps = [] := List.length_eq_zero_iff.1 h0
    exact ⟨w, run_copy_none (P := Tryz.prog) w _ _ _ 9 _ _ _ _ _ _ Tryz.underlying23 infoS1 (by simp), by simpa using hR, But.refl _ _⟩
  · obtain ⟨x, rfl, hx, _⟩ := hs 0 _ (List.getElem?_eq_getElem (by omega))
    have h := run_copy_row (P := Tryz.prog) w 23 23 3 9 H 0 m cap x ps.length cap' _ 9 (svs ps) Tryz.underlying23 infoS1 hR
      (by rw [svs_length]; exact (Nat.min_eq_left (by omega)).symm) (fun j u hu => by
        simp only [svs, List.getElem?_map, Option.map_eq_some_iff] at hu
        obtain ⟨p, hp, rfl⟩ := hu
        obtain ⟨y, hy, _, hc⟩ := hs j p hp
        cases hy
        exact hc) (by simp [svs]) (fun u hu => svs_one' hu)
    refine ⟨_, h.trans (by rw [svs_length]), ?_, (But.refl _ _).setRow _⟩
    unfold Row
    rw [setRow_heap _ _ _ _ _ _ hR]
    refine congrArg (fun A => some (Obj.cells A 9 (0, 0))) ?_
    simp [svs]
end Go.Proofs.YtbodgecbakcaaaaGreatDoor

namespace Go.Proofs.YtbodgecbakcaaaaGreatDoor
open Go.RowKit Go.Shelf
namespace Bat
def tolE (n : Int) (l : List Int) : Int := if batchE n l = 0 then 0 else if batchE n l = 81 then 121 else 120
theorem tolE_zero {n : Int} {l : List Int} : tolE n l = 0 ↔ batchE n l = 0 := by
  unfold tolE
  constructor
  · intro h
    by_cases c : batchE n l = 0
    · exact c
    · rw [if_neg c] at h; split at h <;> cases h
  · intro h; rw [if_pos h]
set_option maxRecDepth 100000 in
set_option maxHeartbeats 2000000 in
theorem told12_any (n : Int) (l : List Int) (a : Option Addr) (cap : Nat) (w : World) (hl : l.length ≤ 140737488355328) (hA : AtI w a l) : Calls Tryz.prog 36 #[.int .i64 n, .slice a l.length cap] w (SpP w (tolE n l) (batchL n l)) := by
  have i1 := batch8_any n l a cap w hl hA
  by_cases h0 : batchE n l = 0
  · rw [tolE_zero.2 h0]
    rw [h0] at i1
    generalize batchL n l = B at *
    generalize l.length = k at *
    clear h0 hA hl
    go_enter Tryz.func36, Tryz.ntmps36
    go_wp2_with (go_at_call 51; refine i1.mono ?_; rintro r w1 ⟨b1, v1, rfl, o1, f1⟩; have B1 := hid b1; have O1 := hid o1; have F1 := hid f1; clear b1 o1 f1)
    go_ret2
    exact ⟨B1.out, _, rfl, O1.out, F1.out⟩
  · have eL : batchL n l = [] := by unfold batchL; rw [if_neg h0]
    by_cases h1 : batchE n l = 81
    · have eE : tolE n l = 121 := by unfold tolE; rw [if_neg h0, if_pos h1]
      rw [eE, eL]
      rw [h1, eL] at i1
      generalize l.length = k at *
      clear h0 hA hl h1 eL eE
      go_enter Tryz.func36, Tryz.ntmps36
      go_wp2_with (go_at_call 51; refine i1.mono ?_; rintro r w1 ⟨b1, v1, rfl, o1, f1⟩; have B1 := hid b1; clear b1 o1 f1)
      go_ret2
      exact ⟨B1.out, _, rfl, OwnM.nil _ _, fun k hk => by cases hk⟩
    · have eE : tolE n l = 120 := by unfold tolE; rw [if_neg h0, if_neg h1]
      rw [eE, eL]
      rw [eL] at i1
      generalize l.length = k at *
      generalize batchE n l = c at *
      clear hA hl eL eE
      have c0 : (c == 0) = false := by simp [h0]
      have c1 : (c == 81) = false := by simp [h1]
      go_enter Tryz.func36, Tryz.ntmps36
      go_wp2_with (go_at_call 51; refine i1.mono ?_; rintro r w1 ⟨b1, v1, rfl, o1, f1⟩; have B1 := hid b1; clear b1 o1 f1)
      go_ret2
      exact ⟨B1.out, _, rfl, OwnM.nil _ _, fun k hk => by cases hk⟩
set_option maxRecDepth 100000 in
set_option maxHeartbeats 2000000 in
theorem count12_any (n : Int) (l : List Int) (a : Option Addr) (cap : Nat) (w : World) (hl : l.length ≤ 140737488355328) (hA : AtI w a l) : Calls Tryz.prog 13 #[.int .i64 n, .slice a l.length cap] w fun r w' => r = .returned (.tuple #[.int .i64 ((batchL n l).length : Int), .int .i64 (tolE n l)]) ∧ Below w.heap.size w w' := by
  have i1 := told12_any n l a cap w hl hA
  generalize batchL n l = B at *
  generalize tolE n l = c at *
  generalize l.length = k at *
  clear hA hl
  go_enter Tryz.func13, Tryz.ntmps13
  go_wp2_with (go_at_call 36; refine i1.mono ?_; rintro r w1 ⟨b1, v1, rfl, o1, f1⟩; obtain ⟨a1, c1, rfl, _, _⟩ := OwnM.shape o1; have B1 := hid b1; clear b1 o1 f1)
  go_ret2
  exact ⟨rfl, B1.out⟩
set_option maxRecDepth 100000 in
set_option maxHeartbeats 2000000 in
theorem beside12_any (n i : Nat) (hi : i < n) (hn : n ≤ 1099511627776) (w : World) : Calls Tryz.prog 41 #[.int .i64 (n : Int), .int .i64 (i : Int)] w fun r w' => Below w.heap.size w w' ∧ ∃ v, r = .returned v ∧ OwnP w' v (Tree.pthF n 0 n i) ∧ ∀ k, v.ownBlock = some k → w.heap.size ≤ k := by
  have i1 := path8_any (n : Int) (i : Int) w
  have eE : pathE (n : Int) (i : Int) = 0 := by unfold pathE; rw [if_pos ⟨by omega, by omega⟩, if_pos ⟨by omega, by omega⟩]
  have eL : pathL (n : Int) (i : Int) = Tree.pthF n 0 n i := by unfold pathL; rw [if_pos eE, Int.toNat_natCast, Int.toNat_natCast]
  rw [eE, eL] at i1
  generalize Tree.pthF n 0 n i = S at *
  clear eE eL hi hn
  go_enter Tryz.func41, Tryz.ntmps41
  go_wp2_with (go_at_call 58; refine i1.mono ?_; rintro r w1 ⟨b1, v1, rfl, o1, f1⟩; have B1 := hid b1; have O1 := hid o1; have F1 := hid f1; clear b1 o1 f1)
  go_ret
  exact ⟨B1.out, _, rfl, O1.out, F1.out⟩
set_option maxRecDepth 100000 in
theorem alone12_any (i : Nat) (hi : i < 1099511627776) (w : World) : Calls Tryz.prog 56 #[.int .i64 (i : Int)] w fun r w' => r = .returned (.agg #[.int .i64 (i : Int), .int .i64 ((i + 1 : Nat) : Int)]) ∧ Below w.heap.size w w' := by
  have hw : IntKind.i64.wrap ((i : Int) + 1) = ((i + 1 : Nat) : Int) := by rw [IntKind.wrap_i64]; omega
  go_enter Tryz.func56, Tryz.ntmps56
  go_wp2
  refine bodyPost_ret (v := .agg #[.int .i64 (i : Int), .int .i64 ((i + 1 : Nat) : Int)]) (results_cell_row rfl _ _ w.heap.size 62 _ (0, 0) _ rfl (heap_alloc_new w _) Tryz.underlying62 rfl sizeSp) rfl ⟨rfl, ?_⟩
  exact (Below.refl _ _).alloc (Nat.le_refl _) _
set_option maxRecDepth 100000 in
set_option maxHeartbeats 2000000 in
theorem areHashes12_is (l : List (List UInt8)) (q : Bool) (hq : hsB8 l = q) (a : Option Addr) (cap : Nat) (w : World) (hc : l.length ≤ 9223372036854775807) (hA : At w a l) :
    Calls Tryz.prog 55 #[.slice a l.length cap] w fun r w' => r = .returned (.bool q) ∧ w' = w := by
  have HQ := hid hq
  generalize hn : l.length = k at *
  have HA := hid hA
  clear hA hq
  go_enter Tryz.func55, Tryz.ntmps55
  go_wp2
  go_loopw [7] (fun i w' => ∃ j : Nat, j ≤ k ∧ i = .int .i64 (j : Int) ∧ Hid ((l.take j).all (·.length == 32) = true) ∧ w' = w) (fun i _ => k - (intOf i).toNat)
  case atStart => exact ⟨0, by omega, rfl, rfl, rfl⟩
  case round =>
    obtain ⟨j, hj, rfl, hall, rfl⟩ := hrel
    by_cases hjk : j < k
    · have b0 : (j : Int) < (k : Int) := by omega
      obtain ⟨y, rfl⟩ := HA.out.pos (by omega)
      obtain ⟨s, hs, hcell⟩ := HA.out.cell j (by omega)
      by_cases h32 : s.size = 32
      · have i2 : (s.size : Int) = 32 := by omega
        have e2 := hid (all_take l j (by omega) hall.out (by rw [← hs.out, data_length]; exact h32))
        clear HA hall hs
        go_wp2
        exact ⟨⟨j + 1, by omega, by go_num, e2, trivial⟩, by simp [intOf]; omega⟩
      · have i2 : ((s.size : Int) != 32) = true := by simp; omega
        have i3 : ((s.size : Int) == 32) = false := by simp; omega
        have e2 := all_not l j (by omega) (by rw [← hs.out, data_length]; exact h32)
        have e3 := hid (show q = false by rw [← HQ.out]; exact e2)
        clear HA hall hs e2
        go_wp2
        go_ret
        exact ⟨by rw [e3.out]; rfl, rfl⟩
    · obtain rfl : j = k := by omega
      have b0 : ¬ (j : Int) < (j : Int) := by omega
      rw [← hn, List.take_length] at hall
      have e3 := hid (show q = true by rw [← HQ.out]; exact hall.out)
      clear HA hall
      go_wp2
      go_ret
      exact ⟨by rw [e3.out]; rfl, rfl⟩
end Bat
end Go.Proofs.YtbodgecbakcaaaaGreatDoor

namespace Go.Proofs.YtbodgecbakcaaaaGreatDoor
open Go.RowKit
theorem infoBl : (Tryz.prog.info? 3).map (fun i => (i.zero, i.size, i.bytes)) = some (some (.int .i64 0), 1, 8) := by kernel_rfl
def ivs (L : List Int) : List Value := L.map (.int .i64)
theorem ivs_length (L : List Int) : (ivs L).length = L.length := by simp [ivs]
theorem append_int (w : World) (base : Nat) (v : Value) (L : List Int) (p : Int) (hown : Own w base v (ivs L)) (hlen : L.length ≤ 2000000) (hbase : base ≤ w.heap.size) :
    ∃ v' w', (Builtin.append_ #[22, 22] 22 #[v, .slice (some ⟨w.heap.size, 0, none⟩) 1 1]).run Tryz.prog (w.alloc (.cells #[.int .i64 p] 3)) = .ok v' w' ∧ Own w' base v' (ivs (L ++ [p])) ∧ Below base w w' := by
  obtain ⟨i0, hi, hz0, hz1, hz2⟩ := info_parts infoBl
  have hsrc : Src Tryz.prog 1 22 (.slice (some ⟨w.heap.size, 0, none⟩) 1 1) 1 [.int .i64 p] (w.alloc (.cells #[.int .i64 p] 3)) :=
    Src.ofSlice _ Tryz.underlying22 ⟨w.heap.size, 0, none⟩ 1 1 [.int .i64 p] (by simp) (fun j u hj => by
      rw [Addr.add_mid, cell_of_row _ _ _ _ _ _ (heap_alloc_new w _), Nat.zero_add]; simpa using hj) (fun u hu => by simp at hu; subst hu; rfl)
  obtain ⟨v', w', h1, h2, h3, h4⟩ := run_append_O (P := Tryz.prog) (w.alloc (.cells #[.int .i64 p] 3)) base 22 22 22 3 i0 (.int .i64 0) Tryz.underlying22 hi hz0 hz1 rfl v (ivs L) (hown.alloc _) _ 1 [.int .i64 p] hsrc
    (by rw [ivs_length, hz2]; omega) (by rw [ivs_length, maxLen]; omega) (by rw [size_alloc]; omega) (fun _ => by omega)
  refine ⟨v', w', h1, by simpa [ivs] using h2, ?_⟩
  exact ((Below.refl base w).alloc hbase _).trans (Below.ofGrown h3 hown.ge (by rw [size_alloc]; omega))
theorem Own.atI {w : World} {base : Nat} {v : Value} {L : List Int} (h : Own w base v (ivs L)) : ∃ a cap, v = .slice a L.length cap ∧ AtI w a L ∧ L.length ≤ cap ∧ cap ≤ 9223372036854775807 := by
  rcases h with ⟨rfl, h⟩ | ⟨g, cap, rfl, h1, h2, h3, h4, h5, h6⟩
  · obtain rfl : L = [] := by simpa [ivs] using h
    exact ⟨none, 0, rfl, AtI.nil _ _, by simp, by omega⟩
  · rw [ivs_length] at h2
    refine ⟨some ⟨g, 0, none⟩, cap, by rw [ivs_length], fun j p hp => ⟨_, rfl, h6, ?_⟩, h2, h3⟩
    rw [Addr.add_mid]
    exact h4 j (.int .i64 p) (by simp [ivs, hp])
theorem toN_ix (is : List Nat) : toN (ix is) = is := by
  have e : (Int.toNat ∘ fun (i : Nat) => (i : Int)) = id := by funext i; simp
  rw [toN, ix, List.map_map, e, List.map_id]
end Go.Proofs.YtbodgecbakcaaaaGreatDoor

/- THE PLAIN MATHEMATICS OF LAYER 12: hashes that are a tree's -/
namespace Go.Proofs.YtbodgecbakcaaaaGreatDoor
namespace Bat
open Tree
def rt (l : List T) (s : Nat × Nat) : T := root (seg l s.1 s.2)
theorem rt_two {l : List T} {b m : Nat} (h : 2 ≤ m) (hl : b + m ≤ l.length) : rt l (b, b + m) = nd (rt l (b, b + sp m)) (rt l (b + sp m, b + m)) := root_seg_two h hl
structure Fit (is : List Nat) (n : Nat) (l : List T) (val : Nat × Nat → T) : Prop where
  nn : ∀ b m, 2 ≤ m → tch is b (b + m) = true → val (b, b + m) = nd (val (b, b + sp m)) (val (b + sp m, b + m))
  tt : ∀ s ∈ othF n 0 n is, val s = rt l s
  ll : ∀ i ∈ is, val (i, i + 1) = rt l (i, i + 1)
  hn : n ≤ l.length
theorem Fit.down {is : List Nat} {n : Nat} {l : List T} {val : Nat × Nat → T} (h : Fit is n l val) : ∀ (f b m : Nat), 1 ≤ m → m ≤ f → b + m ≤ n → (∀ s ∈ othF f b m is, val s = rt l s) → val (b, b + m) = rt l (b, b + m)
  | 0, b, m, h1, h2, _, _ => by omega
  | f + 1, b, m, h1, h2, h3, ho => by
    cases ht : tch is b (b + m) with
    | false => exact ho _ (by rw [othF_no ht]; exact List.mem_singleton.2 rfl)
    | true =>
      by_cases hm : m < 2
      · obtain rfl : m = 1 := by omega
        obtain ⟨i, hi, h4, h5⟩ := tch_mem.1 ht
        obtain rfl : i = b := by omega
        exact h.ll i hi
      · have s1 := sp_lt (n := m) (by omega)
        have s2 := sp_pos (n := m) (by omega)
        rw [othF_two ht (by omega)] at ho
        rw [h.nn b m (by omega) ht, rt_two (by omega) (by have := h.hn; omega), h.down f b (sp m) (by omega) (by omega) (by omega) (fun s hs => ho s (List.mem_append_left _ hs))]
        have := h.down f (b + sp m) (m - sp m) (by omega) (by omega) (by omega) (fun s hs => ho s (List.mem_append_right _ hs))
        rw [show b + sp m + (m - sp m) = b + m by omega] at this
        rw [this]
theorem Fit.root {is : List Nat} {n : Nat} {l : List T} {val : Nat × Nat → T} (h : Fit is n l val) (h1 : 1 ≤ n) : val (0, n) = Tree.root (l.take n) := by
  have := h.down n 0 n h1 (Nat.le_refl _) (by omega) h.tt
  rw [Nat.zero_add] at this
  rw [this]
  show Tree.root (seg l 0 n) = _
  simp [seg]
theorem Val.fit {is : List Nat} {n : Nat} {l H L : List T} {val : Nat × Nat → T} (V : Val is n H L val) (hn : n ≤ l.length) (hi : ∀ i ∈ is, i < n) (hH : H = (othF n 0 n is).map (rt l)) (hL : ∀ (k : Nat) (i : Nat), is[k]? = some i → L[k]? = l[i]?) : Fit is n l val := by
  refine ⟨V.n, fun s hs => ?_, fun i hm => ?_, hn⟩
  · have e := V.h.symm.trans hH
    obtain ⟨k, hk, rfl⟩ := List.mem_iff_getElem.1 hs
    have := congrArg (fun l => l[k]?) e
    simpa [hk] using this
  · obtain ⟨k, hk, e⟩ := List.mem_iff_getElem.1 hm
    have h1 := hL k i (by rw [List.getElem?_eq_getElem hk, e])
    have h2 := V.l
    have hil := hi i hm
    rw [h2, List.getElem?_map, List.getElem?_eq_getElem hk, e, Option.map_some, List.getElem?_eq_getElem (by omega)] at h1
    have h3 := Option.some.inj h1
    rw [h3]
    show _ = Tree.root (seg l i (i + 1))
    rw [show seg l i (i + 1) = [l[i]'(by omega)] by
      have hlt : i < l.length := by omega
      unfold seg
      rw [List.take_add_one, List.getElem?_eq_getElem hlt, List.drop_append_of_le_length (by rw [List.length_take]; omega), List.drop_of_length_le (by rw [List.length_take]; omega)]
      rfl]
    exact (root_one _).symm
end Bat
end Go.Proofs.YtbodgecbakcaaaaGreatDoor
