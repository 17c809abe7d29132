import Derived.Test.YtjcapdkibbjmiaaGreatDoorPkI1
import Derived.Test.YtjcapdkibbjmiaaGreatDoorPkO3
import Derived.Test.YtjcapdkibbjmiaaGreatDoorPkCP9
import Derived.Test.YtjcapdkibbjmiaaGreatDoorPkSP28
import Derived.WalkMore
namespace Go.Proofs.YtjcapdkibbjmiaaGreatDoor
open Go.RowKit
def prfLen (m n : Int) : Int × Int := if m < 1 ∨ n < m ∨ 1099511627776 < n then (0, 41) else (Tree.pl m.toNat n.toNat true, 0)
end Go.Proofs.YtjcapdkibbjmiaaGreatDoor

namespace Go.Proofs.YtjcapdkibbjmiaaGreatDoor
open Go.RowKit
set_option maxRecDepth 100000 in
set_option maxHeartbeats 2000000 in
theorem steps_any (p l : Nat) (hp : p ≤ l) (hl : l < 9223372036854775807) (w : World) :
    Calls Tryz.prog 144 #[wy p l] w fun e w' => e = .returned (.int .i64 ((Tree.U p l).length : Nat)) ∧ Below w.heap.size w w' := by
  obtain ⟨T, hT⟩ : ∃ T, Hid ((Tree.U p l).length = T) := ⟨_, rfl⟩
  go_enter Tryz.func144, Tryz.ntmps144
  go_wp2
  go_loopw [3] (fun c w' => ∃ x y C : Nat, c = .int .i64 (C : Int) ∧ x ≤ y ∧ C + y ≤ l ∧ Hid (C + (Tree.U x y).length = T) ∧ Hid (Wy w' w.heap.size x y) ∧ Hid (Below w.heap.size w w')) (fun _ w' => numAt w' w.heap.size 1)
  case atStart => exact ⟨p, l, 0, rfl, hp, by omega, by unfold Hid; rw [Nat.zero_add]; exact hT.out, Wy.new w p l, (Below.refl _ _).alloc (Nat.le_refl _) _⟩
  case round =>
    obtain ⟨x, y, C, rfl, hxy, hC, hU, hW, hB⟩ := hrel
    have c0 := hW.out.c0
    have c1 := hW.out.c1
    by_cases h0 : y = 0
    · subst h0
      have e := hid (show T = C by have := hU.out; rw [Tree.U_zero] at this; simpa using this.symm)
      go_wp2
      go_ret
      exact ⟨by rw [hT.out, e.out]; rfl, hB.out⟩
    · have b0 : ((y : Int) != 0) = true := by simp; omega
      have b1 : ((y : Int) == 0) = false := by simp; omega
      have hc := above_any x y hxy h0 (by omega) wr
      go_wp2_with (first
        | ((with_reducible show wpList _ _ _ (Oper.mk _ (Op.load 152 _) _ _ _ _ :: _) _ _); go_must (refine wpList_load_row rfl 152 _ rfl w.heap.size rfl 152 _ (0, 0) _ hW.out.row Tryz.underlying152 rfl (sizeW' _ _) ?_))
        | (go_at_call 129; refine hc.mono ?_; rintro e w1 ⟨x', y', rfl, hw1, hx', hy', hU'⟩)
        | ((with_reducible show wpList _ _ _ (Oper.mk _ (Op.store 152 _ _) _ _ _ _ :: _) _ _); go_must (refine wpList_store_row rfl 152 _ _ rfl w.heap.size _ rfl rfl 152 _ (hW.out.below hw1).row (sizeW' _ _) rfl (oneW _ _) ?_)))
      have hW1 := (hW.out.below hw1).set x' y'
      have hm : numAt (w1.setRow w.heap.size #[.int .i64 (x' : Int), .int .i64 (y' : Int)]) w.heap.size 1 < numAt wr w.heap.size 1 := by rw [hW1.n1, hW.out.n1]; exact hy'
      refine ⟨?_, hm⟩
      have fin : ∃ x y C' : Nat, Value.int .i64 ((C : Int) + 1) = .int .i64 (C' : Int) ∧ x ≤ y ∧ C' + y ≤ l ∧ Hid (C' + (Tree.U x y).length = T) ∧ Hid (Wy (w1.setRow w.heap.size #[.int .i64 (x' : Int), .int .i64 (y' : Int)]) w.heap.size x y) ∧ Hid (Below w.heap.size w (w1.setRow w.heap.size #[.int .i64 (x' : Int), .int .i64 (y' : Int)])) :=
        ⟨x', y', C + 1, by go_num, hx', by omega, by have := hU.out; rw [hU'.out] at this; unfold Hid; simp at this; omega, hid hW1, hid (Below.setRow (hB.out.trans (hw1.mono hB.out.size)) (Nat.le_refl _) _)⟩
      first
        | exact fin
        | (repeat apply Exists.intro
           exact ⟨fin, rfl⟩)
set_option maxRecDepth 100000 in
set_option maxHeartbeats 2000000 in
theorem proofWay_any (m n : Nat) (hm : 1 ≤ m) (hn : 1 ≤ n) (h1 : m < 9223372036854775807) (h2 : n < 9223372036854775807) (w : World) :
    Calls Tryz.prog 107 #[.int .i64 m, .int .i64 n] w fun e w' => e = .returned (wy (Tree.St (m - 1) (n - 1)).1 (Tree.St (m - 1) (n - 1)).2) ∧ Below w.heap.size w w' := by
  have e1 : ((n : Int) - 1) = ((n - 1 : Nat) : Int) := by omega
  have e2 : ((m : Int) - 1) = ((m - 1 : Nat) : Int) := by omega
  obtain ⟨P, L, hT⟩ : ∃ P L, Hid (Tree.St (m - 1) (n - 1) = (P, L)) := ⟨_, _, rfl⟩
  go_enter Tryz.func107, Tryz.ntmps107
  go_wp2
  go_loopw [] (fun w' => ∃ x y : Nat, x < 9223372036854775807 ∧ y < 9223372036854775807 ∧ Hid (Tree.St x y = (P, L)) ∧ Hid (Wy w' (w.heap.size + 1) x y) ∧ Hid (Wy w' w.heap.size 0 0) ∧ Hid (Below w.heap.size w w')) (fun w' => numAt w' (w.heap.size + 1) 0)
  case atStart =>
    have s1 := size_alloc w (.cells #[Value.int .i64 0, Value.int .i64 0] 152)
    refine ⟨m - 1, n - 1, by omega, by omega, hT, ?_, (Below.heap_alloc _ _ _ (by omega)).trans (heap_alloc_new w _), ((Below.refl _ _).alloc (Nat.le_refl _) _).alloc (by omega) _⟩
    show _ = some (Obj.cells #[.int .i64 ((m - 1 : Nat) : Int), .int .i64 ((n - 1 : Nat) : Int)] _ _)
    rw [← e1, ← e2]
    exact heap_alloc_at _ _ _ s1
  case round =>
    obtain ⟨x, y, hx, hy, hU, hW, hR, hB⟩ := hrel
    have c0 := hW.out.c0
    have c1 := hW.out.c1
    by_cases ho : x % 2 = 1
    · have b0 : (x : Int) % 2 = 1 := by omega
      have b1 : ((x : Int) % 2 == 1) = true := by simp; omega
      have hc := halved_any x y (by omega) (by omega) wr
      go_wp2_with (first
        | ((with_reducible show wpList _ _ _ (Oper.mk _ (Op.load 152 _) _ _ _ _ :: _) _ _); go_must (refine wpList_load_row rfl 152 _ rfl (w.heap.size + 1) rfl 152 _ (0, 0) _ hW.out.row Tryz.underlying152 rfl (sizeW' _ _) ?_))
        | (go_at_call 130; refine hc.mono ?_; rintro e w1 ⟨rfl, hw1⟩)
        | ((with_reducible show wpList _ _ _ (Oper.mk _ (Op.store 152 _ _) _ _ _ _ :: _) _ _); go_must (refine wpList_store_row rfl 152 _ _ rfl (w.heap.size + 1) _ rfl rfl 152 _ (hW.out.below hw1).row (sizeW' _ _) rfl (oneW _ _) ?_)))
      have hW1 := (hW.out.below hw1).set (x / 2) (y / 2)
      have hm : numAt (w1.setRow (w.heap.size + 1) #[.int .i64 ((x / 2 : Nat) : Int), .int .i64 ((y / 2 : Nat) : Int)]) (w.heap.size + 1) 0 < numAt wr (w.heap.size + 1) 0 := by rw [hW1.n0, hW.out.n0]; omega
      refine ⟨?_, hm⟩
      repeat apply Exists.intro
      exact ⟨⟨x / 2, y / 2, by omega, by omega, hid ((Tree.St_odd y ho).symm.trans hU.out), hid hW1, hid ((hR.out.below hw1).setO _ (by omega)), hid (Below.setRow (hB.out.trans (hw1.mono hB.out.size)) (by omega) _)⟩, rfl⟩
    · have b0 : ¬ (x : Int) % 2 = 1 := by omega
      have b1 : ((x : Int) % 2 == 1) = false := by simp; omega
      have e := hid ((Tree.St_even y ho).symm.trans hU.out)
      go_wp2_with (first
        | ((with_reducible show wpList _ _ _ (Oper.mk _ (Op.load 152 _) _ _ _ _ :: _) _ _); go_must (refine wpList_load_row rfl 152 _ rfl (w.heap.size + 1) rfl 152 _ (0, 0) _ hW.out.row Tryz.underlying152 rfl (sizeW' _ _) ?_))
        | ((with_reducible show wpList _ _ _ (Oper.mk _ (Op.store 152 _ _) _ _ _ _ :: _) _ _); go_must (refine wpList_store_row rfl 152 _ _ rfl w.heap.size _ rfl rfl 152 _ hR.out.row (sizeW' _ _) rfl (oneW _ _) ?_)))
      refine bodyPost_ret (v := wy x y) (results_cell_row rfl _ _ w.heap.size 152 _ (0, 0) _ rfl (hR.out.set x y).row Tryz.underlying152 rfl (sizeW' _ _)) rfl ⟨?_, ?_⟩
      · rw [hT.out, ← e.out]
      · exact Below.setRow hB.out (Nat.le_refl _) _
end Go.Proofs.YtjcapdkibbjmiaaGreatDoor

namespace Go.Proofs.YtjcapdkibbjmiaaGreatDoor
open Go.RowKit
def szs (m n : Int) : Int := if m < 1 ∨ n < m ∨ 1099511627776 < n then 41 else 0
set_option maxRecDepth 100000 in
set_option maxHeartbeats 2000000 in
theorem checkSizes_any (m n : Int) (w : World) :
    Calls Tryz.prog 124 #[.int .i64 m, .int .i64 n] w fun e w' => e = .returned (.int .i64 (szs m n)) ∧ w' = w := by
  by_cases h1 : m < 1
  · rw [szs, if_pos (Or.inl h1)]
    go_enter Tryz.func124, Tryz.ntmps124
    go_wp2
    go_ret
    exact ⟨rfl, rfl⟩
  · by_cases h2 : n < m
    · rw [szs, if_pos (Or.inr (Or.inl h2))]
      go_enter Tryz.func124, Tryz.ntmps124
      go_wp2
      go_ret
      exact ⟨rfl, rfl⟩
    · by_cases h3 : 1099511627776 < n
      · rw [szs, if_pos (Or.inr (Or.inr h3))]
        go_enter Tryz.func124, Tryz.ntmps124
        go_wp2
        go_ret
        exact ⟨rfl, rfl⟩
      · rw [szs, if_neg (by omega)]
        go_enter Tryz.func124, Tryz.ntmps124
        go_wp2
        go_ret
        exact ⟨rfl, rfl⟩
theorem Tree.pl_St {m n P L : Nat} (h1 : 1 ≤ m) (h2 : m < n) (h : Tree.St (m - 1) (n - 1) = (P, L)) : Tree.pl m n true = (Tree.U P L).length + if P = 0 then 0 else 1 := by
  obtain ⟨a, b⟩ := Tree.PD_SU _ m n (Nat.le_refl _) h1 h2
  unfold Tree.pl Tree.fl
  rw [b, a]
  unfold Tree.SU
  rw [h]
  by_cases hp : P = 0
  · simp [hp]
  · simp [hp]
set_option maxRecDepth 100000 in
set_option maxHeartbeats 2000000 in
theorem proofLen_any (m n : Nat) (h1 : 1 ≤ m) (h2 : m ≤ n) (hn : n ≤ 1099511627776) (w : World) :
    Calls Tryz.prog 125 #[.int .i64 m, .int .i64 n] w fun e w' => e = .returned (.int .i64 (Tree.pl m n true : Nat)) ∧ Below w.heap.size w w' := by
  by_cases h : m = n
  · subst h
    rw [Tree.pl_same]
    have b0 : ((m : Int) == (m : Int)) = true := by simp
    go_enter Tryz.func125, Tryz.ntmps125
    go_wp2
    go_ret
    exact ⟨rfl, Below.refl _ _⟩
  · have b0 : ((m : Int) == (n : Int)) = false := by simp; omega
    have hq := proofWay_any m n h1 (by omega) (by omega) (by omega) w
    have hlt := Tree.St_lt (m - 1) (n - 1) (by omega)
    have hle := Tree.St_le (m - 1) (n - 1)
    obtain ⟨P, L, hS⟩ : ∃ P L, Tree.St (m - 1) (n - 1) = (P, L) := ⟨_, _, rfl⟩
    have e := hid (Tree.pl_St h1 (by omega) hS)
    rw [hS] at hq hlt hle
    simp only at hq hlt hle
    have hs := steps_any P L (by omega) (by omega)
    have hul := Tree.U_len 40 P L (by omega)
    generalize Tree.pl m n true = T at *
    generalize (Tree.U P L).length = U at *
    clear hS
    by_cases hP : P = 0
    · subst hP
      have e' := hid (show T = U by have := e.out; simpa using this)
      clear e
      go_enter Tryz.func125, Tryz.ntmps125
      go_wp2_with (first
        | (go_at_call 107; refine hq.mono ?_; rintro e w1 ⟨rfl, hw1⟩)
        | (go_at_call 144; refine (hs _).mono ?_; rintro e w2 ⟨rfl, hw2⟩))
      go_ret
      have hb := hw1.alloc hw1.size (.cells #[Value.int .i64 ((0 : Nat) : Int), Value.int .i64 (L : Int)] 152)
      exact ⟨by rw [e'.out]; rfl, hb.trans (hw2.mono hb.size)⟩
    · have b1 : ((P : Int) == 0) = false := by simp; omega
      have e' := hid (show T = U + 1 by have := e.out; simpa [hP] using this)
      clear e
      go_enter Tryz.func125, Tryz.ntmps125
      go_wp2_with (first
        | (go_at_call 107; refine hq.mono ?_; rintro e w1 ⟨rfl, hw1⟩)
        | (go_at_call 144; refine (hs _).mono ?_; rintro e w2 ⟨rfl, hw2⟩))
      go_ret
      have hb := hw1.alloc hw1.size (.cells #[Value.int .i64 (P : Int), Value.int .i64 (L : Int)] 152)
      exact ⟨by rw [e'.out]; go_num, hb.trans (hw2.mono hb.size)⟩
set_option maxRecDepth 100000 in
set_option maxHeartbeats 2000000 in
theorem ProofLen_any (m n : Int) (w : World) :
    Calls Tryz.prog 104 #[.int .i64 m, .int .i64 n] w fun e w' => e = .returned (.tuple #[.int .i64 (prfLen m n).1, .int .i64 (prfLen m n).2]) ∧ Below w.heap.size w w' := by
  have h1 := checkSizes_any m n w
  by_cases h : m < 1 ∨ n < m ∨ 1099511627776 < n
  · rw [prfLen, if_pos h]
    rw [szs, if_pos h] at h1
    clear h
    go_enter Tryz.func104, Tryz.ntmps104
    go_wp2_with (go_at_call 124; refine h1.mono ?_; rintro e w1 ⟨rfl, rfl⟩)
    go_ret2
    exact ⟨rfl, Below.refl _ _⟩
  · rw [prfLen, if_neg h]
    rw [szs, if_neg h] at h1
    have h2 := proofLen_any m.toNat n.toNat (by omega) (by omega) (by omega) w
    rw [Int.toNat_of_nonneg (by omega), Int.toNat_of_nonneg (by omega)] at h2
    generalize Tree.pl m.toNat n.toNat true = L at *
    clear h
    go_enter Tryz.func104, Tryz.ntmps104
    go_wp2_with (first
      | (go_at_call 124; refine h1.mono ?_; rintro e w1 ⟨rfl, rfl⟩)
      | (go_at_call 125; refine h2.mono ?_; rintro e w2 ⟨rfl, hw2⟩))
    go_ret2
    exact ⟨rfl, hw2⟩
end Go.Proofs.YtjcapdkibbjmiaaGreatDoor

namespace Go.Proofs.YtjcapdkibbjmiaaGreatDoor
open Go.RowKit
set_option maxRecDepth 100000 in
set_option maxHeartbeats 2000000 in
theorem vnode_any {l r m : List UInt8} (h : Hid (Tree.nd l r = m)) (w : World) (T : Tabs w) :
    Calls Tryz.prog 128 #[sv l, sv r] w fun e w' => e = .returned (sv m) ∧ Below w.heap.size w w' := by
  obtain ⟨m', d, hm⟩ : ∃ m' d, Hid (nodeOf l r = (m', d)) := ⟨_, _, rfl⟩
  have e' := hid (show m = m' by rw [← h.out, ← nodeOf_nd, hm.out])
  go_enter Tryz.func128, Tryz.ntmps128
  go_wp2_with (go_at_call 89; refine (node_at hm _ T).mono ?_; rintro e w1 ⟨rfl, hw1⟩)
  go_ret
  exact ⟨by rw [e'.out]; rfl, hw1⟩
set_option maxRecDepth 100000 in
set_option maxHeartbeats 2000000 in
theorem isHash_any (s : ByteArray) (w : World) :
    Calls Tryz.prog 80 #[.string s] w fun e w' => e = .returned (.bool ((s.size : Int) == 32)) ∧ w' = w := by
  go_enter Tryz.func80, Tryz.ntmps80
  go_wp2
  go_ret
  exact ⟨rfl, rfl⟩
def chk (x : List UInt8) (l : List (List UInt8)) (n : Int) : Int := if x.length = 32 ∧ l.all (·.length == 32) = true then (if (l.length : Int) = n then 0 else 43) else 42
theorem isHash_at (s : ByteArray) (b : Bool) (h : ((s.size : Int) == 32) = b) (w : World) :
    Calls Tryz.prog 80 #[.string s] w fun e w' => e = .returned (.bool b) ∧ w' = w := by
  have := isHash_any s w
  rwa [h] at this
set_option maxRecDepth 100000 in
set_option maxHeartbeats 2000000 in
theorem checkHashes_any (x : List UInt8) (l : List (List UInt8)) (n : Int) (a : Option Addr) (cap : Nat) (w : World) (hc : l.length ≤ 9223372036854775807) (hA : At w a l) :
    Calls Tryz.prog 105 #[sv x, .slice a l.length cap, .int .i64 n] w fun e w' => e = .returned (.int .i64 (chk x l n)) ∧ w' = w := by
  have hx : (ByteArray.mk x.toArray).size = x.length := sv_size x
  show Calls _ _ #[.string ⟨x.toArray⟩, _, _] _ _
  generalize ByteArray.mk x.toArray = X at *
  by_cases h1 : x.length = 32
  · have i1 := isHash_at X true (by simp; omega) w
    have e0 : chk x l n = if l.all (·.length == 32) = true then (if (l.length : Int) = n then 0 else 43) else 42 := by unfold chk; simp [h1]
    rw [e0]
    clear e0 h1 hx
    generalize hn : l.length = k at *
    have HA := hid hA
    obtain ⟨z, hz⟩ : ∃ z : Int, Hid ((if l.all (·.length == 32) = true then (if (k : Int) = n then 0 else 43) else 42) = z) := ⟨_, rfl⟩
    rw [hz.out]
    clear hA
    go_enter Tryz.func105, Tryz.ntmps105
    go_wp2_with (go_at_call 80; refine i1.mono ?_; rintro e w1 ⟨rfl, rfl⟩)
    go_loopw [14] (fun i w' => ∃ j : Nat, j ≤ k ∧ i = .int .i64 (j : Int) ∧ Hid ((l.take j).all (·.length == 32) = true) ∧ w' = w1) (fun i _ => k - (intOf i).toNat)
    case atStart => exact ⟨0, by omega, rfl, rfl, rfl⟩
    case round =>
      obtain ⟨j, hj, rfl, hall, rfl⟩ := hrel
      by_cases hjk : j < k
      · have b0 : (j : Int) < (k : Int) := by omega
        obtain ⟨y, rfl⟩ := HA.out.pos (by omega)
        obtain ⟨s, hs, hcell⟩ := HA.out.cell j (by omega)
        by_cases h32 : s.size = 32
        · have i2 := isHash_at s true (by simp; omega) wr
          have e2 := hid (all_take l j (by omega) hall.out (by rw [← hs.out, data_length]; exact h32))
          clear HA hall hs i1
          go_wp2_with (go_at_call 80; refine i2.mono ?_; rintro e w2 ⟨rfl, rfl⟩)
          exact ⟨⟨j + 1, by omega, by go_num, e2, trivial⟩, by simp [intOf]; omega⟩
        · have i2 := isHash_at s false (by simp; omega) wr
          have e2 := hid (all_not l j (by omega) (by rw [← hs.out, data_length]; exact h32))
          have e3 := hid (show z = 42 by have := hz.out; rw [e2.out] at this; exact this.symm)
          clear HA hall hs i1 e2 hz
          go_wp2_with (go_at_call 80; refine i2.mono ?_; rintro e w2 ⟨rfl, rfl⟩)
          go_ret
          exact ⟨by rw [e3.out]; rfl, rfl⟩
      · obtain rfl : j = k := by omega
        have b0 : ¬ (j : Int) < (j : Int) := by omega
        rw [← hn, List.take_length] at hall
        by_cases hk : (j : Int) = n
        · have b1 : ((j : Int) != n) = false := by simp; omega
          have e3 := hid (show z = 0 by have := hz.out; rw [hall.out, if_pos rfl, if_pos hk] at this; exact this.symm)
          clear HA hall hz i1
          go_wp2
          go_ret
          exact ⟨by rw [e3.out]; rfl, rfl⟩
        · have b1 : ((j : Int) != n) = true := by simp; omega
          have e3 := hid (show z = 43 by have := hz.out; rw [hall.out, if_pos rfl, if_neg hk] at this; exact this.symm)
          clear HA hall hz i1
          go_wp2
          go_ret
          exact ⟨by rw [e3.out]; rfl, rfl⟩
  · have i1 := isHash_at X false (by simp; omega) w
    have e0 : chk x l n = 42 := by unfold chk; rw [if_neg (fun h => h1 h.1)]
    rw [e0]
    clear e0 hx
    generalize l.length = k at *
    clear hA
    go_enter Tryz.func105, Tryz.ntmps105
    go_wp2_with (go_at_call 80; refine i1.mono ?_; rintro e w1 ⟨rfl, rfl⟩)
    go_ret
    exact ⟨rfl, rfl⟩
set_option maxRecDepth 100000 in
set_option maxHeartbeats 2000000 in
theorem vcopied_any (l : List (List UInt8)) (a : Option Addr) (cap : Nat) (w : World) (hn : l.length ≤ 8796093021952) (hA : At w a l) :
    Calls Tryz.prog 126 #[.slice a l.length cap] w fun e w' => e = .returned (.slice (some ⟨w.heap.size, 0, none⟩) l.length l.length) ∧ Row w' w.heap.size l ∧ Below w.heap.size w w' := by
  have hmk := make_texts w l.length (by omega)
  have R1 : Row (w.alloc (.cells (svs (List.replicate l.length [])).toArray 9)) w.heap.size (List.replicate l.length [] ++ []) := by
    rw [List.append_nil]; exact heap_alloc_new w _
  have hb1 := (Below.refl w.heap.size w).alloc (Nat.le_refl _) (.cells (svs (List.replicate l.length [])).toArray 9)
  obtain ⟨w2, hcp, hR2, hb2⟩ := copy_texts _ w.heap.size a cap l [] (hA.below hb1 (Nat.le_refl _)) R1 l.length l.length (by simp)
  have HB2 := hid (show Below w.heap.size w w2 from hb1.trans (hb2.below (Nat.le_refl _) (by rw [size_alloc]; omega)))
  rw [List.append_nil] at hR2
  have HR2 := hid hR2
  clear hR2 R1 hb2 hb1 hA
  generalize w.alloc (.cells (svs (List.replicate l.length [])).toArray 9) = w1 at *
  generalize l.length = n at *
  go_enter Tryz.func126, Tryz.ntmps126
  go_wp2
  go_ret
  exact ⟨rfl, HR2.out, HB2.out⟩
end Go.Proofs.YtjcapdkibbjmiaaGreatDoor

namespace Go.Proofs.YtjcapdkibbjmiaaGreatDoor
open Go.RowKit
theorem Wy.f0 {w : World} {g p l : Nat} (h : Wy w g p l) : w.frozen? ⟨g, 0, none⟩ = false := frozen_of_row _ _ _ _ _ h
theorem Wy.f1 {w : World} {g p l : Nat} (h : Wy w g p l) : w.frozen? ⟨g, 1, none⟩ = false := frozen_of_row _ _ _ _ _ h
theorem Wy.two {w : World} {g p l : Nat} (h : Wy w g p l) (p' l' : Nat) : (w.setCell ⟨g, 0, none⟩ (.int .i64 (p' : Int))).setCell ⟨g, 1, none⟩ (.int .i64 (l' : Int)) = w.setRow g #[.int .i64 (p' : Int), .int .i64 (l' : Int)] := by
  rw [setCell_eq_setRow w g 0 _ _ _ _ h, setCell_eq_setRow _ g 1 _ _ _ _ (setRow_heap _ _ _ _ _ _ h), setRow_setRow]
  rfl
theorem At.setRow {w : World} {a : Option Addr} {l : List (List UInt8)} (h : At w a l) (g : Nat) (cs : Array Value) (hne : ∀ x, a = some x → x.block ≠ g) : At (w.setRow g cs) a l := fun j p hp => by
  obtain ⟨x, rfl, hx, hc⟩ := h j p hp
  refine ⟨x, rfl, by rw [setRow_size]; exact hx, ?_⟩
  rw [← hc]
  exact World.cell?_of_block (w := w) (by rw [addr_block]; exact setRow_other w g _ cs (hne x rfl))
theorem Tree.U_ne : ∀ (y x : Nat), x ≤ y → y ≠ 0 → Tree.U x y ≠ [] := by
  intro y
  induction y using Nat.strongRecOn with
  | ind y ih =>
    intro x hx h0
    by_cases hs : x = y ∧ x % 2 = 0
    · obtain ⟨rfl, hs⟩ := hs
      rw [Tree.U_skip h0 hs]
      exact ih (x / 2) (by omega) (x / 2) (Nat.le_refl _) (by omega)
    · rw [Tree.U_step h0 hs]; simp
def Rst (g : Nat) (w : World) (v : Value) (Q : List (List UInt8)) : Prop := ∃ a c, v = .slice a Q.length c ∧ Q.length ≤ c ∧ c ≤ 8796093021952 ∧ At w a Q ∧ ∀ x, a = some x → x.block ≠ g
theorem Rst.setRow {g : Nat} {w : World} {v : Value} {Q : List (List UInt8)} (h : Rst g w v Q) (cs : Array Value) : Rst g (w.setRow g cs) v Q := by
  obtain ⟨a, c, h1, h2, h3, h4, h5⟩ := h
  exact ⟨a, c, h1, h2, h3, h4.setRow g cs h5, h5⟩
theorem Rst.tail {g : Nat} {w : World} {y : Addr} {q : List UInt8} {Q : List (List UInt8)} {k c : Nat} (hA : At w (some y) (q :: Q)) (hy : y.block ≠ g) (hk : (q :: Q).length = k) (hc : k ≤ c) (hc2 : c ≤ 8796093021952) : Rst g w (.slice (some ⟨y.block, y.off + 1, none⟩) (k - 1) (c - 1)) Q := by
  have hk' : k - 1 = Q.length := by rw [← hk]; rfl
  refine ⟨some (y.add 1), c - 1, by rw [hk']; rfl, by omega, by omega, hA.drop 1, ?_⟩
  rintro x hx
  obtain rfl := Option.some.inj hx
  rw [addr_block]; exact hy
theorem Rst.last {g : Nat} {w : World} {y : Addr} {q : List UInt8} {Q : List (List UInt8)} {k : Nat} (hy : y.block ≠ g) (hk : (q :: Q).length = k) (hc : k ≤ 1) : Rst g w (.slice (some y) 0 0) Q := by
  have hQ : Q = [] := List.length_eq_zero_iff.1 (by simp at hk; omega)
  subst hQ
  refine ⟨some y, 0, rfl, by simp, by omega, At.nil _ _, ?_⟩
  rintro x hx
  obtain rfl := Option.some.inj hx
  exact hy
end Go.Proofs.YtjcapdkibbjmiaaGreatDoor

namespace Go.Proofs.YtjcapdkibbjmiaaGreatDoor
open Go.RowKit
theorem str_ne {a b : List UInt8} (h : a ≠ b) : ((ByteArray.mk a.toArray).toList != (ByteArray.mk b.toArray).toList) = true := by
  rw [ByteArray.toList_eq, ByteArray.toList_eq]
  show (a != b) = true
  simpa using h
theorem str_eq (a : List UInt8) : ((ByteArray.mk a.toArray).toList != (ByteArray.mk a.toArray).toList) = false := by simp
theorem chk_len {x : List UInt8} {l : List (List UInt8)} {n : Int} (h : chk x l n = 0) : (l.length : Int) = n ∧ x.length = 32 ∧ l.all (·.length == 32) = true := by
  unfold chk at h
  split at h
  · rename_i h1
    split at h
    · exact ⟨by assumption, h1.1, h1.2⟩
    · omega
  · omega
theorem svE : sv [] = .string ⟨#[]⟩ := rfl
end Go.Proofs.YtjcapdkibbjmiaaGreatDoor
