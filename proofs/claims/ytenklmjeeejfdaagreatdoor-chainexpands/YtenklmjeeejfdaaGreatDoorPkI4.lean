import Derived.Test.YtenklmjeeejfdaaGreatDoorPkCP9
import Derived.Test.YtenklmjeeejfdaaGreatDoorPkSP24
import Derived.WalkMore
namespace Go.Proofs.YtenklmjeeejfdaaGreatDoor
open Go.RowKit
set_option maxRecDepth 100000 in
set_option maxHeartbeats 2000000 in
theorem steps_any (p l : Nat) (hp : p ≤ l) (hl : l < 9223372036854775807) (w : World) :
    Calls Tryz.prog 131 #[wy p l] w fun e w' => e = .returned (.int .i64 ((Tree.U p l).length : Nat)) ∧ Below w.heap.size w w' := by
  obtain ⟨T, hT⟩ : ∃ T, Hid ((Tree.U p l).length = T) := ⟨_, rfl⟩
  go_enter Tryz.func131, Tryz.ntmps131
  go_wp2
  go_loopw [3] (fun c w' => ∃ x y C : Nat, c = .int .i64 (C : Int) ∧ x ≤ y ∧ C + y ≤ l ∧ Hid (C + (Tree.U x y).length = T) ∧ Hid (Wy w' w.heap.size x y) ∧ Hid (Below w.heap.size w w')) (fun _ w' => numAt w' w.heap.size 1)
  case atStart => exact ⟨p, l, 0, rfl, hp, by omega, by unfold Hid; rw [Nat.zero_add]; exact hT.out, Wy.new w p l, (Below.refl _ _).alloc (Nat.le_refl _) _⟩
  case round =>
    obtain ⟨x, y, C, rfl, hxy, hC, hU, hW, hB⟩ := hrel
    have c0 := hW.out.c0
    have c1 := hW.out.c1
    by_cases h0 : y = 0
    · subst h0
      have e := hid (show T = C by have := hU.out; rw [Tree.U_zero] at this; simpa using this.symm)
      go_wp2
      go_ret
      exact ⟨by rw [hT.out, e.out]; rfl, hB.out⟩
    · have b0 : ((y : Int) != 0) = true := by simp; omega
      have b1 : ((y : Int) == 0) = false := by simp; omega
      have hc := above_any x y hxy h0 (by omega) wr
      go_wp2_with (first
        | ((with_reducible show wpList _ _ _ (Oper.mk _ (Op.load 137 _) _ _ _ _ :: _) _ _); go_must (refine wpList_load_row rfl 137 _ rfl w.heap.size rfl 137 _ (0, 0) _ hW.out.row Tryz.underlying137 rfl (sizeW' _ _) ?_))
        | (go_at_call 117; refine hc.mono ?_; rintro e w1 ⟨x', y', rfl, hw1, hx', hy', hU'⟩)
        | ((with_reducible show wpList _ _ _ (Oper.mk _ (Op.store 137 _ _) _ _ _ _ :: _) _ _); go_must (refine wpList_store_row rfl 137 _ _ rfl w.heap.size _ rfl rfl 137 _ (hW.out.below hw1).row (sizeW' _ _) rfl (oneW _ _) ?_)))
      have hW1 := (hW.out.below hw1).set x' y'
      have hm : numAt (w1.setRow w.heap.size #[.int .i64 (x' : Int), .int .i64 (y' : Int)]) w.heap.size 1 < numAt wr w.heap.size 1 := by rw [hW1.n1, hW.out.n1]; exact hy'
      refine ⟨?_, hm⟩
      have fin : ∃ x y C' : Nat, Value.int .i64 ((C : Int) + 1) = .int .i64 (C' : Int) ∧ x ≤ y ∧ C' + y ≤ l ∧ Hid (C' + (Tree.U x y).length = T) ∧ Hid (Wy (w1.setRow w.heap.size #[.int .i64 (x' : Int), .int .i64 (y' : Int)]) w.heap.size x y) ∧ Hid (Below w.heap.size w (w1.setRow w.heap.size #[.int .i64 (x' : Int), .int .i64 (y' : Int)])) :=
        ⟨x', y', C + 1, by go_num, hx', by omega, by have := hU.out; rw [hU'.out] at this; unfold Hid; simp at this; omega, hid hW1, hid (Below.setRow (hB.out.trans (hw1.mono hB.out.size)) (Nat.le_refl _) _)⟩
      first
        | exact fin
        | (repeat apply Exists.intro
           exact ⟨fin, rfl⟩)
set_option maxRecDepth 100000 in
set_option maxHeartbeats 2000000 in
theorem proofWay_any (m n : Nat) (hm : 1 ≤ m) (hn : 1 ≤ n) (h1 : m < 9223372036854775807) (h2 : n < 9223372036854775807) (w : World) :
    Calls Tryz.prog 93 #[.int .i64 m, .int .i64 n] w fun e w' => e = .returned (wy (Tree.St (m - 1) (n - 1)).1 (Tree.St (m - 1) (n - 1)).2) ∧ Below w.heap.size w w' := by
  have e1 : ((n : Int) - 1) = ((n - 1 : Nat) : Int) := by omega
  have e2 : ((m : Int) - 1) = ((m - 1 : Nat) : Int) := by omega
  obtain ⟨P, L, hT⟩ : ∃ P L, Hid (Tree.St (m - 1) (n - 1) = (P, L)) := ⟨_, _, rfl⟩
  go_enter Tryz.func93, Tryz.ntmps93
  go_wp2
  go_loopw [] (fun w' => ∃ x y : Nat, x < 9223372036854775807 ∧ y < 9223372036854775807 ∧ Hid (Tree.St x y = (P, L)) ∧ Hid (Wy w' (w.heap.size + 1) x y) ∧ Hid (Wy w' w.heap.size 0 0) ∧ Hid (Below w.heap.size w w')) (fun w' => numAt w' (w.heap.size + 1) 0)
  case atStart =>
    have s1 := size_alloc w (.cells #[Value.int .i64 0, Value.int .i64 0] 137)
    refine ⟨m - 1, n - 1, by omega, by omega, hT, ?_, (Below.heap_alloc _ _ _ (by omega)).trans (heap_alloc_new w _), ((Below.refl _ _).alloc (Nat.le_refl _) _).alloc (by omega) _⟩
    show _ = some (Obj.cells #[.int .i64 ((m - 1 : Nat) : Int), .int .i64 ((n - 1 : Nat) : Int)] _ _)
    rw [← e1, ← e2]
    exact heap_alloc_at _ _ _ s1
  case round =>
    obtain ⟨x, y, hx, hy, hU, hW, hR, hB⟩ := hrel
    have c0 := hW.out.c0
    have c1 := hW.out.c1
    by_cases ho : x % 2 = 1
    · have b0 : (x : Int) % 2 = 1 := by omega
      have b1 : ((x : Int) % 2 == 1) = true := by simp; omega
      have hc := halved_any x y (by omega) (by omega) wr
      go_wp2_with (first
        | ((with_reducible show wpList _ _ _ (Oper.mk _ (Op.load 137 _) _ _ _ _ :: _) _ _); go_must (refine wpList_load_row rfl 137 _ rfl (w.heap.size + 1) rfl 137 _ (0, 0) _ hW.out.row Tryz.underlying137 rfl (sizeW' _ _) ?_))
        | (go_at_call 118; refine hc.mono ?_; rintro e w1 ⟨rfl, hw1⟩)
        | ((with_reducible show wpList _ _ _ (Oper.mk _ (Op.store 137 _ _) _ _ _ _ :: _) _ _); go_must (refine wpList_store_row rfl 137 _ _ rfl (w.heap.size + 1) _ rfl rfl 137 _ (hW.out.below hw1).row (sizeW' _ _) rfl (oneW _ _) ?_)))
      have hW1 := (hW.out.below hw1).set (x / 2) (y / 2)
      have hm : numAt (w1.setRow (w.heap.size + 1) #[.int .i64 ((x / 2 : Nat) : Int), .int .i64 ((y / 2 : Nat) : Int)]) (w.heap.size + 1) 0 < numAt wr (w.heap.size + 1) 0 := by rw [hW1.n0, hW.out.n0]; omega
      refine ⟨?_, hm⟩
      repeat apply Exists.intro
      exact ⟨⟨x / 2, y / 2, by omega, by omega, hid ((Tree.St_odd y ho).symm.trans hU.out), hid hW1, hid ((hR.out.below hw1).setO _ (by omega)), hid (Below.setRow (hB.out.trans (hw1.mono hB.out.size)) (by omega) _)⟩, rfl⟩
    · have b0 : ¬ (x : Int) % 2 = 1 := by omega
      have b1 : ((x : Int) % 2 == 1) = false := by simp; omega
      have e := hid ((Tree.St_even y ho).symm.trans hU.out)
      go_wp2_with (first
        | ((with_reducible show wpList _ _ _ (Oper.mk _ (Op.load 137 _) _ _ _ _ :: _) _ _); go_must (refine wpList_load_row rfl 137 _ rfl (w.heap.size + 1) rfl 137 _ (0, 0) _ hW.out.row Tryz.underlying137 rfl (sizeW' _ _) ?_))
        | ((with_reducible show wpList _ _ _ (Oper.mk _ (Op.store 137 _ _) _ _ _ _ :: _) _ _); go_must (refine wpList_store_row rfl 137 _ _ rfl w.heap.size _ rfl rfl 137 _ hR.out.row (sizeW' _ _) rfl (oneW _ _) ?_)))
      refine bodyPost_ret (v := wy x y) (results_cell_row rfl _ _ w.heap.size 137 _ (0, 0) _ rfl (hR.out.set x y).row Tryz.underlying137 rfl (sizeW' _ _)) rfl ⟨?_, ?_⟩
      · rw [hT.out, ← e.out]
      · exact Below.setRow hB.out (Nat.le_refl _) _
end Go.Proofs.YtenklmjeeejfdaaGreatDoor

namespace Go.Proofs.YtenklmjeeejfdaaGreatDoor
open Go.RowKit
def szs (m n : Int) : Int := if m < 1 ∨ n < m ∨ 1099511627776 < n then 41 else 0
set_option maxRecDepth 100000 in
set_option maxHeartbeats 2000000 in
theorem checkSizes_any (m n : Int) (w : World) :
    Calls Tryz.prog 112 #[.int .i64 m, .int .i64 n] w fun e w' => e = .returned (.int .i64 (szs m n)) ∧ w' = w := by
  by_cases h1 : m < 1
  · rw [szs, if_pos (Or.inl h1)]
    go_enter Tryz.func112, Tryz.ntmps112
    go_wp2
    go_ret
    exact ⟨rfl, rfl⟩
  · by_cases h2 : n < m
    · rw [szs, if_pos (Or.inr (Or.inl h2))]
      go_enter Tryz.func112, Tryz.ntmps112
      go_wp2
      go_ret
      exact ⟨rfl, rfl⟩
    · by_cases h3 : 1099511627776 < n
      · rw [szs, if_pos (Or.inr (Or.inr h3))]
        go_enter Tryz.func112, Tryz.ntmps112
        go_wp2
        go_ret
        exact ⟨rfl, rfl⟩
      · rw [szs, if_neg (by omega)]
        go_enter Tryz.func112, Tryz.ntmps112
        go_wp2
        go_ret
        exact ⟨rfl, rfl⟩
theorem Tree.pl_St {m n P L : Nat} (h1 : 1 ≤ m) (h2 : m < n) (h : Tree.St (m - 1) (n - 1) = (P, L)) : Tree.pl m n true = (Tree.U P L).length + if P = 0 then 0 else 1 := by
  obtain ⟨a, b⟩ := Tree.PD_SU _ m n (Nat.le_refl _) h1 h2
  unfold Tree.pl Tree.fl
  rw [b, a]
  unfold Tree.SU
  rw [h]
  by_cases hp : P = 0
  · simp [hp]
  · simp [hp]
set_option maxRecDepth 100000 in
set_option maxHeartbeats 2000000 in
theorem proofLen_any (m n : Nat) (h1 : 1 ≤ m) (h2 : m ≤ n) (hn : n ≤ 1099511627776) (w : World) :
    Calls Tryz.prog 113 #[.int .i64 m, .int .i64 n] w fun e w' => e = .returned (.int .i64 (Tree.pl m n true : Nat)) ∧ Below w.heap.size w w' := by
  by_cases h : m = n
  · subst h
    rw [Tree.pl_same]
    have b0 : ((m : Int) == (m : Int)) = true := by simp
    go_enter Tryz.func113, Tryz.ntmps113
    go_wp2
    go_ret
    exact ⟨rfl, Below.refl _ _⟩
  · have b0 : ((m : Int) == (n : Int)) = false := by simp; omega
    have hq := proofWay_any m n h1 (by omega) (by omega) (by omega) w
    have hlt := Tree.St_lt (m - 1) (n - 1) (by omega)
    have hle := Tree.St_le (m - 1) (n - 1)
    obtain ⟨P, L, hS⟩ : ∃ P L, Tree.St (m - 1) (n - 1) = (P, L) := ⟨_, _, rfl⟩
    have e := hid (Tree.pl_St h1 (by omega) hS)
    rw [hS] at hq hlt hle
    simp only at hq hlt hle
    have hs := steps_any P L (by omega) (by omega)
    have hul := Tree.U_len 40 P L (by omega)
    generalize Tree.pl m n true = T at *
    generalize (Tree.U P L).length = U at *
    clear hS
    by_cases hP : P = 0
    · subst hP
      have e' := hid (show T = U by have := e.out; simpa using this)
      clear e
      go_enter Tryz.func113, Tryz.ntmps113
      go_wp2_with (first
        | (go_at_call 93; refine hq.mono ?_; rintro e w1 ⟨rfl, hw1⟩)
        | (go_at_call 131; refine (hs _).mono ?_; rintro e w2 ⟨rfl, hw2⟩))
      go_ret
      have hb := hw1.alloc hw1.size (.cells #[Value.int .i64 ((0 : Nat) : Int), Value.int .i64 (L : Int)] 137)
      exact ⟨by rw [e'.out]; rfl, hb.trans (hw2.mono hb.size)⟩
    · have b1 : ((P : Int) == 0) = false := by simp; omega
      have e' := hid (show T = U + 1 by have := e.out; simpa [hP] using this)
      clear e
      go_enter Tryz.func113, Tryz.ntmps113
      go_wp2_with (first
        | (go_at_call 93; refine hq.mono ?_; rintro e w1 ⟨rfl, hw1⟩)
        | (go_at_call 131; refine (hs _).mono ?_; rintro e w2 ⟨rfl, hw2⟩))
      go_ret
      have hb := hw1.alloc hw1.size (.cells #[Value.int .i64 (P : Int), Value.int .i64 (L : Int)] 137)
      exact ⟨by rw [e'.out]; go_num, hb.trans (hw2.mono hb.size)⟩
set_option maxRecDepth 100000 in
set_option maxHeartbeats 2000000 in
theorem ProofLen_any (m n : Int) (w : World) :
    Calls Tryz.prog 90 #[.int .i64 m, .int .i64 n] w fun e w' => e = .returned (.tuple #[.int .i64 (prfLen m n).1, .int .i64 (prfLen m n).2]) ∧ Below w.heap.size w w' := by
  have h1 := checkSizes_any m n w
  by_cases h : m < 1 ∨ n < m ∨ 1099511627776 < n
  · rw [prfLen, if_pos h]
    rw [szs, if_pos h] at h1
    clear h
    go_enter Tryz.func90, Tryz.ntmps90
    go_wp2_with (go_at_call 112; refine h1.mono ?_; rintro e w1 ⟨rfl, rfl⟩)
    go_ret2
    exact ⟨rfl, Below.refl _ _⟩
  · rw [prfLen, if_neg h]
    rw [szs, if_neg h] at h1
    have h2 := proofLen_any m.toNat n.toNat (by omega) (by omega) (by omega) w
    rw [Int.toNat_of_nonneg (by omega), Int.toNat_of_nonneg (by omega)] at h2
    generalize Tree.pl m.toNat n.toNat true = L at *
    clear h
    go_enter Tryz.func90, Tryz.ntmps90
    go_wp2_with (first
      | (go_at_call 112; refine h1.mono ?_; rintro e w1 ⟨rfl, rfl⟩)
      | (go_at_call 113; refine h2.mono ?_; rintro e w2 ⟨rfl, hw2⟩))
    go_ret2
    exact ⟨rfl, hw2⟩
end Go.Proofs.YtenklmjeeejfdaaGreatDoor

namespace Go.Proofs.YtenklmjeeejfdaaGreatDoor
open Go.RowKit
set_option maxRecDepth 100000 in
set_option maxHeartbeats 2000000 in
theorem vnode_any {l r m : List UInt8} (h : Hid (Tree.nd l r = m)) (w : World) (T : Tabs w) :
    Calls Tryz.prog 116 #[sv l, sv r] w fun e w' => e = .returned (sv m) ∧ Below w.heap.size w w' := by
  obtain ⟨m', d, hm⟩ : ∃ m' d, Hid (nodeOf l r = (m', d)) := ⟨_, _, rfl⟩
  have e' := hid (show m = m' by rw [← h.out, ← nodeOf_nd, hm.out])
  go_enter Tryz.func116, Tryz.ntmps116
  go_wp2_with (go_at_call 101; refine (node_at hm _ T).mono ?_; rintro e w1 ⟨rfl, hw1⟩)
  go_ret
  exact ⟨by rw [e'.out]; rfl, hw1⟩
set_option maxRecDepth 100000 in
set_option maxHeartbeats 2000000 in
theorem isHash_any (s : ByteArray) (w : World) :
    Calls Tryz.prog 68 #[.string s] w fun e w' => e = .returned (.bool ((s.size : Int) == 32)) ∧ w' = w := by
  go_enter Tryz.func68, Tryz.ntmps68
  go_wp2
  go_ret
  exact ⟨rfl, rfl⟩
def chk (x : List UInt8) (l : List (List UInt8)) (n : Int) : Int := if x.length = 32 ∧ l.all (·.length == 32) = true then (if (l.length : Int) = n then 0 else 43) else 42
theorem isHash_at (s : ByteArray) (b : Bool) (h : ((s.size : Int) == 32) = b) (w : World) :
    Calls Tryz.prog 68 #[.string s] w fun e w' => e = .returned (.bool b) ∧ w' = w := by
  have := isHash_any s w
  rwa [h] at this
set_option maxRecDepth 100000 in
set_option maxHeartbeats 2000000 in
theorem checkHashes_any (x : List UInt8) (l : List (List UInt8)) (n : Int) (a : Option Addr) (cap : Nat) (w : World) (hc : l.length ≤ 9223372036854775807) (hA : At w a l) :
    Calls Tryz.prog 91 #[sv x, .slice a l.length cap, .int .i64 n] w fun e w' => e = .returned (.int .i64 (chk x l n)) ∧ w' = w := by
  have hx : (ByteArray.mk x.toArray).size = x.length := sv_size x
  show Calls _ _ #[.string ⟨x.toArray⟩, _, _] _ _
  generalize ByteArray.mk x.toArray = X at *
  by_cases h1 : x.length = 32
  · have i1 := isHash_at X true (by simp; omega) w
    have e0 : chk x l n = if l.all (·.length == 32) = true then (if (l.length : Int) = n then 0 else 43) else 42 := by unfold chk; simp [h1]
    rw [e0]
    clear e0 h1 hx
    generalize hn : l.length = k at *
    have HA := hid hA
    obtain ⟨z, hz⟩ : ∃ z : Int, Hid ((if l.all (·.length == 32) = true then (if (k : Int) = n then 0 else 43) else 42) = z) := ⟨_, rfl⟩
    rw [hz.out]
    clear hA
    go_enter Tryz.func91, Tryz.ntmps91
    go_wp2_with (go_at_call 68; refine i1.mono ?_; rintro e w1 ⟨rfl, rfl⟩)
    go_loopw [14] (fun i w' => ∃ j : Nat, j ≤ k ∧ i = .int .i64 (j : Int) ∧ Hid ((l.take j).all (·.length == 32) = true) ∧ w' = w1) (fun i _ => k - (intOf i).toNat)
    case atStart => exact ⟨0, by omega, rfl, rfl, rfl⟩
    case round =>
      obtain ⟨j, hj, rfl, hall, rfl⟩ := hrel
      by_cases hjk : j < k
      · have b0 : (j : Int) < (k : Int) := by omega
        obtain ⟨y, rfl⟩ := HA.out.pos (by omega)
        obtain ⟨s, hs, hcell⟩ := HA.out.cell j (by omega)
        by_cases h32 : s.size = 32
        · have i2 := isHash_at s true (by simp; omega) wr
          have e2 := hid (all_take l j (by omega) hall.out (by rw [← hs.out, data_length]; exact h32))
          clear HA hall hs i1
          go_wp2_with (go_at_call 68; refine i2.mono ?_; rintro e w2 ⟨rfl, rfl⟩)
          exact ⟨⟨j + 1, by omega, by go_num, e2, trivial⟩, by simp [intOf]; omega⟩
        · have i2 := isHash_at s false (by simp; omega) wr
          have e2 := hid (all_not l j (by omega) (by rw [← hs.out, data_length]; exact h32))
          have e3 := hid (show z = 42 by have := hz.out; rw [e2.out] at this; exact this.symm)
          clear HA hall hs i1 e2 hz
          go_wp2_with (go_at_call 68; refine i2.mono ?_; rintro e w2 ⟨rfl, rfl⟩)
          go_ret
          exact ⟨by rw [e3.out]; rfl, rfl⟩
      · obtain rfl : j = k := by omega
        have b0 : ¬ (j : Int) < (j : Int) := by omega
        rw [← hn, List.take_length] at hall
        by_cases hk : (j : Int) = n
        · have b1 : ((j : Int) != n) = false := by simp; omega
          have e3 := hid (show z = 0 by have := hz.out; rw [hall.out, if_pos rfl, if_pos hk] at this; exact this.symm)
          clear HA hall hz i1
          go_wp2
          go_ret
          exact ⟨by rw [e3.out]; rfl, rfl⟩
        · have b1 : ((j : Int) != n) = true := by simp; omega
          have e3 := hid (show z = 43 by have := hz.out; rw [hall.out, if_pos rfl, if_neg hk] at this; exact this.symm)
          clear HA hall hz i1
          go_wp2
          go_ret
          exact ⟨by rw [e3.out]; rfl, rfl⟩
  · have i1 := isHash_at X false (by simp; omega) w
    have e0 : chk x l n = 42 := by unfold chk; rw [if_neg (fun h => h1 h.1)]
    rw [e0]
    clear e0 hx
    generalize l.length = k at *
    clear hA
    go_enter Tryz.func91, Tryz.ntmps91
    go_wp2_with (go_at_call 68; refine i1.mono ?_; rintro e w1 ⟨rfl, rfl⟩)
    go_ret
    exact ⟨rfl, rfl⟩
set_option maxRecDepth 100000 in
set_option maxHeartbeats 2000000 in
theorem vcopied_any (l : List (List UInt8)) (a : Option Addr) (cap : Nat) (w : World) (hn : l.length ≤ 8796093021952) (hA : At w a l) :
    Calls Tryz.prog 114 #[.slice a l.length cap] w fun e w' => e = .returned (.slice (some ⟨w.heap.size, 0, none⟩) l.length l.length) ∧ Row w' w.heap.size l ∧ Below w.heap.size w w' := by
  have hmk := make_texts w l.length (by omega)
  have R1 : Row (w.alloc (.cells (svs (List.replicate l.length [])).toArray 9)) w.heap.size (List.replicate l.length [] ++ []) := by
    rw [List.append_nil]; exact heap_alloc_new w _
  have hb1 := (Below.refl w.heap.size w).alloc (Nat.le_refl _) (.cells (svs (List.replicate l.length [])).toArray 9)
  obtain ⟨w2, hcp, hR2, hb2⟩ := copy_texts _ w.heap.size a cap l [] (hA.below hb1 (Nat.le_refl _)) R1 l.length l.length (by simp)
  have HB2 := hid (show Below w.heap.size w w2 from hb1.trans (hb2.below (Nat.le_refl _) (by rw [size_alloc]; omega)))
  rw [List.append_nil] at hR2
  have HR2 := hid hR2
  clear hR2 R1 hb2 hb1 hA
  generalize w.alloc (.cells (svs (List.replicate l.length [])).toArray 9) = w1 at *
  generalize l.length = n at *
  go_enter Tryz.func114, Tryz.ntmps114
  go_wp2
  go_ret
  exact ⟨rfl, HR2.out, HB2.out⟩
end Go.Proofs.YtenklmjeeejfdaaGreatDoor

namespace Go.Proofs.YtenklmjeeejfdaaGreatDoor
open Go.RowKit
theorem Wy.f0 {w : World} {g p l : Nat} (h : Wy w g p l) : w.frozen? ⟨g, 0, none⟩ = false := frozen_of_row _ _ _ _ _ h
theorem Wy.f1 {w : World} {g p l : Nat} (h : Wy w g p l) : w.frozen? ⟨g, 1, none⟩ = false := frozen_of_row _ _ _ _ _ h
theorem Wy.two {w : World} {g p l : Nat} (h : Wy w g p l) (p' l' : Nat) : (w.setCell ⟨g, 0, none⟩ (.int .i64 (p' : Int))).setCell ⟨g, 1, none⟩ (.int .i64 (l' : Int)) = w.setRow g #[.int .i64 (p' : Int), .int .i64 (l' : Int)] := by
  rw [setCell_eq_setRow w g 0 _ _ _ _ h, setCell_eq_setRow _ g 1 _ _ _ _ (setRow_heap _ _ _ _ _ _ h), setRow_setRow]
  rfl
theorem At.setRow {w : World} {a : Option Addr} {l : List (List UInt8)} (h : At w a l) (g : Nat) (cs : Array Value) (hne : ∀ x, a = some x → x.block ≠ g) : At (w.setRow g cs) a l := fun j p hp => by
  obtain ⟨x, rfl, hx, hc⟩ := h j p hp
  refine ⟨x, rfl, by rw [setRow_size]; exact hx, ?_⟩
  rw [← hc]
  exact World.cell?_of_block (w := w) (by rw [addr_block]; exact setRow_other w g _ cs (hne x rfl))
theorem Tree.U_ne : ∀ (y x : Nat), x ≤ y → y ≠ 0 → Tree.U x y ≠ [] := by
  intro y
  induction y using Nat.strongRecOn with
  | ind y ih =>
    intro x hx h0
    by_cases hs : x = y ∧ x % 2 = 0
    · obtain ⟨rfl, hs⟩ := hs
      rw [Tree.U_skip h0 hs]
      exact ih (x / 2) (by omega) (x / 2) (Nat.le_refl _) (by omega)
    · rw [Tree.U_step h0 hs]; simp
def Rst (g : Nat) (w : World) (v : Value) (Q : List (List UInt8)) : Prop := ∃ a c, v = .slice a Q.length c ∧ Q.length ≤ c ∧ c ≤ 8796093021952 ∧ At w a Q ∧ ∀ x, a = some x → x.block ≠ g
theorem Rst.setRow {g : Nat} {w : World} {v : Value} {Q : List (List UInt8)} (h : Rst g w v Q) (cs : Array Value) : Rst g (w.setRow g cs) v Q := by
  obtain ⟨a, c, h1, h2, h3, h4, h5⟩ := h
  exact ⟨a, c, h1, h2, h3, h4.setRow g cs h5, h5⟩
theorem Rst.tail {g : Nat} {w : World} {y : Addr} {q : List UInt8} {Q : List (List UInt8)} {k c : Nat} (hA : At w (some y) (q :: Q)) (hy : y.block ≠ g) (hk : (q :: Q).length = k) (hc : k ≤ c) (hc2 : c ≤ 8796093021952) : Rst g w (.slice (some ⟨y.block, y.off + 1, none⟩) (k - 1) (c - 1)) Q := by
  have hk' : k - 1 = Q.length := by rw [← hk]; rfl
  refine ⟨some (y.add 1), c - 1, by rw [hk']; rfl, by omega, by omega, hA.drop 1, ?_⟩
  rintro x hx
  obtain rfl := Option.some.inj hx
  rw [addr_block]; exact hy
theorem Rst.last {g : Nat} {w : World} {y : Addr} {q : List UInt8} {Q : List (List UInt8)} {k : Nat} (hy : y.block ≠ g) (hk : (q :: Q).length = k) (hc : k ≤ 1) : Rst g w (.slice (some y) 0 0) Q := by
  have hQ : Q = [] := List.length_eq_zero_iff.1 (by simp at hk; omega)
  subst hQ
  refine ⟨some y, 0, rfl, by simp, by omega, At.nil _ _, ?_⟩
  rintro x hx
  obtain rfl := Option.some.inj hx
  exact hy
end Go.Proofs.YtenklmjeeejfdaaGreatDoor

namespace Go.Proofs.YtenklmjeeejfdaaGreatDoor
open Go.RowKit
theorem str_ne {a b : List UInt8} (h : a ≠ b) : ((ByteArray.mk a.toArray).toList != (ByteArray.mk b.toArray).toList) = true := by
  rw [ByteArray.toList_eq, ByteArray.toList_eq]
  show (a != b) = true
  simpa using h
theorem str_eq (a : List UInt8) : ((ByteArray.mk a.toArray).toList != (ByteArray.mk a.toArray).toList) = false := by simp
theorem chk_len {x : List UInt8} {l : List (List UInt8)} {n : Int} (h : chk x l n = 0) : (l.length : Int) = n ∧ x.length = 32 ∧ l.all (·.length == 32) = true := by
  unfold chk at h
  split at h
  · rename_i h1
    split at h
    · exact ⟨by assumption, h1.1, h1.2⟩
    · omega
  · omega
theorem svE : sv [] = .string ⟨#[]⟩ := rfl
end Go.Proofs.YtenklmjeeejfdaaGreatDoor

namespace Go.Proofs.YtenklmjeeejfdaaGreatDoor
open Go.RowKit
set_option maxRecDepth 100000 in
set_option maxHeartbeats 8000000 in
theorem goUpProof_zero (p l : Nat) (hp0 : p = 0) (old : List UInt8) (proof : List (List UInt8)) (a : Option Addr) (cap : Nat) (w : World) (hl : l < 9223372036854775807) (hlen : proof.length = (Tree.U p l).length) (hA : At w a proof) (T : Tabs w) (hpl : proof.length ≤ 1000) :
    Calls Tryz.prog 92 #[wy p l, sv old, .slice a proof.length cap] w fun e w' => e = .returned (.tuple #[sv (Tree.upd2 old old (Tree.U p l) proof).1, sv (Tree.upd2 old old (Tree.U p l) proof).2]) ∧ Below w.heap.size w w' := by
  have hp : p ≤ l := by omega
  obtain ⟨XA, XB, hX⟩ : ∃ XA XB, Hid (Tree.upd2 old old (Tree.U p l) proof = (XA, XB)) := ⟨_, _, rfl⟩
  rw [hX.out]
  have hb0 := (Below.refl w.heap.size w).alloc (Nat.le_refl _) (.cells #[Value.int .i64 (p : Int), Value.int .i64 (l : Int)] 137)
  have hc := vcopied_any proof a cap (w.alloc (.cells #[Value.int .i64 (p : Int), Value.int .i64 (l : Int)] 137)) (by omega) (hA.below hb0 (Nat.le_refl _))
  have HT := hid T
  have hT := T.lt
  have HB0 := hid hb0
  have HW0 := hid (Wy.new w p l)
  obtain ⟨n, hn⟩ : ∃ n, Hid (proof.length = n) := ⟨_, rfl⟩
  rw [hn.out] at hc ⊢
  have Hlen := hid hlen
  have Hp0 := hid hp0
  clear hp0
  clear hA T hb0 hlen
  go_enter Tryz.func92, Tryz.ntmps92
  go_wp2
  go_step3
  go_wp2_with (go_at_call 114; fail)
  refine hc.mono ?_
  rintro e w1 ⟨rfl, hR, hw1⟩
  have cW := (HW0.out.below hw1).c0
  have b7 : ((p : Int) != 0) = false := by have := Hp0.out; simp; omega
  go_wp2
  go_step3
  go_wp2
  have hW1 := hid (HW0.out.below hw1)
  have hB1 := hid (HB0.out.trans (hw1.mono HB0.out.size))
  have hne : (⟨(w.alloc (.cells #[Value.int .i64 (p : Int), Value.int .i64 (l : Int)] 137)).heap.size, 0, none⟩ : Addr).block ≠ w.heap.size := by
    show (w.alloc _).heap.size ≠ _
    rw [size_alloc]; omega
  have hR1 : Hid (Rst w.heap.size w1 (.slice (some ⟨(w.alloc (.cells #[Value.int .i64 (p : Int), Value.int .i64 (l : Int)] 137)).heap.size, 0, none⟩) n n) proof) := by
    refine ⟨_, n, by rw [hn.out], by rw [hn.out]; omega, by rw [← hn.out]; omega, hR.at, ?_⟩
    rintro x hx
    obtain rfl := Option.some.inj hx
    exact hne
  clear hc HW0 HB0 hw1 hR hne
  rw [size_alloc] at hR1
  go_loopw [6, 7, 8] (fun va vb rest w' => ∃ x y A B Q, va = sv A ∧ vb = sv B ∧ x ≤ y ∧ y ≤ l ∧ Hid (Q.length = (Tree.U x y).length) ∧ Hid (Tree.upd2 A B (Tree.U x y) Q = (XA, XB)) ∧ Hid (Rst w.heap.size w' rest Q) ∧ Hid (Wy w' w.heap.size x y) ∧ Hid (Below w.heap.size w w')) (fun _ _ _ w' => numAt w' w.heap.size 1)
  case atStart => exact ⟨p, l, old, old, proof, rfl, rfl, hp, Nat.le_refl _, Hlen, hX, hR1, hW1, hB1⟩
  case round =>
    clear Hlen hX hR1 hW1 hB1
    obtain ⟨x, y, A, B, Q, rfl, rfl, hxy, hyl, hQl, hU, hQ, hW, hB⟩ := hrel
    have c0 := hW.out.c0
    have c1 := hW.out.c1
    by_cases h0 : y = 0
    · subst h0
      have e := hid (show (A, B) = (XA, XB) by have := hU.out; rw [Tree.U_zero] at this; exact this)
      have eA := hid (congrArg Prod.fst e.out)
      have eB := hid (congrArg Prod.snd e.out)
      go_wp2
      try rw [Exit.noGoto_ret]
      go_ret2
      exact ⟨by rw [← show A = XA from eA.out, ← show B = XB from eB.out]; rfl, hB.out⟩
    · have b1 : ((y : Int) == 0) = false := by simp; omega
      obtain ⟨a', c', rfl, hc1, hc2, hAt, hab'⟩ := hQ.out
      have hab := above_any x y hxy h0 (by omega)
      have hfl := fromLeft_any x y (by omega) (by omega) wr
      match Q, hQl, hU, hc1, hAt with
      | [], hQl, _, _, _ =>
        exact absurd (List.length_eq_zero_iff.1 hQl.out.symm) (Tree.U_ne y x hxy h0)
      | q :: Q, hQl, hU, hc1, hAt =>
        obtain ⟨y1, rfl⟩ := hAt.pos (by simp)
        have hyg := hab' y1 rfl
        obtain ⟨z, hz, hzb, hcell⟩ := hAt 0 q rfl
        obtain rfl := Option.some.inj hz
        rw [addr_zero] at hcell
        have hAt' := hid hAt
        clear hAt hQ hz hab'
        have hq1 : 0 < (q :: Q).length := by simp
        generalize hql : (q :: Q).length = k at *
        have Hql := hid hql
        clear hql
        by_cases hcc : c' = 1
        · subst hcc
          by_cases hd : (x % 2 == 1 || x == y) = true
          · rw [hd] at hfl
            obtain ⟨Ma, hMa⟩ : ∃ M, Hid (Tree.nd q A = M) := ⟨_, rfl⟩
            have hMa' := hMa
            obtain ⟨M, hM⟩ : ∃ M, Hid (Tree.nd q B = M) := ⟨_, rfl⟩
            have hM' := hM
            go_wp2_with (first
              | ((with_reducible show wpList _ _ _ (Oper.mk _ (Op.load 137 _) _ _ _ _ :: _) _ _); go_must (refine wpList_load_row rfl 137 _ rfl w.heap.size rfl 137 _ (0, 0) _ hW.out.row Tryz.underlying137 rfl (sizeW' _ _) ?_))
              | (go_at_call 115; fail))
            refine hfl.mono ?_
            rintro e w2 ⟨rfl, hw2⟩
            have T2 := HT.out.below (hB.out.trans (hw2.mono hB.out.size)) hT
            have hcell2 := (hw2.cell (p := y1) hzb).trans hcell
            have T2d : Tabs w2.drew := T2.below (Below.refl w2.heap.size w2).drew T2.lt
            have hzb2 := Nat.lt_of_lt_of_le hzb hw2.size
            go_wp2
            go_region_held3 (fun w' => w'.cell? y1 = some (sv q)) (first | exact hcell4 | exact hcell3 | exact hcell2) (first
              | (go_at_call 116; (with_reducible refine (vnode_any hMa w2.drew T2d).mono ?_); rintro e w3a ⟨rfl, hw3a'⟩; have hw3a := (Below.refl _ w2).drew.trans hw3a'; have hcell3 := (hw3a.cell (p := y1) hzb2).trans hcell2; have T3 := T2.below hw3a T2.lt)
              | (go_at_call 116; (with_reducible refine (vnode_any hM _ T3).mono ?_); rintro e w3 ⟨rfl, hw3b⟩; have hw3 := hw3a.trans (hw3b.mono hw3a.size); have hcell4 := (hw3.cell (p := y1) hzb2).trans hcell2))
            go_wp2
            have hb3 := hw2.trans (hw3.mono hw2.size)
            have hW3 := hW.out.below hb3
            have hAt3 := hid (hAt'.out.below hb3 (Nat.le_refl _))
            have hB3 := hid (hB.out.trans (hb3.mono hB.out.size))
            have d0 := hW3.c0
            have d1 := hW3.c1
            have hab3 := hab w3.drew
            clear hcell hcell2 hw2 T2 hfl hb3 hM hMa
            go_region_with ((go_at_call 117; refine hab3.mono ?_; rintro e w4 ⟨x', y', rfl, hw4, hx', hy', hU'⟩; have hW4 := Wy.below (show Wy w3.drew _ _ _ from hW3) hw4; have d4 := hW4.c0; have d5 := hW4.c1; have f4 := hW4.f0; have f5 := hW4.f1))
            all_goals go_wp2
            all_goals
              rw [hW4.two x' y']
              have uu := hU'.out
              rw [hd] at uu
              have hQl' : Hid (Q.length = (Tree.U x' y').length) := by
                have := hQl.out
                rw [uu, List.length_cons, ← Hql.out, List.length_cons] at this
                exact Nat.succ.inj this
              have hX' : Hid (Tree.upd2 Ma M (Tree.U x' y') Q = (XA, XB)) := by
                have := hU.out
                rw [uu] at this
                unfold Tree.upd2 at this
                rw [hMa'.out, hM'.out] at this
                exact this
              have hb4 : Below w3.heap.size w3 w4 := (Below.refl _ w3).drew.trans hw4
              have hR4 := (Rst.last (g := w.heap.size) (w := w4) hyg Hql.out (by omega)).setRow #[.int .i64 (x' : Int), .int .i64 (y' : Int)]
              have hB4 := Below.setRow (hB3.out.trans (hb4.mono hB3.out.size)) (Nat.le_refl _) #[.int .i64 (x' : Int), .int .i64 (y' : Int)]
              refine ⟨?_, by rw [(hW4.set x' y').n1, hW.out.n1]; exact hy'⟩
              repeat apply Exists.intro
              exact ⟨⟨x', y', Ma, M, Q, rfl, rfl, hx', by omega, hQl', hX', hid hR4, hid (hW4.set x' y'), hid hB4⟩, rfl⟩
          · replace hd : (x % 2 == 1 || x == y) = false := by simpa using hd
            rw [hd] at hfl
            obtain ⟨M, hM⟩ : ∃ M, Hid (Tree.nd B q = M) := ⟨_, rfl⟩
            have hM' := hM
            go_wp2_with (first
              | ((with_reducible show wpList _ _ _ (Oper.mk _ (Op.load 137 _) _ _ _ _ :: _) _ _); go_must (refine wpList_load_row rfl 137 _ rfl w.heap.size rfl 137 _ (0, 0) _ hW.out.row Tryz.underlying137 rfl (sizeW' _ _) ?_))
              | (go_at_call 115; fail))
            refine hfl.mono ?_
            rintro e w2 ⟨rfl, hw2⟩
            have T2 := HT.out.below (hB.out.trans (hw2.mono hB.out.size)) hT
            have hcell2 := (hw2.cell (p := y1) hzb).trans hcell
            go_wp2_with (go_at_call 116; refine (vnode_any hM _ T2).mono ?_; rintro e w3 ⟨rfl, hw3⟩)
            have hb3 := hw2.trans (hw3.mono hw2.size)
            have hW3 := hW.out.below hb3
            have hAt3 := hid (hAt'.out.below hb3 (Nat.le_refl _))
            have hB3 := hid (hB.out.trans (hb3.mono hB.out.size))
            have d0 := hW3.c0
            have d1 := hW3.c1
            have hab3 := hab w3.drew
            clear hcell hcell2 hw2 T2 hfl hb3 hM hw3
            go_region_with ((go_at_call 117; refine hab3.mono ?_; rintro e w4 ⟨x', y', rfl, hw4, hx', hy', hU'⟩; have hW4 := Wy.below (show Wy w3.drew _ _ _ from hW3) hw4; have d4 := hW4.c0; have d5 := hW4.c1; have f4 := hW4.f0; have f5 := hW4.f1))
            all_goals go_wp2
            all_goals
              rw [hW4.two x' y']
              have uu := hU'.out
              rw [hd] at uu
              have hQl' : Hid (Q.length = (Tree.U x' y').length) := by
                have := hQl.out
                rw [uu, List.length_cons, ← Hql.out, List.length_cons] at this
                exact Nat.succ.inj this
              have hX' : Hid (Tree.upd2 A M (Tree.U x' y') Q = (XA, XB)) := by
                have := hU.out
                rw [uu] at this
                unfold Tree.upd2 at this
                rw [hM'.out] at this
                exact this
              have hb4 : Below w3.heap.size w3 w4 := (Below.refl _ w3).drew.trans hw4
              have hR4 := (Rst.last (g := w.heap.size) (w := w4) hyg Hql.out (by omega)).setRow #[.int .i64 (x' : Int), .int .i64 (y' : Int)]
              have hB4 := Below.setRow (hB3.out.trans (hb4.mono hB3.out.size)) (Nat.le_refl _) #[.int .i64 (x' : Int), .int .i64 (y' : Int)]
              refine ⟨?_, by rw [(hW4.set x' y').n1, hW.out.n1]; exact hy'⟩
              repeat apply Exists.intro
              exact ⟨⟨x', y', A, M, Q, rfl, rfl, hx', by omega, hQl', hX', hid hR4, hid (hW4.set x' y'), hid hB4⟩, rfl⟩
        · have hcc2 : ¬ (c' : Int) = 1 := by omega
          by_cases hd : (x % 2 == 1 || x == y) = true
          · rw [hd] at hfl
            obtain ⟨Ma, hMa⟩ : ∃ M, Hid (Tree.nd q A = M) := ⟨_, rfl⟩
            have hMa' := hMa
            obtain ⟨M, hM⟩ : ∃ M, Hid (Tree.nd q B = M) := ⟨_, rfl⟩
            have hM' := hM
            go_wp2_with (first
              | ((with_reducible show wpList _ _ _ (Oper.mk _ (Op.load 137 _) _ _ _ _ :: _) _ _); go_must (refine wpList_load_row rfl 137 _ rfl w.heap.size rfl 137 _ (0, 0) _ hW.out.row Tryz.underlying137 rfl (sizeW' _ _) ?_))
              | (go_at_call 115; fail))
            refine hfl.mono ?_
            rintro e w2 ⟨rfl, hw2⟩
            have T2 := HT.out.below (hB.out.trans (hw2.mono hB.out.size)) hT
            have hcell2 := (hw2.cell (p := y1) hzb).trans hcell
            have T2d : Tabs w2.drew := T2.below (Below.refl w2.heap.size w2).drew T2.lt
            have hzb2 := Nat.lt_of_lt_of_le hzb hw2.size
            go_wp2
            go_region_held3 (fun w' => w'.cell? y1 = some (sv q)) (first | exact hcell4 | exact hcell3 | exact hcell2) (first
              | (go_at_call 116; (with_reducible refine (vnode_any hMa w2.drew T2d).mono ?_); rintro e w3a ⟨rfl, hw3a'⟩; have hw3a := (Below.refl _ w2).drew.trans hw3a'; have hcell3 := (hw3a.cell (p := y1) hzb2).trans hcell2; have T3 := T2.below hw3a T2.lt)
              | (go_at_call 116; (with_reducible refine (vnode_any hM _ T3).mono ?_); rintro e w3 ⟨rfl, hw3b⟩; have hw3 := hw3a.trans (hw3b.mono hw3a.size); have hcell4 := (hw3.cell (p := y1) hzb2).trans hcell2))
            go_wp2
            have hb3 := hw2.trans (hw3.mono hw2.size)
            have hW3 := hW.out.below hb3
            have hAt3 := hid (hAt'.out.below hb3 (Nat.le_refl _))
            have hB3 := hid (hB.out.trans (hb3.mono hB.out.size))
            have d0 := hW3.c0
            have d1 := hW3.c1
            have hab3 := hab w3.drew
            clear hcell hcell2 hw2 T2 hfl hb3 hM hMa
            go_region_with ((go_at_call 117; refine hab3.mono ?_; rintro e w4 ⟨x', y', rfl, hw4, hx', hy', hU'⟩; have hW4 := Wy.below (show Wy w3.drew _ _ _ from hW3) hw4; have d4 := hW4.c0; have d5 := hW4.c1; have f4 := hW4.f0; have f5 := hW4.f1))
            all_goals go_wp2
            all_goals
              rw [hW4.two x' y']
              have uu := hU'.out
              rw [hd] at uu
              have hQl' : Hid (Q.length = (Tree.U x' y').length) := by
                have := hQl.out
                rw [uu, List.length_cons, ← Hql.out, List.length_cons] at this
                exact Nat.succ.inj this
              have hX' : Hid (Tree.upd2 Ma M (Tree.U x' y') Q = (XA, XB)) := by
                have := hU.out
                rw [uu] at this
                unfold Tree.upd2 at this
                rw [hMa'.out, hM'.out] at this
                exact this
              have hb4 : Below w3.heap.size w3 w4 := (Below.refl _ w3).drew.trans hw4
              have hR4 := (Rst.tail (g := w.heap.size) (hAt3.out.below hb4 (Nat.le_refl _)) hyg Hql.out hc1 hc2).setRow #[.int .i64 (x' : Int), .int .i64 (y' : Int)]
              have hB4 := Below.setRow (hB3.out.trans (hb4.mono hB3.out.size)) (Nat.le_refl _) #[.int .i64 (x' : Int), .int .i64 (y' : Int)]
              refine ⟨?_, by rw [(hW4.set x' y').n1, hW.out.n1]; exact hy'⟩
              repeat apply Exists.intro
              exact ⟨⟨x', y', Ma, M, Q, rfl, rfl, hx', by omega, hQl', hX', hid hR4, hid (hW4.set x' y'), hid hB4⟩, rfl⟩
          · replace hd : (x % 2 == 1 || x == y) = false := by simpa using hd
            rw [hd] at hfl
            obtain ⟨M, hM⟩ : ∃ M, Hid (Tree.nd B q = M) := ⟨_, rfl⟩
            have hM' := hM
            go_wp2_with (first
              | ((with_reducible show wpList _ _ _ (Oper.mk _ (Op.load 137 _) _ _ _ _ :: _) _ _); go_must (refine wpList_load_row rfl 137 _ rfl w.heap.size rfl 137 _ (0, 0) _ hW.out.row Tryz.underlying137 rfl (sizeW' _ _) ?_))
              | (go_at_call 115; fail))
            refine hfl.mono ?_
            rintro e w2 ⟨rfl, hw2⟩
            have T2 := HT.out.below (hB.out.trans (hw2.mono hB.out.size)) hT
            have hcell2 := (hw2.cell (p := y1) hzb).trans hcell
            go_wp2_with (go_at_call 116; refine (vnode_any hM _ T2).mono ?_; rintro e w3 ⟨rfl, hw3⟩)
            have hb3 := hw2.trans (hw3.mono hw2.size)
            have hW3 := hW.out.below hb3
            have hAt3 := hid (hAt'.out.below hb3 (Nat.le_refl _))
            have hB3 := hid (hB.out.trans (hb3.mono hB.out.size))
            have d0 := hW3.c0
            have d1 := hW3.c1
            have hab3 := hab w3.drew
            clear hcell hcell2 hw2 T2 hfl hb3 hM hw3
            go_region_with ((go_at_call 117; refine hab3.mono ?_; rintro e w4 ⟨x', y', rfl, hw4, hx', hy', hU'⟩; have hW4 := Wy.below (show Wy w3.drew _ _ _ from hW3) hw4; have d4 := hW4.c0; have d5 := hW4.c1; have f4 := hW4.f0; have f5 := hW4.f1))
            all_goals go_wp2
            all_goals
              rw [hW4.two x' y']
              have uu := hU'.out
              rw [hd] at uu
              have hQl' : Hid (Q.length = (Tree.U x' y').length) := by
                have := hQl.out
                rw [uu, List.length_cons, ← Hql.out, List.length_cons] at this
                exact Nat.succ.inj this
              have hX' : Hid (Tree.upd2 A M (Tree.U x' y') Q = (XA, XB)) := by
                have := hU.out
                rw [uu] at this
                unfold Tree.upd2 at this
                rw [hM'.out] at this
                exact this
              have hb4 : Below w3.heap.size w3 w4 := (Below.refl _ w3).drew.trans hw4
              have hR4 := (Rst.tail (g := w.heap.size) (hAt3.out.below hb4 (Nat.le_refl _)) hyg Hql.out hc1 hc2).setRow #[.int .i64 (x' : Int), .int .i64 (y' : Int)]
              have hB4 := Below.setRow (hB3.out.trans (hb4.mono hB3.out.size)) (Nat.le_refl _) #[.int .i64 (x' : Int), .int .i64 (y' : Int)]
              refine ⟨?_, by rw [(hW4.set x' y').n1, hW.out.n1]; exact hy'⟩
              repeat apply Exists.intro
              exact ⟨⟨x', y', A, M, Q, rfl, rfl, hx', by omega, hQl', hX', hid hR4, hid (hW4.set x' y'), hid hB4⟩, rfl⟩
end Go.Proofs.YtenklmjeeejfdaaGreatDoor

namespace Go.Proofs.YtenklmjeeejfdaaGreatDoor
open Go.RowKit
theorem Rst.drewNc {g : Nat} {w : World} {v : Value} {Q : List (List UInt8)} (h : Rst g w v Q) (n : Nat) : Rst g (w.drewN n) v Q := h
theorem Wy.drewNc {w : World} {g p l : Nat} (h : Wy w g p l) (n : Nat) : Wy (w.drewN n) g p l := h
set_option maxRecDepth 100000 in
set_option maxHeartbeats 8000000 in
theorem goUpProof_more (p l : Nat) (old h : List UInt8) (t : List (List UInt8)) (a : Option Addr) (cap : Nat) (w : World) (hp : p ≤ l) (hp0 : p ≠ 0) (hl : l < 9223372036854775807) (hlen : t.length = (Tree.U p l).length) (hA : At w a (h :: t)) (T : Tabs w) (hpl : (h :: t).length ≤ 1000) (hk : 1 ≤ t.length) :
    Calls Tryz.prog 92 #[wy p l, sv old, .slice a (h :: t).length cap] w fun e w' => e = .returned (.tuple #[sv (Tree.upd2 h h (Tree.U p l) t).1, sv (Tree.upd2 h h (Tree.U p l) t).2]) ∧ Below w.heap.size w w' := by
  obtain ⟨XA, XB, hX⟩ : ∃ XA XB, Hid (Tree.upd2 h h (Tree.U p l) t = (XA, XB)) := ⟨_, _, rfl⟩
  rw [hX.out]
  have hb0 := (Below.refl w.heap.size w).alloc (Nat.le_refl _) (.cells #[Value.int .i64 (p : Int), Value.int .i64 (l : Int)] 137)
  have hc := vcopied_any (h :: t) a cap (w.alloc (.cells #[Value.int .i64 (p : Int), Value.int .i64 (l : Int)] 137)) (by omega) (hA.below hb0 (Nat.le_refl _))
  have HT := hid T
  have hT := T.lt
  have HB0 := hid hb0
  have HW0 := hid (Wy.new w p l)
  obtain ⟨n, hn⟩ : ∃ n, Hid ((h :: t).length = n) := ⟨_, rfl⟩
  rw [hn.out] at hc ⊢
  have Hlen := hid hlen
  have b7 : ((p : Int) != 0) = true := by simp; omega
  have b8 : ((p : Int) == 0) = false := by simp; omega
  have n1 : ¬ n = 1 := by rw [← hn.out, List.length_cons]; omega
  have n2 : ¬ (n : Int) = 1 := by omega
  have n3 : (0 : Int) < (n : Int) := by have := hn.out; rw [List.length_cons] at this; omega
  have n4 : 0 < n := by omega
  have n5 : (1 : Int) ≤ (n : Int) := by omega
  clear hA T hb0 hlen
  go_enter Tryz.func92, Tryz.ntmps92
  go_wp2
  go_step3
  go_wp2_with (go_at_call 114; fail)
  refine hc.mono ?_
  rintro e w1 ⟨rfl, hR, hw1⟩
  have cW := (HW0.out.below hw1).c0
  have cH := hR.cell (j := 0) (p := h) rfl
  rw [size_alloc] at cH
  go_wp2
  go_quiet (fail)
  go_wp2
  go_step3
  go_wp2
  have hW1 := hid (HW0.out.below hw1)
  have hB1 := hid (HB0.out.trans (hw1.mono HB0.out.size))
  have hne : (⟨(w.alloc (.cells #[Value.int .i64 (p : Int), Value.int .i64 (l : Int)] 137)).heap.size, 0, none⟩ : Addr).block ≠ w.heap.size := by
    show (w.alloc _).heap.size ≠ _
    rw [size_alloc]; omega
  have hR1 : Hid (Rst w.heap.size w1 (.slice (some ⟨(w.alloc (.cells #[Value.int .i64 (p : Int), Value.int .i64 (l : Int)] 137)).heap.size, 0 + 1, none⟩) (n - 1) (n - 1)) t) := (Rst.tail (g := w.heap.size) (At.heap hR.at rfl) hne hn.out (Nat.le_refl _) (by rw [← hn.out]; omega))
  clear hc HW0 HB0 hw1 hR hne
  rw [size_alloc] at hR1
  go_loopw [6, 7, 8] (fun va vb rest w' => ∃ x y A B Q, va = sv A ∧ vb = sv B ∧ x ≤ y ∧ y ≤ l ∧ Hid (Q.length = (Tree.U x y).length) ∧ Hid (Tree.upd2 A B (Tree.U x y) Q = (XA, XB)) ∧ Hid (Rst w.heap.size w' rest Q) ∧ Hid (Wy w' w.heap.size x y) ∧ Hid (Below w.heap.size w w')) (fun _ _ _ w' => numAt w' w.heap.size 1)
  case atStart => exact ⟨p, l, h, h, t, rfl, rfl, hp, Nat.le_refl _, Hlen, hX, hid (Rst.drewNc hR1.out _), hid (Wy.drewNc hW1.out _), hid (below_drewN hB1.out _)⟩
  case round =>
    clear Hlen hX hR1 hW1 hB1
    obtain ⟨x, y, A, B, Q, rfl, rfl, hxy, hyl, hQl, hU, hQ, hW, hB⟩ := hrel
    have c0 := hW.out.c0
    have c1 := hW.out.c1
    by_cases h0 : y = 0
    · subst h0
      have e := hid (show (A, B) = (XA, XB) by have := hU.out; rw [Tree.U_zero] at this; exact this)
      have eA := hid (congrArg Prod.fst e.out)
      have eB := hid (congrArg Prod.snd e.out)
      go_wp2
      try rw [Exit.noGoto_ret]
      go_ret2
      exact ⟨by rw [← show A = XA from eA.out, ← show B = XB from eB.out]; rfl, hB.out⟩
    · have b1 : ((y : Int) == 0) = false := by simp; omega
      obtain ⟨a', c', rfl, hc1, hc2, hAt, hab'⟩ := hQ.out
      have hab := above_any x y hxy h0 (by omega)
      have hfl := fromLeft_any x y (by omega) (by omega) wr
      match Q, hQl, hU, hc1, hAt with
      | [], hQl, _, _, _ =>
        exact absurd (List.length_eq_zero_iff.1 hQl.out.symm) (Tree.U_ne y x hxy h0)
      | q :: Q, hQl, hU, hc1, hAt =>
        obtain ⟨y1, rfl⟩ := hAt.pos (by simp)
        have hyg := hab' y1 rfl
        obtain ⟨z, hz, hzb, hcell⟩ := hAt 0 q rfl
        obtain rfl := Option.some.inj hz
        rw [addr_zero] at hcell
        have hAt' := hid hAt
        clear hAt hQ hz hab'
        have hq1 : 0 < (q :: Q).length := by simp
        generalize hql : (q :: Q).length = k at *
        have Hql := hid hql
        clear hql
        by_cases hcc : c' = 1
        · subst hcc
          by_cases hd : (x % 2 == 1 || x == y) = true
          · rw [hd] at hfl
            obtain ⟨Ma, hMa⟩ : ∃ M, Hid (Tree.nd q A = M) := ⟨_, rfl⟩
            have hMa' := hMa
            obtain ⟨M, hM⟩ : ∃ M, Hid (Tree.nd q B = M) := ⟨_, rfl⟩
            have hM' := hM
            go_wp2_with (first
              | ((with_reducible show wpList _ _ _ (Oper.mk _ (Op.load 137 _) _ _ _ _ :: _) _ _); go_must (refine wpList_load_row rfl 137 _ rfl w.heap.size rfl 137 _ (0, 0) _ hW.out.row Tryz.underlying137 rfl (sizeW' _ _) ?_))
              | (go_at_call 115; fail))
            refine hfl.mono ?_
            rintro e w2 ⟨rfl, hw2⟩
            have T2 := HT.out.below (hB.out.trans (hw2.mono hB.out.size)) hT
            have hcell2 := (hw2.cell (p := y1) hzb).trans hcell
            have T2d : Tabs w2.drew := T2.below (Below.refl w2.heap.size w2).drew T2.lt
            have hzb2 := Nat.lt_of_lt_of_le hzb hw2.size
            go_wp2
            go_region_held3 (fun w' => w'.cell? y1 = some (sv q)) (first | exact hcell4 | exact hcell3 | exact hcell2) (first
              | (go_at_call 116; (with_reducible refine (vnode_any hMa w2.drew T2d).mono ?_); rintro e w3a ⟨rfl, hw3a'⟩; have hw3a := (Below.refl _ w2).drew.trans hw3a'; have hcell3 := (hw3a.cell (p := y1) hzb2).trans hcell2; have T3 := T2.below hw3a T2.lt)
              | (go_at_call 116; (with_reducible refine (vnode_any hM _ T3).mono ?_); rintro e w3 ⟨rfl, hw3b⟩; have hw3 := hw3a.trans (hw3b.mono hw3a.size); have hcell4 := (hw3.cell (p := y1) hzb2).trans hcell2))
            go_wp2
            have hb3 := hw2.trans (hw3.mono hw2.size)
            have hW3 := hW.out.below hb3
            have hAt3 := hid (hAt'.out.below hb3 (Nat.le_refl _))
            have hB3 := hid (hB.out.trans (hb3.mono hB.out.size))
            have d0 := hW3.c0
            have d1 := hW3.c1
            have hab3 := hab w3.drew
            clear hcell hcell2 hw2 T2 hfl hb3 hM hMa
            go_region_with ((go_at_call 117; refine hab3.mono ?_; rintro e w4 ⟨x', y', rfl, hw4, hx', hy', hU'⟩; have hW4 := Wy.below (show Wy w3.drew _ _ _ from hW3) hw4; have d4 := hW4.c0; have d5 := hW4.c1; have f4 := hW4.f0; have f5 := hW4.f1))
            all_goals go_wp2
            all_goals
              rw [hW4.two x' y']
              have uu := hU'.out
              rw [hd] at uu
              have hQl' : Hid (Q.length = (Tree.U x' y').length) := by
                have := hQl.out
                rw [uu, List.length_cons, ← Hql.out, List.length_cons] at this
                exact Nat.succ.inj this
              have hX' : Hid (Tree.upd2 Ma M (Tree.U x' y') Q = (XA, XB)) := by
                have := hU.out
                rw [uu] at this
                unfold Tree.upd2 at this
                rw [hMa'.out, hM'.out] at this
                exact this
              have hb4 : Below w3.heap.size w3 w4 := (Below.refl _ w3).drew.trans hw4
              have hR4 := (Rst.last (g := w.heap.size) (w := w4) hyg Hql.out (by omega)).setRow #[.int .i64 (x' : Int), .int .i64 (y' : Int)]
              have hB4 := Below.setRow (hB3.out.trans (hb4.mono hB3.out.size)) (Nat.le_refl _) #[.int .i64 (x' : Int), .int .i64 (y' : Int)]
              refine ⟨?_, by rw [(hW4.set x' y').n1, hW.out.n1]; exact hy'⟩
              repeat apply Exists.intro
              exact ⟨⟨x', y', Ma, M, Q, rfl, rfl, hx', by omega, hQl', hX', hid hR4, hid (hW4.set x' y'), hid hB4⟩, rfl⟩
          · replace hd : (x % 2 == 1 || x == y) = false := by simpa using hd
            rw [hd] at hfl
            obtain ⟨M, hM⟩ : ∃ M, Hid (Tree.nd B q = M) := ⟨_, rfl⟩
            have hM' := hM
            go_wp2_with (first
              | ((with_reducible show wpList _ _ _ (Oper.mk _ (Op.load 137 _) _ _ _ _ :: _) _ _); go_must (refine wpList_load_row rfl 137 _ rfl w.heap.size rfl 137 _ (0, 0) _ hW.out.row Tryz.underlying137 rfl (sizeW' _ _) ?_))
              | (go_at_call 115; fail))
            refine hfl.mono ?_
            rintro e w2 ⟨rfl, hw2⟩
            have T2 := HT.out.below (hB.out.trans (hw2.mono hB.out.size)) hT
            have hcell2 := (hw2.cell (p := y1) hzb).trans hcell
            go_wp2_with (go_at_call 116; refine (vnode_any hM _ T2).mono ?_; rintro e w3 ⟨rfl, hw3⟩)
            have hb3 := hw2.trans (hw3.mono hw2.size)
            have hW3 := hW.out.below hb3
            have hAt3 := hid (hAt'.out.below hb3 (Nat.le_refl _))
            have hB3 := hid (hB.out.trans (hb3.mono hB.out.size))
            have d0 := hW3.c0
            have d1 := hW3.c1
            have hab3 := hab w3.drew
            clear hcell hcell2 hw2 T2 hfl hb3 hM hw3
            go_region_with ((go_at_call 117; refine hab3.mono ?_; rintro e w4 ⟨x', y', rfl, hw4, hx', hy', hU'⟩; have hW4 := Wy.below (show Wy w3.drew _ _ _ from hW3) hw4; have d4 := hW4.c0; have d5 := hW4.c1; have f4 := hW4.f0; have f5 := hW4.f1))
            all_goals go_wp2
            all_goals
              rw [hW4.two x' y']
              have uu := hU'.out
              rw [hd] at uu
              have hQl' : Hid (Q.length = (Tree.U x' y').length) := by
                have := hQl.out
                rw [uu, List.length_cons, ← Hql.out, List.length_cons] at this
                exact Nat.succ.inj this
              have hX' : Hid (Tree.upd2 A M (Tree.U x' y') Q = (XA, XB)) := by
                have := hU.out
                rw [uu] at this
                unfold Tree.upd2 at this
                rw [hM'.out] at this
                exact this
              have hb4 : Below w3.heap.size w3 w4 := (Below.refl _ w3).drew.trans hw4
              have hR4 := (Rst.last (g := w.heap.size) (w := w4) hyg Hql.out (by omega)).setRow #[.int .i64 (x' : Int), .int .i64 (y' : Int)]
              have hB4 := Below.setRow (hB3.out.trans (hb4.mono hB3.out.size)) (Nat.le_refl _) #[.int .i64 (x' : Int), .int .i64 (y' : Int)]
              refine ⟨?_, by rw [(hW4.set x' y').n1, hW.out.n1]; exact hy'⟩
              repeat apply Exists.intro
              exact ⟨⟨x', y', A, M, Q, rfl, rfl, hx', by omega, hQl', hX', hid hR4, hid (hW4.set x' y'), hid hB4⟩, rfl⟩
        · have hcc2 : ¬ (c' : Int) = 1 := by omega
          by_cases hd : (x % 2 == 1 || x == y) = true
          · rw [hd] at hfl
            obtain ⟨Ma, hMa⟩ : ∃ M, Hid (Tree.nd q A = M) := ⟨_, rfl⟩
            have hMa' := hMa
            obtain ⟨M, hM⟩ : ∃ M, Hid (Tree.nd q B = M) := ⟨_, rfl⟩
            have hM' := hM
            go_wp2_with (first
              | ((with_reducible show wpList _ _ _ (Oper.mk _ (Op.load 137 _) _ _ _ _ :: _) _ _); go_must (refine wpList_load_row rfl 137 _ rfl w.heap.size rfl 137 _ (0, 0) _ hW.out.row Tryz.underlying137 rfl (sizeW' _ _) ?_))
              | (go_at_call 115; fail))
            refine hfl.mono ?_
            rintro e w2 ⟨rfl, hw2⟩
            have T2 := HT.out.below (hB.out.trans (hw2.mono hB.out.size)) hT
            have hcell2 := (hw2.cell (p := y1) hzb).trans hcell
            have T2d : Tabs w2.drew := T2.below (Below.refl w2.heap.size w2).drew T2.lt
            have hzb2 := Nat.lt_of_lt_of_le hzb hw2.size
            go_wp2
            go_region_held3 (fun w' => w'.cell? y1 = some (sv q)) (first | exact hcell4 | exact hcell3 | exact hcell2) (first
              | (go_at_call 116; (with_reducible refine (vnode_any hMa w2.drew T2d).mono ?_); rintro e w3a ⟨rfl, hw3a'⟩; have hw3a := (Below.refl _ w2).drew.trans hw3a'; have hcell3 := (hw3a.cell (p := y1) hzb2).trans hcell2; have T3 := T2.below hw3a T2.lt)
              | (go_at_call 116; (with_reducible refine (vnode_any hM _ T3).mono ?_); rintro e w3 ⟨rfl, hw3b⟩; have hw3 := hw3a.trans (hw3b.mono hw3a.size); have hcell4 := (hw3.cell (p := y1) hzb2).trans hcell2))
            go_wp2
            have hb3 := hw2.trans (hw3.mono hw2.size)
            have hW3 := hW.out.below hb3
            have hAt3 := hid (hAt'.out.below hb3 (Nat.le_refl _))
            have hB3 := hid (hB.out.trans (hb3.mono hB.out.size))
            have d0 := hW3.c0
            have d1 := hW3.c1
            have hab3 := hab w3.drew
            clear hcell hcell2 hw2 T2 hfl hb3 hM hMa
            go_region_with ((go_at_call 117; refine hab3.mono ?_; rintro e w4 ⟨x', y', rfl, hw4, hx', hy', hU'⟩; have hW4 := Wy.below (show Wy w3.drew _ _ _ from hW3) hw4; have d4 := hW4.c0; have d5 := hW4.c1; have f4 := hW4.f0; have f5 := hW4.f1))
            all_goals go_wp2
            all_goals
              rw [hW4.two x' y']
              have uu := hU'.out
              rw [hd] at uu
              have hQl' : Hid (Q.length = (Tree.U x' y').length) := by
                have := hQl.out
                rw [uu, List.length_cons, ← Hql.out, List.length_cons] at this
                exact Nat.succ.inj this
              have hX' : Hid (Tree.upd2 Ma M (Tree.U x' y') Q = (XA, XB)) := by
                have := hU.out
                rw [uu] at this
                unfold Tree.upd2 at this
                rw [hMa'.out, hM'.out] at this
                exact this
              have hb4 : Below w3.heap.size w3 w4 := (Below.refl _ w3).drew.trans hw4
              have hR4 := (Rst.tail (g := w.heap.size) (hAt3.out.below hb4 (Nat.le_refl _)) hyg Hql.out hc1 hc2).setRow #[.int .i64 (x' : Int), .int .i64 (y' : Int)]
              have hB4 := Below.setRow (hB3.out.trans (hb4.mono hB3.out.size)) (Nat.le_refl _) #[.int .i64 (x' : Int), .int .i64 (y' : Int)]
              refine ⟨?_, by rw [(hW4.set x' y').n1, hW.out.n1]; exact hy'⟩
              repeat apply Exists.intro
              exact ⟨⟨x', y', Ma, M, Q, rfl, rfl, hx', by omega, hQl', hX', hid hR4, hid (hW4.set x' y'), hid hB4⟩, rfl⟩
          · replace hd : (x % 2 == 1 || x == y) = false := by simpa using hd
            rw [hd] at hfl
            obtain ⟨M, hM⟩ : ∃ M, Hid (Tree.nd B q = M) := ⟨_, rfl⟩
            have hM' := hM
            go_wp2_with (first
              | ((with_reducible show wpList _ _ _ (Oper.mk _ (Op.load 137 _) _ _ _ _ :: _) _ _); go_must (refine wpList_load_row rfl 137 _ rfl w.heap.size rfl 137 _ (0, 0) _ hW.out.row Tryz.underlying137 rfl (sizeW' _ _) ?_))
              | (go_at_call 115; fail))
            refine hfl.mono ?_
            rintro e w2 ⟨rfl, hw2⟩
            have T2 := HT.out.below (hB.out.trans (hw2.mono hB.out.size)) hT
            have hcell2 := (hw2.cell (p := y1) hzb).trans hcell
            go_wp2_with (go_at_call 116; refine (vnode_any hM _ T2).mono ?_; rintro e w3 ⟨rfl, hw3⟩)
            have hb3 := hw2.trans (hw3.mono hw2.size)
            have hW3 := hW.out.below hb3
            have hAt3 := hid (hAt'.out.below hb3 (Nat.le_refl _))
            have hB3 := hid (hB.out.trans (hb3.mono hB.out.size))
            have d0 := hW3.c0
            have d1 := hW3.c1
            have hab3 := hab w3.drew
            clear hcell hcell2 hw2 T2 hfl hb3 hM hw3
            go_region_with ((go_at_call 117; refine hab3.mono ?_; rintro e w4 ⟨x', y', rfl, hw4, hx', hy', hU'⟩; have hW4 := Wy.below (show Wy w3.drew _ _ _ from hW3) hw4; have d4 := hW4.c0; have d5 := hW4.c1; have f4 := hW4.f0; have f5 := hW4.f1))
            all_goals go_wp2
            all_goals
              rw [hW4.two x' y']
              have uu := hU'.out
              rw [hd] at uu
              have hQl' : Hid (Q.length = (Tree.U x' y').length) := by
                have := hQl.out
                rw [uu, List.length_cons, ← Hql.out, List.length_cons] at this
                exact Nat.succ.inj this
              have hX' : Hid (Tree.upd2 A M (Tree.U x' y') Q = (XA, XB)) := by
                have := hU.out
                rw [uu] at this
                unfold Tree.upd2 at this
                rw [hM'.out] at this
                exact this
              have hb4 : Below w3.heap.size w3 w4 := (Below.refl _ w3).drew.trans hw4
              have hR4 := (Rst.tail (g := w.heap.size) (hAt3.out.below hb4 (Nat.le_refl _)) hyg Hql.out hc1 hc2).setRow #[.int .i64 (x' : Int), .int .i64 (y' : Int)]
              have hB4 := Below.setRow (hB3.out.trans (hb4.mono hB3.out.size)) (Nat.le_refl _) #[.int .i64 (x' : Int), .int .i64 (y' : Int)]
              refine ⟨?_, by rw [(hW4.set x' y').n1, hW.out.n1]; exact hy'⟩
              repeat apply Exists.intro
              exact ⟨⟨x', y', A, M, Q, rfl, rfl, hx', by omega, hQl', hX', hid hR4, hid (hW4.set x' y'), hid hB4⟩, rfl⟩
end Go.Proofs.YtenklmjeeejfdaaGreatDoor
