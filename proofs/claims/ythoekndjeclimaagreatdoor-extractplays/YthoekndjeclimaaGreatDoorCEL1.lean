import Derived.Test.YthoekndjeclimaaGreatDoorCEP17
import Derived.Test.YthoekndjeclimaaGreatDoorCO10
import Derived.Test.YthoekndjeclimaaGreatDoorCI22
import Derived.Test.YthoekndjeclimaaGreatDoorCR6
namespace Go.Proofs.YthoekndjeclimaaGreatDoor
open Go.RowKit
/-- thirty-two of one byte, some of them laid down -/
def hk (c : UInt8) (k : Nat) : List UInt8 := List.replicate k c ++ List.replicate (32 - k) 0
def hh6 (c : UInt8) : List UInt8 := List.replicate 32 c
theorem hk_len (c : UInt8) {k : Nat} (h : k ≤ 32) : (hk c k).length = 32 := by unfold hk; simp; omega
theorem hk_set (c : UInt8) {k : Nat} (h : k < 32) : (hk c k).set k c = hk c (k + 1) := by
  unfold hk
  rw [List.set_append, if_neg (by simp), List.length_replicate, Nat.sub_self, show 32 - k = (32 - (k + 1)) + 1 by omega, List.replicate_succ, List.set_cons_zero, List.replicate_succ']
  simp
set_option maxRecDepth 100000 in
set_option maxHeartbeats 800000 in
theorem hash_any (c : UInt8) (w : World) :
    Calls Tryz.prog 15 #[.int .u8 (c.toNat : Int)] w fun e w' => e = .returned (sv (hh6 c)) ∧ Below w.heap.size w w' := by
  have hmk := make32 w
  have h0 := heap_alloc_new w (.cells (bv (List.replicate 32 0)).toArray 5)
  have hb := (Below.refl w.heap.size w).alloc (Nat.le_refl _) (.cells (bv (List.replicate 32 0)).toArray 5)
  generalize w.alloc (.cells (bv (List.replicate 32 0)).toArray 5) = w1 at *
  have H0 : Hid (w1.heap[w.heap.size]? = some (.cells (bv (hk c 0)).toArray 5 (0, 0)) ∧ Below w.heap.size w w1) := ⟨by unfold hk; simpa using h0, hb⟩
  clear h0 hb
  go_enter Tryz.func15, Tryz.ntmps15
  go_wp2
  clear hmk
  go_loopw [4] (fun i w' => ∃ k : Nat, i = .int .i64 (k : Int) ∧ k ≤ 32 ∧ Hid (w'.heap[w.heap.size]? = some (.cells (bv (hk c k)).toArray 5 (0, 0)) ∧ Below w.heap.size w w')) (fun i _ => 32 - (intOf i).toNat)
  case atStart => exact ⟨0, rfl, by omega, H0⟩
  case round =>
    clear H0
    obtain ⟨k, rfl, hk', H⟩ := hrel
    by_cases hk2 : k < 32
    · have c0 : (k : Int) < 32 := by omega
      obtain ⟨y, _, _, c1⟩ := bv_cell H.out.1 k (by rw [hk_len c hk']; exact hk2)
      have f1 : wr.frozen? ⟨w.heap.size, k, none⟩ = false := frozen_of_row _ _ _ _ _ H.out.1
      have h2 := heap_setCell_same wr w.heap.size k _ _ (.int .u8 (c.toNat : Int)) H.out.1
      rw [show (bv (hk c k)).toArray.setIfInBounds k (.int .u8 (c.toNat : Int)) = (bv (hk c (k + 1))).toArray from by rw [← hk_set c hk2]; simp [bv, List.map_set]] at h2
      have H2 := hid (And.intro h2 (H.out.2.setCell (Nat.le_refl _) (p := ⟨w.heap.size, k, none⟩) (.int .u8 (c.toNat : Int))))
      clear h2 H
      generalize (c.toNat : Int) = cv at *
      go_wp2
      exact ⟨⟨k + 1, by go_num, by omega, H2⟩, by simp [intOf]; omega⟩
    · obtain rfl : k = 32 := by omega
      have c0 : ¬ ((32 : Nat) : Int) < 32 := by omega
      have hcv := run_conv_bytes (P := Tryz.prog) wr 65 9 5 w.heap.size 0 32 32 (hk c 32) (hk_len c (Nat.le_refl _)) Tryz.underlying65 Tryz.underlying5 Tryz.underlying9 (rangeAt_of_list H.out.1 (fun j v hv => by rw [Nat.zero_add]; exact hv))
      have e32 : hk c 32 = hh6 c := by unfold hk hh6; simp
      rw [e32] at hcv
      have HB := hid H.out.2
      clear H
      go_wp2
      go_ret
      exact ⟨rfl, HB.out⟩
set_option maxRecDepth 100000 in
set_option maxHeartbeats 400000 in
theorem leaf6_any (s : ByteArray) (hl : s.size ≤ 2305843009213690000) (w : World) (T : Tabs w) :
    Calls Tryz.prog 40 #[.string s] w fun e w' => e = .returned (sv (Sha.sha (0 :: s.data.toList))) ∧ Below w.heap.size w w' := by
  have hT := T.lt
  go_enter Tryz.func40, Tryz.ntmps40
  go_wp2_with (go_at_call 61; go_must (refine (sum_any w.heap.size 0 2 [[0], s.data.toList] (by simp [total]; omega) (by simp [maxLen]) _ (T.below ((Below.refl _ _).alloc (Nat.le_refl _) _) hT) (by rw [size_alloc]; omega) (texts2 w [0] s.data.toList _)).mono ?_); rintro e w5 ⟨rfl, hw5⟩)
  go_ret
  refine ⟨by simp, ?_⟩
  exact ((Below.refl _ _).alloc (Nat.le_refl _) _).trans (hw5.mono (by rw [size_alloc]; omega))
/-- X1 -/
def entO (a b : List UInt8) : (List UInt8 × List UInt8) × Int := if a = b ∨ Sha.sha (0 :: a) ≠ Sha.sha (0 :: b) then (([], []), 60) else ((0 :: a, 0 :: b), 0)
theorem leaf_at6 (a : List UInt8) (h : a.length ≤ 140737488355328) (w : World) (T : Tabs w) : Calls Tryz.prog 40 #[.string ⟨a.toArray⟩] w fun e w' => e = .returned (.string ⟨(Sha.sha (0 :: a)).toArray⟩) ∧ Below w.heap.size w w' := by
  have := leaf6_any ⟨a.toArray⟩ (by simp [ByteArray.size]; omega) w T
  simpa [sv] using this
theorem sum_big (t : List UInt8) (ht : t.length ≤ 140737488355329) (w : World) (n : Nat) (hn : w.heap.size = n) (T : Tabs w) : Calls Tryz.prog 61 #[.slice (some ⟨n, 0, none⟩) 1 1] (w.alloc (.cells #[.string ⟨t.toArray⟩] 9)) fun e w' => e = .returned (.string ⟨(Sha.sha t).toArray⟩) ∧ Below n w w' := by
  subst hn
  have al := (Below.refl w.heap.size w).alloc (Nat.le_refl _) (.cells #[sv t] 9)
  have h := sum_any w.heap.size 0 1 [t] (by unfold total; simp; omega) (by simp [maxLen]) (w.alloc (.cells #[sv t] 9)) (T.below al T.lt) (by rw [size_alloc]; omega) (texts16 w t _)
  refine h.mono ?_
  rintro e w' ⟨rfl, hb⟩
  refine ⟨by simp [sv], al.trans (hb.mono (by rw [size_alloc]; omega))⟩
theorem zero_val (a : List UInt8) : Value.string ({ data := #[0] } ++ { data := a.toArray }) = sv (0 :: a) := by
  unfold sv
  congr 1
set_option maxRecDepth 100000 in
set_option maxHeartbeats 2000000 in
theorem Entries_any (a b : List UInt8) (ha : a.length ≤ 140737488355328) (hb : b.length ≤ 140737488355328) (w : World) (T : Tabs w) :
    Calls Tryz.prog 13 #[sv a, sv b] w fun e w' => e = .returned (.tuple #[prP (entO a b).1.1 (entO a b).1.2, .int .i64 (entO a b).2]) ∧ Below w.heap.size w w' := by
  rw [svS a, svS b]
  have z1 := size_alloc w (.cells #[Value.string ⟨#[]⟩, .string ⟨#[]⟩] 26)
  have al := (Below.refl w.heap.size w).alloc (Nat.le_refl _) (.cells #[Value.string ⟨#[]⟩, .string ⟨#[]⟩] 26)
  have R0 := heap_alloc_new w (.cells #[Value.string ⟨#[]⟩, .string ⟨#[]⟩] 26)
  obtain ⟨w0, hw0⟩ : ∃ w0, w.alloc (.cells #[Value.string ⟨#[]⟩, .string ⟨#[]⟩] 26) = w0 := ⟨_, rfl⟩
  rw [hw0] at al R0 z1
  have HR := hid R0
  have HB := hid al
  have s1 : ¬ 9223372036854775807 < 1 + a.length := by omega
  have s2 : ¬ 9223372036854775807 < 1 + b.length := by omega
  have HT := hid T
  clear al R0 T
  by_cases hab : a = b
  · have e1 : (a == b) = true := by simpa using hab
    have HO2 : Hid (entO a b = (([], []), 60)) := by unfold entO; unfold Hid; rw [if_pos (.inl hab)]
    clear hab
    go_enter Tryz.func13, Tryz.ntmps13
    go_wp2_with ((with_reducible show wpList _ _ _ (Oper.mk _ (Op.store 26 _ _) _ _ _ _ :: _) _ _); go_must (refine wpList_store_row rfl 26 _ _ rfl (w.heap.size) _ rfl rfl 26 _ HR.out sizePr rfl (onePr [] []) ?_))
    refine bodyPost_ret (results_row6 rfl _ _ (w.heap.size) 26 _ (0, 0) _ rfl (setRow_heap _ _ _ _ _ _ HR.out) Tryz.underlying26 rfl sizePr) rfl ?_
    exact ⟨by rw [HO2.out]; rfl, Below.setRow HB.out (by omega) _⟩
  · have e1 : (a == b) = false := by simpa using hab
    have i1 := leaf_at6 a ha w0 (HT.out.below HB.out HT.out.lt)
    have i2 := fun w' (hb' : Below w.heap.size w w') => leaf_at6 b hb w' (HT.out.below hb' HT.out.lt)
    go_enter Tryz.func13, Tryz.ntmps13
    go_wp2_with (go_at_call 40; fail)
    refine i1.mono ?_
    rintro e w1 ⟨rfl, k1⟩
    have i2 := i2 w1 (HB.out.trans (k1.mono HB.out.size))
    clear i1
    go_wp2_with (go_at_call 40; fail)
    refine i2.mono ?_
    rintro e w2 ⟨rfl, k2⟩
    have k12 := k1.trans (k2.mono k1.size)
    have HR2 := hid ((k12.block _ (lt_of_heap HR.out)).trans HR.out)
    have HB2 := hid (HB.out.trans (k12.mono HB.out.size))
    clear i2 k1 k2 k12 HR HB
    obtain ⟨x, hx⟩ : ∃ x, Hid (Sha.sha (0 :: a) = x) := ⟨_, rfl⟩
    obtain ⟨y, hy⟩ : ∃ y, Hid (Sha.sha (0 :: b) = y) := ⟨_, rfl⟩
    rw [hx.out, hy.out]
    by_cases hxy : x = y
    · have e2 : (x == y) = true := by simpa using hxy
      have e3 : (x != y) = false := by rw [bne, e2]; rfl
      have HO2 : Hid (entO a b = ((0 :: a, 0 :: b), 0)) := by unfold entO; unfold Hid; rw [if_neg (by rw [hx.out, hy.out]; simp [hab, hxy])]
      clear hxy hab
      go_wp2_with ((with_reducible show wpList _ _ _ (Oper.mk _ (Op.store 26 _ _) _ _ _ _ :: _) _ _); go_must (refine wpList_store_row rfl 26 _ _ rfl (w.heap.size) _ rfl rfl 26 _ HR2.out sizePr rfl (by rw [zero_val a, zero_val b]; exact onePr _ _) ?_))
      refine bodyPost_ret (results_row6 rfl _ _ (w.heap.size) 26 _ (0, 0) _ rfl (setRow_heap _ _ _ _ _ _ HR2.out) Tryz.underlying26 rfl sizePr) rfl ?_
      exact ⟨by rw [HO2.out]; unfold prP; rw [← zero_val a, ← zero_val b]; rfl, Below.setRow HB2.out (by omega) _⟩
    · have e2 : (x == y) = false := by simpa using hxy
      have e3 : (x != y) = true := by rw [bne, e2]; rfl
      have HO2 : Hid (entO a b = (([], []), 60)) := by unfold entO; unfold Hid; rw [if_pos (.inr (by rw [hx.out, hy.out]; exact hxy))]
      clear hxy hab
      go_wp2_with ((with_reducible show wpList _ _ _ (Oper.mk _ (Op.store 26 _ _) _ _ _ _ :: _) _ _); go_must (refine wpList_store_row rfl 26 _ _ rfl (w.heap.size) _ rfl rfl 26 _ HR2.out sizePr rfl (onePr [] []) ?_))
      refine bodyPost_ret (results_row6 rfl _ _ (w.heap.size) 26 _ (0, 0) _ rfl (setRow_heap _ _ _ _ _ _ HR2.out) Tryz.underlying26 rfl sizePr) rfl ?_
      exact ⟨by rw [HO2.out]; rfl, Below.setRow HB2.out (by omega) _⟩
end Go.Proofs.YthoekndjeclimaaGreatDoor

namespace Go.Proofs.YthoekndjeclimaaGreatDoor
open Go.RowKit
theorem zero6_size (l : ByteArray) : ({ data := #[0] } ++ l : ByteArray).size = 1 + l.size := by
  rw [app_size]; rfl
theorem zero6_data (l : ByteArray) : ({ data := #[0] } ++ l : ByteArray).data.toList = 0 :: l.data.toList := by
  rw [app_data]; rfl
set_option maxRecDepth 100000 in
set_option maxHeartbeats 400000 in
theorem r6leaf_any (s : ByteArray) (hs : s.size ≤ 140737488354000) (w : World) :
    Calls Tryz.prog 41 #[.string s] w fun e w' => e = .returned (sv (Sha.sha (0 :: s.data.toList))) ∧ Below w.heap.size w w' := by
  obtain ⟨q, hq⟩ : ∃ q, q = ({ data := #[0] } ++ s : ByteArray) := ⟨_, rfl⟩
  have hqs := zero6_size s
  have hqd := zero6_data s
  rw [← hq] at hqs hqd
  obtain ⟨D, hD⟩ : ∃ D, Sha.sha (0 :: s.data.toList) = D := ⟨_, rfl⟩
  rw [hD]
  rw [← hqd] at hD
  have HD := hid hD
  clear hD hqd
  go_enter Tryz.func41, Tryz.ntmps41
  go_wp2_with (go_at_call 54; fail)
  rw [← hq]
  clear hq
  refine (rsum_at q D (by omega) HD _).mono ?_
  rintro e w1 ⟨rfl, hw1⟩
  go_wp2
  go_ret
  exact ⟨rfl, hw1⟩
theorem rleaf6_at (a : List UInt8) (h : a.length ≤ 140737488351232) (w : World) : Calls Tryz.prog 41 #[.string ⟨a.toArray⟩] w fun e w' => e = .returned (.string ⟨(Sha.sha (0 :: a)).toArray⟩) ∧ Below w.heap.size w w' := by
  have := r6leaf_any ⟨a.toArray⟩ (by simp [ByteArray.size]; omega) w
  simpa [sv] using this
set_option maxRecDepth 100000 in
set_option maxHeartbeats 2000000 in
theorem r6Entries_any (a b : List UInt8) (ha : a.length ≤ 140737488351232) (hb : b.length ≤ 140737488351232) (w : World) :
    Calls Tryz.prog 14 #[sv a, sv b] w fun e w' => e = .returned (.tuple #[prP (entO a b).1.1 (entO a b).1.2, .int .i64 (entO a b).2]) ∧ Below w.heap.size w w' := by
  rw [svS a, svS b]
  have z1 := size_alloc w (.cells #[Value.string ⟨#[]⟩, .string ⟨#[]⟩] 26)
  have al := (Below.refl w.heap.size w).alloc (Nat.le_refl _) (.cells #[Value.string ⟨#[]⟩, .string ⟨#[]⟩] 26)
  have R0 := heap_alloc_new w (.cells #[Value.string ⟨#[]⟩, .string ⟨#[]⟩] 26)
  obtain ⟨w0, hw0⟩ : ∃ w0, w.alloc (.cells #[Value.string ⟨#[]⟩, .string ⟨#[]⟩] 26) = w0 := ⟨_, rfl⟩
  rw [hw0] at al R0 z1
  have HR := hid R0
  have HB := hid al
  have s1 : ¬ 9223372036854775807 < 1 + a.length := by omega
  have s2 : ¬ 9223372036854775807 < 1 + b.length := by omega
  clear al R0
  by_cases hab : a = b
  · have e1 : (a == b) = true := by simpa using hab
    have HO2 : Hid (entO a b = (([], []), 60)) := by unfold entO; unfold Hid; rw [if_pos (.inl hab)]
    clear hab
    go_enter Tryz.func14, Tryz.ntmps14
    go_wp2_with ((with_reducible show wpList _ _ _ (Oper.mk _ (Op.store 26 _ _) _ _ _ _ :: _) _ _); go_must (refine wpList_store_row rfl 26 _ _ rfl (w.heap.size) _ rfl rfl 26 _ HR.out sizePr rfl (onePr [] []) ?_))
    refine bodyPost_ret (results_row6 rfl _ _ (w.heap.size) 26 _ (0, 0) _ rfl (setRow_heap _ _ _ _ _ _ HR.out) Tryz.underlying26 rfl sizePr) rfl ?_
    exact ⟨by rw [HO2.out]; rfl, Below.setRow HB.out (by omega) _⟩
  · have e1 : (a == b) = false := by simpa using hab
    have i1 := rleaf6_at a ha w0
    have i2 := fun (w' : World) => rleaf6_at b hb w'
    go_enter Tryz.func14, Tryz.ntmps14
    go_wp2_with (go_at_call 41; fail)
    refine i1.mono ?_
    rintro e w1 ⟨rfl, k1⟩
    have i2 := i2 w1
    clear i1
    go_wp2_with (go_at_call 41; fail)
    refine i2.mono ?_
    rintro e w2 ⟨rfl, k2⟩
    have k12 := k1.trans (k2.mono k1.size)
    have HR2 := hid ((k12.block _ (lt_of_heap HR.out)).trans HR.out)
    have HB2 := hid (HB.out.trans (k12.mono HB.out.size))
    clear i2 k1 k2 k12 HR HB
    obtain ⟨x, hx⟩ : ∃ x, Hid (Sha.sha (0 :: a) = x) := ⟨_, rfl⟩
    obtain ⟨y, hy⟩ : ∃ y, Hid (Sha.sha (0 :: b) = y) := ⟨_, rfl⟩
    rw [hx.out, hy.out]
    by_cases hxy : x = y
    · have e2 : (x == y) = true := by simpa using hxy
      have e3 : (x != y) = false := by rw [bne, e2]; rfl
      have HO2 : Hid (entO a b = ((0 :: a, 0 :: b), 0)) := by unfold entO; unfold Hid; rw [if_neg (by rw [hx.out, hy.out]; simp [hab, hxy])]
      clear hxy hab
      go_wp2_with ((with_reducible show wpList _ _ _ (Oper.mk _ (Op.store 26 _ _) _ _ _ _ :: _) _ _); go_must (refine wpList_store_row rfl 26 _ _ rfl (w.heap.size) _ rfl rfl 26 _ HR2.out sizePr rfl (by rw [zero_val a, zero_val b]; exact onePr _ _) ?_))
      refine bodyPost_ret (results_row6 rfl _ _ (w.heap.size) 26 _ (0, 0) _ rfl (setRow_heap _ _ _ _ _ _ HR2.out) Tryz.underlying26 rfl sizePr) rfl ?_
      exact ⟨by rw [HO2.out]; unfold prP; rw [← zero_val a, ← zero_val b]; rfl, Below.setRow HB2.out (by omega) _⟩
    · have e2 : (x == y) = false := by simpa using hxy
      have e3 : (x != y) = true := by rw [bne, e2]; rfl
      have HO2 : Hid (entO a b = (([], []), 60)) := by unfold entO; unfold Hid; rw [if_pos (.inr (by rw [hx.out, hy.out]; exact hxy))]
      clear hxy hab
      go_wp2_with ((with_reducible show wpList _ _ _ (Oper.mk _ (Op.store 26 _ _) _ _ _ _ :: _) _ _); go_must (refine wpList_store_row rfl 26 _ _ rfl (w.heap.size) _ rfl rfl 26 _ HR2.out sizePr rfl (onePr [] []) ?_))
      refine bodyPost_ret (results_row6 rfl _ _ (w.heap.size) 26 _ (0, 0) _ rfl (setRow_heap _ _ _ _ _ _ HR2.out) Tryz.underlying26 rfl sizePr) rfl ?_
      exact ⟨by rw [HO2.out]; rfl, Below.setRow HB2.out (by omega) _⟩
end Go.Proofs.YthoekndjeclimaaGreatDoor

namespace Go.Proofs.YthoekndjeclimaaGreatDoor
open Go.RowKit
/-- Sum of one text that lies in a cell -/
theorem sum_cell (t : List UInt8) (ht : t.length ≤ 140737488355329) (w : World) (g : Nat) (hg : g < w.heap.size) (hc : w.cell? ⟨g, 0, none⟩ = some (.string ⟨t.toArray⟩)) (T : Tabs w) : Calls Tryz.prog 61 #[.slice (some ⟨g, 0, none⟩) 1 1] w fun e w' => e = .returned (.string ⟨(Sha.sha t).toArray⟩) ∧ Below w.heap.size w w' := by
  have h := sum_any g 0 1 [t] (by unfold total; simp; omega) (by simp [maxLen]) w T hg (fun j p hp => by
    match j, hp with
    | 0, hp => obtain rfl := Option.some.inj hp; exact hc)
  refine h.mono ?_
  rintro e w' ⟨rfl, hb⟩
  exact ⟨by simp [sv], hb⟩
end Go.Proofs.YthoekndjeclimaaGreatDoor

namespace Go.Proofs.YthoekndjeclimaaGreatDoor
open Go.RowKit
end Go.Proofs.YthoekndjeclimaaGreatDoor
