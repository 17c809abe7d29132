import Derived.Test.YtlfmnedmbkpdbaaDoorCEP17
import Derived.Test.YtlfmnedmbkpdbaaDoorCO7
namespace Go.Proofs.YtlfmnedmbkpdbaaDoor
open Go.RowKit
/-- thirty-two of one byte, some of them laid down -/
def hk (c : UInt8) (k : Nat) : List UInt8 := List.replicate k c ++ List.replicate (32 - k) 0
def hh6 (c : UInt8) : List UInt8 := List.replicate 32 c
theorem hk_len (c : UInt8) {k : Nat} (h : k ≤ 32) : (hk c k).length = 32 := by unfold hk; simp; omega
theorem hk_set (c : UInt8) {k : Nat} (h : k < 32) : (hk c k).set k c = hk c (k + 1) := by
  unfold hk
  rw [List.set_append, if_neg (by simp), List.length_replicate, Nat.sub_self, show 32 - k = (32 - (k + 1)) + 1 by omega, List.replicate_succ, List.set_cons_zero, List.replicate_succ']
  simp
set_option maxRecDepth 100000 in
set_option maxHeartbeats 800000 in
theorem hash_any (c : UInt8) (w : World) :
    Calls Tryd.prog 17 #[.int .u8 (c.toNat : Int)] w fun e w' => e = .returned (sv (hh6 c)) ∧ Below w.heap.size w w' := by
  have hmk := make32 w
  have h0 := heap_alloc_new w (.cells (bv (List.replicate 32 0)).toArray 5)
  have hb := (Below.refl w.heap.size w).alloc (Nat.le_refl _) (.cells (bv (List.replicate 32 0)).toArray 5)
  generalize w.alloc (.cells (bv (List.replicate 32 0)).toArray 5) = w1 at *
  have H0 : Hid (w1.heap[w.heap.size]? = some (.cells (bv (hk c 0)).toArray 5 (0, 0)) ∧ Below w.heap.size w w1) := ⟨by unfold hk; simpa using h0, hb⟩
  clear h0 hb
  go_enter Tryd.func17, Tryd.ntmps17
  go_wp2
  clear hmk
  go_loopw [4] (fun i w' => ∃ k : Nat, i = .int .i64 (k : Int) ∧ k ≤ 32 ∧ Hid (w'.heap[w.heap.size]? = some (.cells (bv (hk c k)).toArray 5 (0, 0)) ∧ Below w.heap.size w w')) (fun i _ => 32 - (intOf i).toNat)
  case atStart => exact ⟨0, rfl, by omega, H0⟩
  case round =>
    clear H0
    obtain ⟨k, rfl, hk', H⟩ := hrel
    by_cases hk2 : k < 32
    · have c0 : (k : Int) < 32 := by omega
      obtain ⟨y, _, _, c1⟩ := bv_cell H.out.1 k (by rw [hk_len c hk']; exact hk2)
      have f1 : wr.frozen? ⟨w.heap.size, k, none⟩ = false := frozen_of_row _ _ _ _ _ H.out.1
      have h2 := heap_setCell_same wr w.heap.size k _ _ (.int .u8 (c.toNat : Int)) H.out.1
      rw [show (bv (hk c k)).toArray.setIfInBounds k (.int .u8 (c.toNat : Int)) = (bv (hk c (k + 1))).toArray from by rw [← hk_set c hk2]; simp [bv, List.map_set]] at h2
      have H2 := hid (And.intro h2 (H.out.2.setCell (Nat.le_refl _) (p := ⟨w.heap.size, k, none⟩) (.int .u8 (c.toNat : Int))))
      clear h2 H
      generalize (c.toNat : Int) = cv at *
      go_wp2
      exact ⟨⟨k + 1, by go_num, by omega, H2⟩, by simp [intOf]; omega⟩
    · obtain rfl : k = 32 := by omega
      have c0 : ¬ ((32 : Nat) : Int) < 32 := by omega
      have hcv := run_conv_bytes (P := Tryd.prog) wr 58 9 5 w.heap.size 0 32 32 (hk c 32) (hk_len c (Nat.le_refl _)) Tryd.underlying58 Tryd.underlying5 Tryd.underlying9 (rangeAt_of_list H.out.1 (fun j v hv => by rw [Nat.zero_add]; exact hv))
      have e32 : hk c 32 = hh6 c := by unfold hk hh6; simp
      rw [e32] at hcv
      have HB := hid H.out.2
      clear H
      go_wp2
      go_ret
      exact ⟨rfl, HB.out⟩
set_option maxRecDepth 100000 in
set_option maxHeartbeats 400000 in
theorem leaf6_any (s : ByteArray) (hl : s.size ≤ 2305843009213690000) (w : World) (T : Tabs w) :
    Calls Tryd.prog 16 #[.string s] w fun e w' => e = .returned (sv (Sha.sha (0 :: s.data.toList))) ∧ Below w.heap.size w w' := by
  have hT := T.lt
  go_enter Tryd.func16, Tryd.ntmps16
  go_wp2_with (go_at_call 27; go_must (refine (sum_any w.heap.size 0 2 [[0], s.data.toList] (by simp [total]; omega) (by simp [maxLen]) _ (T.below ((Below.refl _ _).alloc (Nat.le_refl _) _) hT) (by rw [size_alloc]; omega) (texts2 w [0] s.data.toList _)).mono ?_); rintro e w5 ⟨rfl, hw5⟩)
  go_ret
  refine ⟨by simp, ?_⟩
  exact ((Below.refl _ _).alloc (Nat.le_refl _) _).trans (hw5.mono (by rw [size_alloc]; omega))
/-- X1 -/
def entO (a b : List UInt8) : (List UInt8 × List UInt8) × Int := if a = b ∨ Sha.sha (0 :: a) ≠ Sha.sha (0 :: b) then (([], []), 60) else ((0 :: a, 0 :: b), 0)
theorem leaf_at6 (a : List UInt8) (h : a.length ≤ 140737488355328) (w : World) (T : Tabs w) : Calls Tryd.prog 16 #[.string ⟨a.toArray⟩] w fun e w' => e = .returned (.string ⟨(Sha.sha (0 :: a)).toArray⟩) ∧ Below w.heap.size w w' := by
  have := leaf6_any ⟨a.toArray⟩ (by simp [ByteArray.size]; omega) w T
  simpa [sv] using this
theorem sum_big (t : List UInt8) (ht : t.length ≤ 140737488355329) (w : World) (n : Nat) (hn : w.heap.size = n) (T : Tabs w) : Calls Tryd.prog 27 #[.slice (some ⟨n, 0, none⟩) 1 1] (w.alloc (.cells #[.string ⟨t.toArray⟩] 9)) fun e w' => e = .returned (.string ⟨(Sha.sha t).toArray⟩) ∧ Below n w w' := by
  subst hn
  have al := (Below.refl w.heap.size w).alloc (Nat.le_refl _) (.cells #[sv t] 9)
  have h := sum_any w.heap.size 0 1 [t] (by unfold total; simp; omega) (by simp [maxLen]) (w.alloc (.cells #[sv t] 9)) (T.below al T.lt) (by rw [size_alloc]; omega) (texts16 w t _)
  refine h.mono ?_
  rintro e w' ⟨rfl, hb⟩
  refine ⟨by simp [sv], al.trans (hb.mono (by rw [size_alloc]; omega))⟩
theorem zero_val (a : List UInt8) : Value.string ({ data := #[0] } ++ { data := a.toArray }) = sv (0 :: a) := by
  unfold sv
  congr 1
set_option maxRecDepth 100000 in
set_option maxHeartbeats 2000000 in
theorem Entries_any (a b : List UInt8) (ha : a.length ≤ 140737488355328) (hb : b.length ≤ 140737488355328) (w : World) (T : Tabs w) :
    Calls Tryd.prog 15 #[sv a, sv b] w fun e w' => e = .returned (.tuple #[prP (entO a b).1.1 (entO a b).1.2, .int .i64 (entO a b).2]) ∧ Below w.heap.size w w' := by
  rw [svS a, svS b]
  have z1 := size_alloc w (.cells #[Value.string ⟨#[]⟩, .string ⟨#[]⟩] 25)
  have al := (Below.refl w.heap.size w).alloc (Nat.le_refl _) (.cells #[Value.string ⟨#[]⟩, .string ⟨#[]⟩] 25)
  have R0 := heap_alloc_new w (.cells #[Value.string ⟨#[]⟩, .string ⟨#[]⟩] 25)
  obtain ⟨w0, hw0⟩ : ∃ w0, w.alloc (.cells #[Value.string ⟨#[]⟩, .string ⟨#[]⟩] 25) = w0 := ⟨_, rfl⟩
  rw [hw0] at al R0 z1
  have HR := hid R0
  have HB := hid al
  have s1 : ¬ 9223372036854775807 < 1 + a.length := by omega
  have s2 : ¬ 9223372036854775807 < 1 + b.length := by omega
  have HT := hid T
  clear al R0 T
  by_cases hab : a = b
  · have e1 : (a == b) = true := by simpa using hab
    have HO2 : Hid (entO a b = (([], []), 60)) := by unfold entO; unfold Hid; rw [if_pos (.inl hab)]
    clear hab
    go_enter Tryd.func15, Tryd.ntmps15
    go_wp2_with ((with_reducible show wpList _ _ _ (Oper.mk _ (Op.store 25 _ _) _ _ _ _ :: _) _ _); go_must (refine wpList_store_row rfl 25 _ _ rfl (w.heap.size) _ rfl rfl 25 _ HR.out sizePr rfl (onePr [] []) ?_))
    refine bodyPost_ret (results_row6 rfl _ _ (w.heap.size) 25 _ (0, 0) _ rfl (setRow_heap _ _ _ _ _ _ HR.out) Tryd.underlying25 rfl sizePr) rfl ?_
    exact ⟨by rw [HO2.out]; rfl, Below.setRow HB.out (by omega) _⟩
  · have e1 : (a == b) = false := by simpa using hab
    have i1 := leaf_at6 a ha w0 (HT.out.below HB.out HT.out.lt)
    have i2 := fun w' (hb' : Below w.heap.size w w') => leaf_at6 b hb w' (HT.out.below hb' HT.out.lt)
    go_enter Tryd.func15, Tryd.ntmps15
    go_wp2_with (go_at_call 16; fail)
    refine i1.mono ?_
    rintro e w1 ⟨rfl, k1⟩
    have i2 := i2 w1 (HB.out.trans (k1.mono HB.out.size))
    clear i1
    go_wp2_with (go_at_call 16; fail)
    refine i2.mono ?_
    rintro e w2 ⟨rfl, k2⟩
    have k12 := k1.trans (k2.mono k1.size)
    have HR2 := hid ((k12.block _ (lt_of_heap HR.out)).trans HR.out)
    have HB2 := hid (HB.out.trans (k12.mono HB.out.size))
    clear i2 k1 k2 k12 HR HB
    obtain ⟨x, hx⟩ : ∃ x, Hid (Sha.sha (0 :: a) = x) := ⟨_, rfl⟩
    obtain ⟨y, hy⟩ : ∃ y, Hid (Sha.sha (0 :: b) = y) := ⟨_, rfl⟩
    rw [hx.out, hy.out]
    by_cases hxy : x = y
    · have e2 : (x == y) = true := by simpa using hxy
      have e3 : (x != y) = false := by rw [bne, e2]; rfl
      have HO2 : Hid (entO a b = ((0 :: a, 0 :: b), 0)) := by unfold entO; unfold Hid; rw [if_neg (by rw [hx.out, hy.out]; simp [hab, hxy])]
      clear hxy hab
      go_wp2_with ((with_reducible show wpList _ _ _ (Oper.mk _ (Op.store 25 _ _) _ _ _ _ :: _) _ _); go_must (refine wpList_store_row rfl 25 _ _ rfl (w.heap.size) _ rfl rfl 25 _ HR2.out sizePr rfl (by rw [zero_val a, zero_val b]; exact onePr _ _) ?_))
      refine bodyPost_ret (results_row6 rfl _ _ (w.heap.size) 25 _ (0, 0) _ rfl (setRow_heap _ _ _ _ _ _ HR2.out) Tryd.underlying25 rfl sizePr) rfl ?_
      exact ⟨by rw [HO2.out]; unfold prP; rw [← zero_val a, ← zero_val b]; rfl, Below.setRow HB2.out (by omega) _⟩
    · have e2 : (x == y) = false := by simpa using hxy
      have e3 : (x != y) = true := by rw [bne, e2]; rfl
      have HO2 : Hid (entO a b = (([], []), 60)) := by unfold entO; unfold Hid; rw [if_pos (.inr (by rw [hx.out, hy.out]; exact hxy))]
      clear hxy hab
      go_wp2_with ((with_reducible show wpList _ _ _ (Oper.mk _ (Op.store 25 _ _) _ _ _ _ :: _) _ _); go_must (refine wpList_store_row rfl 25 _ _ rfl (w.heap.size) _ rfl rfl 25 _ HR2.out sizePr rfl (onePr [] []) ?_))
      refine bodyPost_ret (results_row6 rfl _ _ (w.heap.size) 25 _ (0, 0) _ rfl (setRow_heap _ _ _ _ _ _ HR2.out) Tryd.underlying25 rfl sizePr) rfl ?_
      exact ⟨by rw [HO2.out]; rfl, Below.setRow HB2.out (by omega) _⟩
end Go.Proofs.YtlfmnedmbkpdbaaDoor

namespace Go.Proofs.YtlfmnedmbkpdbaaDoor
open Go.RowKit
/-- Sum of one text that lies in a cell -/
theorem sum_cell (t : List UInt8) (ht : t.length ≤ 140737488355329) (w : World) (g : Nat) (hg : g < w.heap.size) (hc : w.cell? ⟨g, 0, none⟩ = some (.string ⟨t.toArray⟩)) (T : Tabs w) : Calls Tryd.prog 27 #[.slice (some ⟨g, 0, none⟩) 1 1] w fun e w' => e = .returned (.string ⟨(Sha.sha t).toArray⟩) ∧ Below w.heap.size w w' := by
  have h := sum_any g 0 1 [t] (by unfold total; simp; omega) (by simp [maxLen]) w T hg (fun j p hp => by
    match j, hp with
    | 0, hp => obtain rfl := Option.some.inj hp; exact hc)
  refine h.mono ?_
  rintro e w' ⟨rfl, hb⟩
  exact ⟨by simp [sv], hb⟩
set_option maxRecDepth 100000 in
set_option maxHeartbeats 400000 in
theorem unlike_yes (A B : List UInt8) (hA : A.length ≤ 140737488355329) (hB : B.length ≤ 140737488355329) (hne : A ≠ B) (hs : Sha.sha A = Sha.sha B) (w : World) (T : Tabs w) :
    Calls Tryd.prog 10 #[prP A B] w fun e w' => e = .returned (.bool true) ∧ Below w.heap.size w w' := by
  have hd : (A == B) = false := by simpa using hne
  have hd2 : (A != B) = true := by rw [bne, hd]; rfl
  obtain ⟨X, hX⟩ : ∃ X, Hid (Sha.sha A = X) := ⟨_, rfl⟩
  have iA := fun w' g h1 h2 T' => sum_cell A hA w' g h1 h2 T'
  have iB := fun w' g h1 h2 T' => sum_cell B hB w' g h1 h2 T'
  rw [hX.out] at iA
  rw [← hs, hX.out] at iB
  clear hX hs hne hA hB
  unfold prP
  rw [svS A, svS B]
  have al := (Below.refl w.heap.size w).alloc (Nat.le_refl _) (.cells #[Value.string ⟨A.toArray⟩, .string ⟨B.toArray⟩] 25)
  have R0 := heap_alloc_new w (.cells #[Value.string ⟨A.toArray⟩, .string ⟨B.toArray⟩] 25)
  obtain ⟨w0, hw0⟩ : ∃ w0, w.alloc (.cells #[Value.string ⟨A.toArray⟩, .string ⟨B.toArray⟩] 25) = w0 := ⟨_, rfl⟩
  rw [hw0] at al R0
  have CL : ∀ w', Below w0.heap.size w0 w' → w'.cell? ⟨w.heap.size, 0, none⟩ = some (.string ⟨A.toArray⟩) ∧ w'.cell? ⟨w.heap.size, 1, none⟩ = some (.string ⟨B.toArray⟩) := fun w' hb => by
    have h1 := (hb.block _ (lt_of_heap R0)).trans R0
    exact ⟨by rw [cell_of_row _ _ _ _ _ _ h1]; rfl, by rw [cell_of_row _ _ _ _ _ _ h1]; rfl⟩
  have TL : ∀ w', Below w0.heap.size w0 w' → Tabs w' := fun w' hb => (T.below al T.lt).below hb (T.below al T.lt).lt
  have HB := hid al
  have bd : Below w0.heap.size w0 w0.drew := (Below.refl _ _).drew
  have S0 := CL _ bd
  clear R0 T al
  go_enter Tryd.func10, Tryd.ntmps10
  go_wp2
  obtain ⟨wd, hwd⟩ : ∃ wd, w0.drew = wd := ⟨_, rfl⟩
  refine wp_region_held_drew (S := fun w' => w'.cell? ⟨w.heap.size, 0, none⟩ = some (.string ⟨A.toArray⟩) ∧ w'.cell? ⟨w.heap.size, 1, none⟩ = some (.string ⟨B.toArray⟩)) (by kernel_rfl) S0 (fun hHeld => ?_)
  rw [hwd] at hHeld bd ⊢
  have zd : w0.heap.size ≤ wd.heap.size := bd.size
  clear hwd S0
  refine wpAnyH_take (i := 0) (v := .pointer (some ⟨w.heap.size, 0, none⟩)) rfl (by kernel_rfl) (by kernel_rfl) (by kernel_rfl) (fun _ _ _ h => h) (Or.inl ⟨by kernel_rfl, ?_⟩) hHeld ?_
  · intro w' hw'
    obtain ⟨y0, y1⟩ := hw'
    go_simp
  dsimp only [Act.put]
  refine wpAnyH_take (i := 1) (v := .string ⟨A.toArray⟩) rfl (by kernel_rfl) (by kernel_rfl) (by kernel_rfl) (fun _ _ _ h => h) (Or.inl ⟨by kernel_rfl, ?_⟩) hHeld ?_
  · intro w' hw'
    obtain ⟨y0, y1⟩ := hw'
    go_simp
  dsimp only [Act.put]
  refine wpAnyH_take (i := 2) (v := .pointer (some ⟨w.heap.size, 1, none⟩)) rfl (by kernel_rfl) (by kernel_rfl) (by kernel_rfl) (fun _ _ _ h => h) (Or.inl ⟨by kernel_rfl, ?_⟩) hHeld ?_
  · intro w' hw'
    obtain ⟨y0, y1⟩ := hw'
    go_simp
  dsimp only [Act.put]
  refine wpAnyH_take (i := 3) (v := .string ⟨B.toArray⟩) rfl (by kernel_rfl) (by kernel_rfl) (by kernel_rfl) (fun _ _ _ h => h) (Or.inl ⟨by kernel_rfl, ?_⟩) hHeld ?_
  · intro w' hw'
    obtain ⟨y0, y1⟩ := hw'
    go_simp
  dsimp only [Act.put]
  refine wpAnyH_take (i := 4) (v := .bool true) rfl (by kernel_rfl) (by kernel_rfl) (by kernel_rfl) (fun _ _ _ h => h) (Or.inl ⟨by kernel_rfl, ?_⟩) hHeld ?_
  · intro w' hw'
    obtain ⟨y0, y1⟩ := hw'
    go_simp
  dsimp only [Act.put]
  refine wpAnyH_take (i := 5) (v := .bool true) rfl (by kernel_rfl) (by kernel_rfl) (by kernel_rfl) (fun _ _ _ h => h) (Or.inl ⟨by kernel_rfl, ?_⟩) hHeld ?_
  · intro w' hw'
    obtain ⟨y0, y1⟩ := hw'
    go_simp
  dsimp only [Act.put]
  refine wpAnyH_take (i := 6) (v := .pointer (some ⟨w.heap.size, 0, none⟩)) rfl (by kernel_rfl) (by kernel_rfl) (by kernel_rfl) (fun _ _ _ h => h) (Or.inl ⟨by kernel_rfl, ?_⟩) hHeld ?_
  · intro w' hw'
    obtain ⟨y0, y1⟩ := hw'
    go_simp
  dsimp only [Act.put]
  refine wpAnyH_take (i := 7) (v := .string ⟨A.toArray⟩) rfl (by kernel_rfl) (by kernel_rfl) (by kernel_rfl) (fun _ _ _ h => h) (Or.inl ⟨by kernel_rfl, ?_⟩) hHeld ?_
  · intro w' hw'
    obtain ⟨y0, y1⟩ := hw'
    go_simp
  dsimp only [Act.put]
  refine wpAnyH_take (i := 10) (v := .pointer (some ⟨w.heap.size, 1, none⟩)) rfl (by kernel_rfl) (by kernel_rfl) (by kernel_rfl) (fun _ _ _ h => h) (Or.inl ⟨by kernel_rfl, ?_⟩) hHeld ?_
  · intro w' hw'
    obtain ⟨y0, y1⟩ := hw'
    go_simp
  dsimp only [Act.put]
  refine wpAnyH_take (i := 11) (v := .string ⟨B.toArray⟩) rfl (by kernel_rfl) (by kernel_rfl) (by kernel_rfl) (fun _ _ _ h => h) (Or.inl ⟨by kernel_rfl, ?_⟩) hHeld ?_
  · intro w' hw'
    obtain ⟨y0, y1⟩ := hw'
    go_simp
  dsimp only [Act.put]
  have Bwd := bd
  refine wpAnyH_ready (rs := [8, 12]) (by kernel_rfl) (by decide) (AllReadyH.cons rfl (fun K8 hK8 => ?_) (AllReadyH.cons rfl (fun K12 hK12 => ?_) AllReadyH.nil))
  · rw [if_pos (by kernel_rfl)]
    go_wp2
    have alw1 := (Below.refl wd.heap.size wd).alloc (Nat.le_refl _) (.cells #[Value.string ⟨A.toArray⟩] 9)
    have row1 := heap_alloc_new wd (.cells #[Value.string ⟨A.toArray⟩] 9)
    have szw1 := size_alloc wd (.cells #[Value.string ⟨A.toArray⟩] 9)
    have Bw1 := Bwd.trans (alw1.mono Bwd.size)
    refine hK8.out _ _ (CL _ Bw1) (fun _ => ?_)
    obtain ⟨w1, hw1⟩ : ∃ w1, wd.alloc (.cells #[Value.string ⟨A.toArray⟩] 9) = w1 := ⟨_, rfl⟩
    rw [hw1] at alw1 row1 szw1 Bw1 ⊢
    refine wpAnyH_ready (rs := [9, 12]) (by kernel_rfl) (by decide) (AllReadyH.cons rfl (fun K9 hK9 => ?_) (AllReadyH.cons rfl (fun K12 hK12 => ?_) AllReadyH.nil))
    · rw [if_pos (by kernel_rfl)]
      have q9 := iA w1 wd.heap.size (lt_of_heap row1) (by rw [cell_of_row _ _ _ _ _ _ row1]; rfl) (TL _ Bw1)
      go_wp2_with (go_at_call 27; fail)
      first
        | with_reducible refine q9.mono ?_
        | (rw [szw1] at q9; with_reducible refine q9.mono ?_)
      rintro e w2 ⟨rfl, kw2⟩
      have Bw2 := Bw1.trans (kw2.mono Bw1.size)
      go_wp2
      refine hK9.out _ _ (CL _ Bw2) (fun _ => ?_)
      refine wpAnyH_ready (rs := [12]) (by kernel_rfl) (by decide) (AllReadyH.cons rfl (fun K12 hK12 => ?_) AllReadyH.nil)
      rw [if_pos (by kernel_rfl)]
      go_wp2
      have alw3 := (Below.refl w2.heap.size w2).alloc (Nat.le_refl _) (.cells #[Value.string ⟨B.toArray⟩] 9)
      have row3 := heap_alloc_new w2 (.cells #[Value.string ⟨B.toArray⟩] 9)
      have szw3 := size_alloc w2 (.cells #[Value.string ⟨B.toArray⟩] 9)
      have Bw3 := Bw2.trans (alw3.mono Bw2.size)
      refine hK12.out _ _ (CL _ Bw3) (fun _ => ?_)
      obtain ⟨w3, hw3⟩ : ∃ w3, w2.alloc (.cells #[Value.string ⟨B.toArray⟩] 9) = w3 := ⟨_, rfl⟩
      rw [hw3] at alw3 row3 szw3 Bw3 ⊢
      refine wpAnyH_ready (rs := [13]) (by kernel_rfl) (by decide) (AllReadyH.cons rfl (fun K13 hK13 => ?_) AllReadyH.nil)
      rw [if_pos (by kernel_rfl)]
      have q13 := iB w3 w2.heap.size (lt_of_heap row3) (by rw [cell_of_row _ _ _ _ _ _ row3]; rfl) (TL _ Bw3)
      go_wp2_with (go_at_call 27; fail)
      first
        | with_reducible refine q13.mono ?_
        | (rw [szw1] at q13; with_reducible refine q13.mono ?_)
      rintro e w4 ⟨rfl, kw4⟩
      have Bw4 := Bw3.trans (kw4.mono Bw3.size)
      go_wp2
      refine hK13.out _ _ (CL _ Bw4) (fun _ => ?_)
      refine wpAnyH_take (i := 14) (v := .bool true) rfl (by kernel_rfl) (by kernel_rfl) (by kernel_rfl) (fun _ _ _ h => h) (Or.inl ⟨by kernel_rfl, ?_⟩) (CL _ Bw4) ?_
      · intro w' hw'
        go_simp
      dsimp only [Act.put]
      refine wpAnyH_take (i := 15) (v := .bool true) rfl (by kernel_rfl) (by kernel_rfl) (by kernel_rfl) (fun _ _ _ h => h) (Or.inl ⟨by kernel_rfl, ?_⟩) (CL _ Bw4) ?_
      · intro w' hw'
        go_simp
      dsimp only [Act.put]
      refine wpAnyH_ready (rs := [16]) (by kernel_rfl) (by decide) (AllReadyH.cons rfl (fun K16 hK16 => ?_) AllReadyH.nil)
      rw [if_pos (by kernel_rfl)]
      go_wp2
      refine hK16.out _ _ (CL _ Bw4) (fun _ => ⟨by kernel_rfl, ?_⟩)
      go_wp2
      go_ret
      exact ⟨rfl, HB.out.trans (Bw4.mono HB.out.size)⟩
    · rw [if_pos (by kernel_rfl)]
      go_wp2
      have alw2 := (Below.refl w1.heap.size w1).alloc (Nat.le_refl _) (.cells #[Value.string ⟨B.toArray⟩] 9)
      have row2 := heap_alloc_new w1 (.cells #[Value.string ⟨B.toArray⟩] 9)
      have szw2 := size_alloc w1 (.cells #[Value.string ⟨B.toArray⟩] 9)
      have Bw2 := Bw1.trans (alw2.mono Bw1.size)
      refine hK12.out _ _ (CL _ Bw2) (fun _ => ?_)
      obtain ⟨w2, hw2⟩ : ∃ w2, w1.alloc (.cells #[Value.string ⟨B.toArray⟩] 9) = w2 := ⟨_, rfl⟩
      rw [hw2] at alw2 row2 szw2 Bw2 ⊢
      have rox := (alw2.block _ (lt_of_heap row1)).trans row1
      refine wpAnyH_ready (rs := [9]) (by kernel_rfl) (by decide) (AllReadyH.cons rfl (fun K9 hK9 => ?_) AllReadyH.nil)
      rw [if_pos (by kernel_rfl)]
      have q9 := iA w2 wd.heap.size (lt_of_heap rox) (by rw [cell_of_row _ _ _ _ _ _ rox]; rfl) (TL _ Bw2)
      go_wp2_with (go_at_call 27; fail)
      first
        | with_reducible refine q9.mono ?_
        | (rw [szw1] at q9; with_reducible refine q9.mono ?_)
      rintro e w3 ⟨rfl, kw3⟩
      have Bw3 := Bw2.trans (kw3.mono Bw2.size)
      go_wp2
      refine hK9.out _ _ (CL _ Bw3) (fun _ => ?_)
      have roy := (kw3.block _ (lt_of_heap row2)).trans row2
      refine wpAnyH_ready (rs := [13]) (by kernel_rfl) (by decide) (AllReadyH.cons rfl (fun K13 hK13 => ?_) AllReadyH.nil)
      rw [if_pos (by kernel_rfl)]
      have q13 := iB w3 w1.heap.size (lt_of_heap roy) (by rw [cell_of_row _ _ _ _ _ _ roy]; rfl) (TL _ Bw3)
      go_wp2_with (go_at_call 27; fail)
      first
        | with_reducible refine q13.mono ?_
        | (rw [szw1] at q13; with_reducible refine q13.mono ?_)
      rintro e w4 ⟨rfl, kw4⟩
      have Bw4 := Bw3.trans (kw4.mono Bw3.size)
      go_wp2
      refine hK13.out _ _ (CL _ Bw4) (fun _ => ?_)
      refine wpAnyH_take (i := 14) (v := .bool true) rfl (by kernel_rfl) (by kernel_rfl) (by kernel_rfl) (fun _ _ _ h => h) (Or.inl ⟨by kernel_rfl, ?_⟩) (CL _ Bw4) ?_
      · intro w' hw'
        go_simp
      dsimp only [Act.put]
      refine wpAnyH_take (i := 15) (v := .bool true) rfl (by kernel_rfl) (by kernel_rfl) (by kernel_rfl) (fun _ _ _ h => h) (Or.inl ⟨by kernel_rfl, ?_⟩) (CL _ Bw4) ?_
      · intro w' hw'
        go_simp
      dsimp only [Act.put]
      refine wpAnyH_ready (rs := [16]) (by kernel_rfl) (by decide) (AllReadyH.cons rfl (fun K16 hK16 => ?_) AllReadyH.nil)
      rw [if_pos (by kernel_rfl)]
      go_wp2
      refine hK16.out _ _ (CL _ Bw4) (fun _ => ⟨by kernel_rfl, ?_⟩)
      go_wp2
      go_ret
      exact ⟨rfl, HB.out.trans (Bw4.mono HB.out.size)⟩
  · rw [if_pos (by kernel_rfl)]
    go_wp2
    have alw1 := (Below.refl wd.heap.size wd).alloc (Nat.le_refl _) (.cells #[Value.string ⟨B.toArray⟩] 9)
    have row1 := heap_alloc_new wd (.cells #[Value.string ⟨B.toArray⟩] 9)
    have szw1 := size_alloc wd (.cells #[Value.string ⟨B.toArray⟩] 9)
    have Bw1 := Bwd.trans (alw1.mono Bwd.size)
    refine hK12.out _ _ (CL _ Bw1) (fun _ => ?_)
    obtain ⟨w1, hw1⟩ : ∃ w1, wd.alloc (.cells #[Value.string ⟨B.toArray⟩] 9) = w1 := ⟨_, rfl⟩
    rw [hw1] at alw1 row1 szw1 Bw1 ⊢
    refine wpAnyH_ready (rs := [8]) (by kernel_rfl) (by decide) (AllReadyH.cons rfl (fun K8 hK8 => ?_) AllReadyH.nil)
    rw [if_pos (by kernel_rfl)]
    go_wp2
    have alw2 := (Below.refl w1.heap.size w1).alloc (Nat.le_refl _) (.cells #[Value.string ⟨A.toArray⟩] 9)
    have row2 := heap_alloc_new w1 (.cells #[Value.string ⟨A.toArray⟩] 9)
    have szw2 := size_alloc w1 (.cells #[Value.string ⟨A.toArray⟩] 9)
    have Bw2 := Bw1.trans (alw2.mono Bw1.size)
    refine hK8.out _ _ (CL _ Bw2) (fun _ => ?_)
    obtain ⟨w2, hw2⟩ : ∃ w2, w1.alloc (.cells #[Value.string ⟨A.toArray⟩] 9) = w2 := ⟨_, rfl⟩
    rw [hw2] at alw2 row2 szw2 Bw2 ⊢
    refine wpAnyH_ready (rs := [9]) (by kernel_rfl) (by decide) (AllReadyH.cons rfl (fun K9 hK9 => ?_) AllReadyH.nil)
    rw [if_pos (by kernel_rfl)]
    have q9 := iA w2 w1.heap.size (lt_of_heap row2) (by rw [cell_of_row _ _ _ _ _ _ row2]; rfl) (TL _ Bw2)
    go_wp2_with (go_at_call 27; fail)
    first
      | with_reducible refine q9.mono ?_
      | (rw [szw1] at q9; with_reducible refine q9.mono ?_)
    rintro e w3 ⟨rfl, kw3⟩
    have Bw3 := Bw2.trans (kw3.mono Bw2.size)
    go_wp2
    refine hK9.out _ _ (CL _ Bw3) (fun _ => ?_)
    have rox := (kw3.block _ (Nat.lt_of_lt_of_le (lt_of_heap row1) alw2.size)).trans ((alw2.block _ (lt_of_heap row1)).trans row1)
    refine wpAnyH_ready (rs := [13]) (by kernel_rfl) (by decide) (AllReadyH.cons rfl (fun K13 hK13 => ?_) AllReadyH.nil)
    rw [if_pos (by kernel_rfl)]
    have q13 := iB w3 wd.heap.size (lt_of_heap rox) (by rw [cell_of_row _ _ _ _ _ _ rox]; rfl) (TL _ Bw3)
    go_wp2_with (go_at_call 27; fail)
    first
      | with_reducible refine q13.mono ?_
      | (rw [szw1] at q13; with_reducible refine q13.mono ?_)
    rintro e w4 ⟨rfl, kw4⟩
    have Bw4 := Bw3.trans (kw4.mono Bw3.size)
    go_wp2
    refine hK13.out _ _ (CL _ Bw4) (fun _ => ?_)
    refine wpAnyH_take (i := 14) (v := .bool true) rfl (by kernel_rfl) (by kernel_rfl) (by kernel_rfl) (fun _ _ _ h => h) (Or.inl ⟨by kernel_rfl, ?_⟩) (CL _ Bw4) ?_
    · intro w' hw'
      go_simp
    dsimp only [Act.put]
    refine wpAnyH_take (i := 15) (v := .bool true) rfl (by kernel_rfl) (by kernel_rfl) (by kernel_rfl) (fun _ _ _ h => h) (Or.inl ⟨by kernel_rfl, ?_⟩) (CL _ Bw4) ?_
    · intro w' hw'
      go_simp
    dsimp only [Act.put]
    refine wpAnyH_ready (rs := [16]) (by kernel_rfl) (by decide) (AllReadyH.cons rfl (fun K16 hK16 => ?_) AllReadyH.nil)
    rw [if_pos (by kernel_rfl)]
    go_wp2
    refine hK16.out _ _ (CL _ Bw4) (fun _ => ⟨by kernel_rfl, ?_⟩)
    go_wp2
    go_ret
    exact ⟨rfl, HB.out.trans (Bw4.mono HB.out.size)⟩
end Go.Proofs.YtlfmnedmbkpdbaaDoor
