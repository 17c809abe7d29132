import Derived.Test.YtfolaldjdefioaaDoorO10
namespace Go.Proofs.YtfolaldjdefioaaDoor
open Go.RowKit

/-- T3 -/
def partOut (l : List (List UInt8)) (b e : Int) : List UInt8 × Int := if wrg l = 0 then (if 0 ≤ b ∧ b ≤ e ∧ e ≤ l.length then (Tree.root ((l.take e.toNat).drop b.toNat), 0) else ([], 30)) else ([], wrg l)
set_option maxRecDepth 100000 in
set_option maxHeartbeats 1000000 in
theorem Part_any (l : List (List UInt8)) (b e : Int) (a : Option Addr) (cap : Nat) (w : World) (hl : l.length ≤ cap) (hc : cap ≤ 9223372036854775807) (hA : At w a l) (T : Tabs w) :
    Calls Tryd.prog 16 #[.slice a l.length cap, .agg #[.int .i64 b, .int .i64 e]] w fun x w' => x = .returned (.tuple #[sv (partOut l b e).1, .int .i64 (partOut l b e).2]) ∧ Below w.heap.size w w' := by
  have hb0 := (Below.refl w.heap.size w).alloc (Nat.le_refl _) (.cells #[.int .i64 b, .int .i64 e] 36)
  have hA1 := hA.below hb0 (Nat.le_refl _)
  have h1 := check_any l a cap _ (by omega) hA1
  have d0 : (w.alloc (.cells #[.int .i64 b, .int .i64 e] 36)).cell? ⟨w.heap.size, 0, none⟩ = some (.int .i64 b) := by rw [cell_of_row _ _ _ _ _ _ (heap_alloc_new w _)]; rfl
  have d1 : (w.alloc (.cells #[.int .i64 b, .int .i64 e] 36)).cell? ⟨w.heap.size, 1, none⟩ = some (.int .i64 e) := by rw [cell_of_row _ _ _ _ _ _ (heap_alloc_new w _)]; rfl
  have T1 := T.below hb0 T.lt
  by_cases h : wrg l = 0
  · rw [h] at h1
    by_cases hbe : 0 ≤ b ∧ b ≤ e ∧ e ≤ l.length
    · have ho : partOut l b e = (Tree.root ((l.take e.toNat).drop b.toNat), 0) := by rw [partOut, if_pos h, if_pos hbe]
      rw [ho]
      obtain ⟨B, rfl⟩ : ∃ B : Nat, b = (B : Int) := ⟨b.toNat, by omega⟩
      obtain ⟨E, rfl⟩ : ∃ E : Nat, e = (E : Int) := ⟨e.toNat, by omega⟩
      rw [Int.toNat_natCast, Int.toNat_natCast]
      have q1 : B ≤ E := by omega
      have q2 : E ≤ l.length := by omega
      have hlen : ((l.take E).drop B).length = E - B := by simp; omega
      by_cases heq : E = B
      · subst heq
        rw [List.drop_eq_nil_of_le (by simp; omega)]
        have h2 := root_any [] a 0 _ (by simp) (by omega) (At.nil _ _) T1
        rw [List.length_nil] at h2
        generalize Tree.root [] = r at *
        generalize l.length = n at *
        clear h hbe ho hA hA1 T T1 hlen
        go_enter Tryd.func16, Tryd.ntmps16
        go_wp2_with (first
          | (go_at_call 38; refine h1.mono ?_; rintro e w1 ⟨rfl, hw1⟩; rw [hw1]; clear hw1)
          | (go_at_call 40; refine h2.mono ?_; rintro e w2 ⟨rfl, hw2⟩))
        go_ret2
        exact ⟨rfl, hb0.trans (hw2.mono hb0.size)⟩
      · obtain ⟨x, rfl⟩ := hA.pos (by omega)
        have A2 := (hA1.take E).drop B
        have h2 := root_any _ (some (x.add B)) (E - B) _ (by omega) (by omega) A2 T1
        rw [hlen] at h2
        generalize Tree.root ((l.take E).drop B) = r at *
        generalize l.length = n at *
        have hne : ¬ E = B := heq
        clear h hbe ho hA hA1 hlen A2 T T1
        go_enter Tryd.func16, Tryd.ntmps16
        go_wp2_with (first
          | (go_at_call 38; refine h1.mono ?_; rintro e w1 ⟨rfl, hw1⟩; rw [hw1]; clear hw1)
          | (go_at_call 40; refine h2.mono ?_; rintro e w2 ⟨rfl, hw2⟩))
        go_ret2
        exact ⟨rfl, hb0.trans (hw2.mono hb0.size)⟩
    · have ho : partOut l b e = ([], 30) := by rw [partOut, if_pos h, if_neg hbe]
      rw [ho]
      generalize l.length = n at *
      clear h hA hA1 ho T T1
      by_cases b1 : b < 0
      · clear hbe
        go_enter Tryd.func16, Tryd.ntmps16
        go_wp2_with (go_at_call 38; refine h1.mono ?_; rintro e w1 ⟨rfl, hw1⟩; rw [hw1]; clear hw1)
        go_ret2
        exact ⟨rfl, hb0⟩
      · by_cases b2 : e < b
        · clear hbe
          go_enter Tryd.func16, Tryd.ntmps16
          go_wp2_with (go_at_call 38; refine h1.mono ?_; rintro e w1 ⟨rfl, hw1⟩; rw [hw1]; clear hw1)
          go_ret2
          exact ⟨rfl, hb0⟩
        · have b3 : (n : Int) < e := by omega
          clear hbe
          go_enter Tryd.func16, Tryd.ntmps16
          go_wp2_with (go_at_call 38; refine h1.mono ?_; rintro e w1 ⟨rfl, hw1⟩; rw [hw1]; clear hw1)
          go_ret2
          exact ⟨rfl, hb0⟩
  · have ho : partOut l b e = ([], wrg l) := by rw [partOut, if_neg h]
    rw [ho]
    generalize wrg l = z at *
    generalize l.length = n at *
    have b0 : (z != 0) = true := by simpa using h
    clear hA hA1 ho T T1
    go_enter Tryd.func16, Tryd.ntmps16
    go_wp2_with (go_at_call 38; refine h1.mono ?_; rintro e w1 ⟨rfl, hw1⟩; rw [hw1]; clear hw1)
    go_ret2
    exact ⟨rfl, hb0⟩
set_option maxRecDepth 100000 in
set_option maxHeartbeats 1000000 in
theorem rPart_any (l : List (List UInt8)) (b e : Int) (a : Option Addr) (cap : Nat) (w : World) (hl : l.length ≤ cap) (hc : cap ≤ 9223372036854775807) (hA : At w a l) :
    Calls Tryd.prog 27 #[.slice a l.length cap, .agg #[.int .i64 b, .int .i64 e]] w fun x w' => x = .returned (.tuple #[sv (partOut l b e).1, .int .i64 (partOut l b e).2]) ∧ Below w.heap.size w w' := by
  have hb0 := (Below.refl w.heap.size w).alloc (Nat.le_refl _) (.cells #[.int .i64 b, .int .i64 e] 36)
  have hA1 := hA.below hb0 (Nat.le_refl _)
  have h1 := wrong_any l a cap _ (by omega) hA1
  have d0 : (w.alloc (.cells #[.int .i64 b, .int .i64 e] 36)).cell? ⟨w.heap.size, 0, none⟩ = some (.int .i64 b) := by rw [cell_of_row _ _ _ _ _ _ (heap_alloc_new w _)]; rfl
  have d1 : (w.alloc (.cells #[.int .i64 b, .int .i64 e] 36)).cell? ⟨w.heap.size, 1, none⟩ = some (.int .i64 e) := by rw [cell_of_row _ _ _ _ _ _ (heap_alloc_new w _)]; rfl
  by_cases h : wrg l = 0
  · rw [h] at h1
    by_cases hbe : 0 ≤ b ∧ b ≤ e ∧ e ≤ l.length
    · have ho : partOut l b e = (Tree.root ((l.take e.toNat).drop b.toNat), 0) := by rw [partOut, if_pos h, if_pos hbe]
      rw [ho]
      obtain ⟨B, rfl⟩ : ∃ B : Nat, b = (B : Int) := ⟨b.toNat, by omega⟩
      obtain ⟨E, rfl⟩ : ∃ E : Nat, e = (E : Int) := ⟨e.toNat, by omega⟩
      rw [Int.toNat_natCast, Int.toNat_natCast]
      have q1 : B ≤ E := by omega
      have q2 : E ≤ l.length := by omega
      have hlen : ((l.take E).drop B).length = E - B := by simp; omega
      by_cases heq : E = B
      · subst heq
        rw [List.drop_eq_nil_of_le (by simp; omega)]
        by_cases hcB : cap = E
        · have h2 := R_any _ [] a 0 _ (Nat.le_refl _) (by simp) (by omega) (At.nil (w.alloc (.cells #[.int .i64 (E : Int), .int .i64 (E : Int)] 36)) a)
          rw [List.length_nil] at h2
          generalize Tree.root [] = r at *
          generalize l.length = n at *
          subst hcB
          clear h hbe ho hA hA1 hlen
          go_enter Tryd.func27, Tryd.ntmps27
          go_wp2_with (first
            | (go_at_call 47; refine h1.mono ?_; rintro e w1 ⟨rfl, hw1⟩; rw [hw1]; clear hw1)
            | (go_at_call 48; refine h2.mono ?_; rintro e w2 ⟨rfl, hw2⟩))
          go_ret2
          exact ⟨rfl, hb0.trans (hw2.mono hb0.size)⟩
        · have h2 := R_any _ [] (a.map (·.add E)) (cap - E) _ (Nat.le_refl _) (by simp) (by omega) (At.nil (w.alloc (.cells #[.int .i64 (E : Int), .int .i64 (E : Int)] 36)) (a.map (·.add E)))
          rw [List.length_nil] at h2
          generalize Tree.root [] = r at *
          generalize l.length = n at *
          clear h hbe ho hA hA1 hlen
          go_enter Tryd.func27, Tryd.ntmps27
          go_wp2_with (first
            | (go_at_call 47; refine h1.mono ?_; rintro e w1 ⟨rfl, hw1⟩; rw [hw1]; clear hw1)
            | (go_at_call 48; refine h2.mono ?_; rintro e w2 ⟨rfl, hw2⟩))
          go_ret2
          exact ⟨rfl, hb0.trans (hw2.mono hb0.size)⟩
      · obtain ⟨x, rfl⟩ := hA.pos (by omega)
        have A2 := (hA1.take E).drop B
        have h2 := R_any _ _ (some (x.add B)) (cap - B) _ (Nat.le_refl _) (by omega) (by omega) A2
        rw [hlen] at h2
        generalize Tree.root ((l.take E).drop B) = r at *
        generalize l.length = n at *
        have hne : ¬ cap = B := by omega
        clear h hbe ho hA hA1 hlen A2
        go_enter Tryd.func27, Tryd.ntmps27
        go_wp2_with (first
          | (go_at_call 47; refine h1.mono ?_; rintro e w1 ⟨rfl, hw1⟩; rw [hw1]; clear hw1)
          | (go_at_call 48; refine h2.mono ?_; rintro e w2 ⟨rfl, hw2⟩))
        go_ret2
        exact ⟨rfl, hb0.trans (hw2.mono hb0.size)⟩
    · have ho : partOut l b e = ([], 30) := by rw [partOut, if_pos h, if_neg hbe]
      rw [ho]
      generalize l.length = n at *
      clear h hA hA1 ho
      by_cases b1 : b < 0
      · clear hbe
        go_enter Tryd.func27, Tryd.ntmps27
        go_wp2_with (go_at_call 47; refine h1.mono ?_; rintro e w1 ⟨rfl, hw1⟩; rw [hw1]; clear hw1)
        go_ret2
        exact ⟨rfl, hb0⟩
      · by_cases b2 : e < b
        · clear hbe
          go_enter Tryd.func27, Tryd.ntmps27
          go_wp2_with (go_at_call 47; refine h1.mono ?_; rintro e w1 ⟨rfl, hw1⟩; rw [hw1]; clear hw1)
          go_ret2
          exact ⟨rfl, hb0⟩
        · have b3 : (n : Int) < e := by omega
          clear hbe
          go_enter Tryd.func27, Tryd.ntmps27
          go_wp2_with (go_at_call 47; refine h1.mono ?_; rintro e w1 ⟨rfl, hw1⟩; rw [hw1]; clear hw1)
          go_ret2
          exact ⟨rfl, hb0⟩
  · have ho : partOut l b e = ([], wrg l) := by rw [partOut, if_neg h]
    rw [ho]
    generalize wrg l = z at *
    generalize l.length = n at *
    have b0 : (z != 0) = true := by simpa using h
    clear hA hA1 ho
    go_enter Tryd.func27, Tryd.ntmps27
    go_wp2_with (go_at_call 47; refine h1.mono ?_; rintro e w1 ⟨rfl, hw1⟩; rw [hw1]; clear hw1)
    go_ret2
    exact ⟨rfl, hb0⟩
end Go.Proofs.YtfolaldjdefioaaDoor
