import Derived.Test.YtkpfpfjjkcefkaaCDV2
namespace Go.Proofs.Ytkpfpfjjkcefkaa
open Go.RowKit Go.Maps

theorem take_rep {α : Type} (n m : Nat) (x y : α) : (List.replicate n x ++ List.replicate m y).take n = List.replicate n x := by
  rw [List.take_append_of_le_length (by simp), List.take_replicate]; simp
theorem drop_rep {α : Type} (n m k : Nat) (x y : α) : (List.replicate n x ++ List.replicate m y).drop (n + k) = List.replicate (m - k) y := by
  rw [← List.drop_drop, List.drop_left' (by simp), List.drop_replicate]
/-- copy(new[n:], new[:n]) -/
theorem copy_within (w : World) (H n N c1 c2 : Nat) (x : List UInt8) (hnN : n < N) (hR : Row w H (List.replicate n x ++ List.replicate (N - n) [])) :
    ∃ w' m, m = min n (N - n) ∧ (Builtin.copy_ #[30, 30] 3 #[.slice (some ⟨H, n, none⟩) (N - n) c1, .slice (some ⟨H, 0, none⟩) n c2]).run Try.prog w = .ok (goInt (m : Int)) w' ∧
      Row w' H (List.replicate (n + m) x ++ List.replicate (N - (n + m)) []) ∧ But H w w' := by
  obtain ⟨m, hm⟩ : ∃ m, m = min n (N - n) := ⟨_, rfl⟩
  have h := run_copy_row (P := Try.prog) w 30 30 3 9 H n (N - n) c1 ⟨H, 0, none⟩ n c2 _ 9 (svs (List.replicate m x)) Try.underlying30 infoS1 hR
    (by rw [svs_length, List.length_replicate]; exact hm) (fun j u hu => by
      simp only [svs, List.getElem?_map, Option.map_eq_some_iff] at hu
      obtain ⟨p, hp, rfl⟩ := hu
      rw [Addr.add_mid, Nat.zero_add]
      refine hR.cell ?_
      have hj := (List.getElem?_eq_some_iff.1 hp).1
      rw [List.length_replicate] at hj
      rw [List.getElem?_replicate, if_pos hj] at hp
      rw [List.getElem?_append_left (by simp; omega), List.getElem?_replicate, if_pos (by omega)]; exact hp) (by simp [svs]; omega) (fun u hu => svs_one' hu)
  rw [show (svs (List.replicate m x)).length = m by rw [svs_length, List.length_replicate]] at h
  refine ⟨_, m, hm, h, ?_, (But.refl _ _).setRow _⟩
  unfold Row
  rw [setRow_heap _ _ _ _ _ _ hR]
  refine congrArg (fun A => some (Obj.cells A 9 (0, 0))) ?_
  refine congrArg List.toArray ?_
  simp only [svs, ← List.map_take, ← List.map_drop, ← List.map_append]
  rw [take_rep, drop_rep, ← List.replicate_append_replicate, Nat.sub_add_eq]
theorem copy_first (w : World) (H N c1 H0 : Nat) (x : List UInt8) (hN : 1 ≤ N) (hR : Row w H (List.replicate N [])) (hx : w.cell? ⟨H0, 0, none⟩ = some (sv x)) :
    ∃ w', (Builtin.copy_ #[30, 30] 3 #[.slice (some ⟨H, 0, none⟩) N c1, .slice (some ⟨H0, 0, none⟩) 1 1]).run Try.prog w = .ok (.int .i64 1) w' ∧
      Row w' H (List.replicate 1 x ++ List.replicate (N - 1) []) ∧ But H w w' := by
  have h := run_copy_row (P := Try.prog) w 30 30 3 9 H 0 N c1 ⟨H0, 0, none⟩ 1 1 _ 9 (svs [x]) Try.underlying30 infoS1 hR
    (by rw [svs_length]; exact (Nat.min_eq_left hN).symm) (fun j u hu => by
      rcases j with _ | j
      · simp [svs] at hu; subst hu; exact hx
      · simp [svs] at hu) (by simp [svs]; omega) (fun u hu => svs_one' hu)
  refine ⟨_, h.trans rfl, ?_, (But.refl _ _).setRow _⟩
  unfold Row
  rw [setRow_heap _ _ _ _ _ _ hR]
  refine congrArg (fun A => some (Obj.cells A 9 (0, 0))) ?_
  simp [svs]
set_option maxRecDepth 100000 in
set_option maxHeartbeats 1000000 in
theorem repeat_any (x : List UInt8) (N : Nat) (hN : 1 ≤ N) (hN2 : N ≤ 4096) (H0 : Nat) (w : World) (hx : w.cell? ⟨H0, 0, none⟩ = some (sv x)) (hlt : H0 < w.heap.size) :
    Calls Try.prog 29 #[.slice (some ⟨H0, 0, none⟩) 1 1, .int .i64 (N : Int)] w fun r w' => r = .returned (.slice (some ⟨w.heap.size, 0, none⟩) N N) ∧ Row w' w.heap.size (List.replicate N x) ∧ Below w.heap.size w w' := by
  have i1 : Calls Try.prog 55 #[.int .u64 1, .int .u64 (N : Int)] w fun e w' => e = .returned (.tuple #[.int .u64 0, .int .u64 (N : Int)]) ∧ w' = w := by
    have h := Try.bits_Mul 1 N (by omega) (by omega) w
    rw [Nat.one_mul, Nat.div_eq_of_lt (by omega), Nat.mod_eq_of_lt (by omega)] at h
    exact h
  have hmk := make_texts w N (by omega)
  have R1 : Row (w.alloc (.cells (svs (List.replicate N [])).toArray 9)) w.heap.size (List.replicate N []) := heap_alloc_new w _
  have b1 := (Below.refl w.heap.size w).alloc (Nat.le_refl _) (.cells (svs (List.replicate N [])).toArray 9)
  obtain ⟨w1, hw1⟩ : ∃ w1, w.alloc (.cells (svs (List.replicate N [])).toArray 9) = w1 := ⟨_, rfl⟩
  rw [hw1] at R1 b1 hmk
  obtain ⟨w2, hcp, R2, b2⟩ := copy_first w1 w.heap.size N N H0 x hN R1 ((b1.cell (p := ⟨H0, 0, none⟩) hlt).trans hx)
  have B2 := hid (b1.trans (b2.below (Nat.le_refl _) b1.size))
  have R2 := hid R2
  have n0 : ¬ (N : Int) < 0 := by omega
  have n1 : (N : Int) ≤ 9223372036854775807 := by omega
  clear R1 b1 b2 hw1
  go_enter Try.func29, Try.ntmps29
  go_wp2_with (go_at_call 55; refine i1.mono ?_; rintro r w9 ⟨rfl, hw9⟩; replace hw9 := hw9.symm; subst hw9)
  go_loopw [8] (fun i w' => ∃ k : Nat, 1 ≤ k ∧ k ≤ N ∧ i = .int .i64 (k : Int) ∧ Hid (Row w' w.heap.size (List.replicate k x ++ List.replicate (N - k) [])) ∧ Hid (Below w.heap.size w w')) (fun i _ => N - (RowKit.intOf i).toNat)
  case atStart => exact ⟨1, by omega, by omega, rfl, R2, B2⟩
  case round =>
    clear R2 B2 hmk hcp i1
    obtain ⟨k, hk1, hk, rfl, hR, hB⟩ := hrel
    by_cases hkm : k < N
    · have c0 : (k : Int) < (N : Int) := by omega
      have k0 : (0 : Int) ≤ (k : Int) := by omega
      obtain ⟨w3, m, hm, hcp, R3, b3⟩ := copy_within wr.drew w.heap.size k N (N - k) N x hkm hR.out
      have B3 := hid ((hB.out.drew).trans (b3.below (Nat.le_refl _) hB.out.size))
      have R3 := hid R3
      have s1 : IntKind.i64.wrap ((k : Int) + (m : Int)) = ((k + m : Nat) : Int) := by rw [wrap_small _ (by omega) (by omega)]; omega
      have hm := hid hm
      clear hR hB b3
      go_wp2
      go_region
      go_wp2
      have hm := hm.out
      exact ⟨⟨k + m, by omega, by omega, by go_num, R3, B3⟩, by simp [RowKit.intOf]; omega⟩
    · obtain rfl : k = N := by omega
      have c0 : ¬ (k : Int) < (k : Int) := by omega
      go_wp2
      go_ret
      have hR := hR.out
      rw [Nat.sub_self, List.replicate_zero, List.append_nil] at hR
      exact ⟨rfl, hR, hB.out⟩
end Go.Proofs.Ytkpfpfjjkcefkaa
