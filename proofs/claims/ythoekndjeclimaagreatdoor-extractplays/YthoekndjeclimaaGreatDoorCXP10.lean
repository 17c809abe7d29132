import Derived.Test.YthoekndjeclimaaGreatDoorCXP6
namespace Go.Proofs.YthoekndjeclimaaGreatDoor
open Go.RowKit
def slen : Value → Nat
  | .slice _ n _ => n
  | _ => 0
theorem Dwn.drew1 {w : World} {fb fe b n : Nat} {v : Value} {l : List (Nat × Nat × Bool)} {w' : World} (h : Dwn w fb fe b n v l w') : Dwn w fb fe b n v l w'.drew := ⟨h.r3, h.r6, ⟨h.st.1.drew, h.st.2⟩, h.bl.drew⟩
theorem drop_rev {α : Type} {K : List α} {j : Nat} (h : j < K.length) : (K.drop j).reverse = (K.drop (j + 1)).reverse ++ [K[j]] := by
  rw [List.drop_eq_getElem_cons h, List.reverse_cons]
set_option maxRecDepth 100000 in
set_option maxHeartbeats 8000000 in
theorem r6steps_any (N fb fe : Nat) (w : World) (hN : N ≤ 1099511627776) (hfb : fb ≤ 1099511627776) (hfe : fe ≤ 1099511627777) (hlen : (Tree.dn N 0 N fb fe).length ≤ 1000000) :
    Calls Tryz.prog 27 #[.int .i64 (N : Int), .agg #[.int .i64 (fb : Int), .int .i64 (fe : Int)]] w fun e w' => ∃ v, e = .returned v ∧ Sts w' w.heap.size v (Tree.dn N 0 N fb fe).reverse ∧ Below w.heap.size w w' := by
  obtain ⟨K, hK⟩ : ∃ K, Hid (Tree.dn N 0 N fb fe = K) := ⟨_, rfl⟩
  rw [hK.out]
  rw [hK.out] at hlen
  have HLn := hid hlen
  have b1 := (Below.refl w.heap.size w).alloc (Nat.le_refl _) (.cells #[Value.int .i64 (fb : Int), .int .i64 (fe : Int)] 53)
  have r1 := heap_alloc_new w (.cells #[Value.int .i64 (fb : Int), .int .i64 (fe : Int)] 53)
  have z1 := size_alloc w (.cells #[Value.int .i64 (fb : Int), .int .i64 (fe : Int)] 53)
  obtain ⟨w1, hw1⟩ : ∃ w1, w.alloc (.cells #[Value.int .i64 (fb : Int), .int .i64 (fe : Int)] 53) = w1 := ⟨_, rfl⟩
  rw [hw1] at b1 r1 z1
  have b2 := (Below.refl w1.heap.size w1).alloc (Nat.le_refl _) (.cells #[Value.int .i64 0, .int .i64 0] 53)
  have r2 := heap_alloc_new w1 (.cells #[Value.int .i64 0, .int .i64 0] 53)
  have z2 := size_alloc w1 (.cells #[Value.int .i64 0, .int .i64 0] 53)
  obtain ⟨w2, hw2⟩ : ∃ w2, w1.alloc (.cells #[Value.int .i64 0, .int .i64 0] 53) = w2 := ⟨_, rfl⟩
  rw [hw2] at b2 r2 z2
  have r21 := (b2.block _ (by omega)).trans r1
  rw [z1] at r2
  have R2 := hid r2
  have HZ := hid z1
  have D0 : Hid (Dwn w fb fe 0 N (.slice none 0 0) [] (w2.setRow (w.heap.size + 1) #[.int .i64 0, .int .i64 (N : Int)])) := by
    refine ⟨(setRow_other _ _ _ _ (by omega)).trans r21, ?_, ⟨OwnM.nil 3 _, fun k hk => by cases hk⟩, Below.setRow (b1.trans (b2.mono (by omega))) (by omega) _⟩
    rw [Nat.zero_add]
    exact setRow_heap _ _ _ _ _ _ r2
  have o1 : (#[Value.int .i64 0, .int .i64 (N : Int)].all (·.oneCell')) = true := all_oneCell_toArray (cs := [Value.int .i64 0, .int .i64 (N : Int)]) fun v hv => by
    simp only [List.mem_cons, List.not_mem_nil, or_false] at hv
    rcases hv with rfl | rfl <;> rfl
  clear b1 r1 b2 r2 r21 hlen z1 z2
  go_enter Tryz.func27, Tryz.ntmps27
  go_wp2_with ((with_reducible show wpList _ _ _ (Oper.mk _ (Op.store 53 _ _) _ _ _ _ :: _) _ _); (try rw [HZ.out]); go_must (refine wpList_store_row rfl 53 _ _ rfl (w.heap.size + 1) _ rfl rfl 53 _ R2.out size6Sp rfl o1 ?_))
  simp only [Act.put]
  clear R2 o1
  go_loopw [5] (fun v w' => ∃ (b n f : Nat) (l : List (Nat × Nat × Bool)), Hid (Dwn w fb fe b n v l w') ∧ n ≤ f ∧ b + n ≤ 1099511627776 ∧ Hid (l ++ Tree.dn f b n fb fe = K)) (fun v _ => K.length - slen v)
  case atStart => exact ⟨0, N, N, [], D0, Nat.le_refl _, by omega, hK⟩
  case round =>
    obtain ⟨b, n, f, l, hD, hnf, hbn, hl⟩ := hrel
    obtain ⟨c0, c1, c2, c3⟩ := hD.out.c0
    obtain ⟨sa, sc, rfl, _, _⟩ := hD.out.st.1.shape
    obtain ⟨E, hE⟩ : ∃ E : Nat, Hid (b + n = E) := ⟨_, rfl⟩
    rw [hE.out] at c3
    have hbE : b ≤ E := by rw [← hE.out]; omega
    have hE40 : E ≤ 1099511627776 := by rw [← hE.out]; omega
    have su : IntKind.i64.wrap ((E : Int) - (b : Int)) = (n : Int) := by rw [← hE.out, IntKind.wrap_i64]; omega
    by_cases hst : (b = fb ∧ b + n = fe) ∨ n < 2
    · have hlK : Hid (l = K) := by rw [Hid, ← hl.out, Tree.dn_stop hst, List.append_nil]
      have SD := hid hD.out.st
      have BD := hid hD.out.bl
      rw [hlK.out] at SD
      have hll : l.length = K.length := by rw [hlK.out]
      rw [hll]
      obtain ⟨L, hL⟩ : ∃ L, Hid (K.length = L) := ⟨_, rfl⟩
      rw [hL.out] at SD ⊢
      have hL6 : L ≤ 1000000 := by rw [← hL.out]; exact HLn.out
      have mL : IntKind.i64.wrap ((L : Int) - 1) = (L : Int) - 1 := by rw [IntKind.wrap_i64]; omega
      by_cases hq : b = fb ∧ E = fe
      · have e1 : (!((b : Int) == (fb : Int) && (E : Int) == (fe : Int))) = false := by rw [hq.1, hq.2]; simp
        clear e1
        obtain ⟨q1, q2⟩ := hq
        subst q1 q2
        clear hD hl hlK hll hst su
        go_wp2
        clear c0 c1 c2 c3
        obtain ⟨wx, rfl⟩ : ∃ wx, wx = wr := ⟨_, rfl⟩
        go_loopw [8, 9] (fun v i w' => ∃ j : Nat, j ≤ L ∧ i = .int .i64 ((j : Int) - 1) ∧ Hid (Sts w' wx.heap.size v (K.drop j).reverse) ∧ Hid (Below wx.heap.size wx w')) (fun _ i _ => (intOf i + 1).toNat)
        case atStart => exact ⟨L, Nat.le_refl _, rfl, by rw [Hid, List.drop_of_length_le (Nat.le_of_eq hL.out)]; exact ⟨OwnM.nil 3 _, fun k hk => by cases hk⟩, Below.refl _ _⟩
        case round =>
          obtain ⟨j, hj, rfl, hS, hB⟩ := hrel
          cases j with
          | zero =>
            go_wp2
            go_ret
            exact ⟨_, rfl, ⟨hS.out.1, fun k hk => Nat.le_trans BD.out.size (hS.out.2 k hk)⟩, BD.out.trans (hB.out.mono BD.out.size)⟩
          | succ j =>
            rw [show (((j + 1 : Nat) : Int) - 1) = (j : Int) by omega]
            have d0 : (0 : Int) ≤ (j : Int) := by omega
            have d1 : (j : Int) < (L : Int) := by omega
            have jK : j < K.length := by rw [hL.out]; omega
            have m2 : IntKind.i64.wrap ((j : Int) - 1) = (j : Int) - 1 := by rw [IntKind.wrap_i64]; omega
            obtain ⟨g, cap, hg, q0, q1, q2, gl⟩ := SD.out.at (List.getElem?_eq_getElem jK)
            obtain ⟨rfl, rfl⟩ : sa = some ⟨g, 0, none⟩ ∧ sc = cap := by injection hg with e1 e2 e3; exact ⟨e1, e3⟩
            have q0 := (hB.out.cell (p := ⟨g, j * 3, none⟩) gl).trans q0
            have q1 := (hB.out.cell (p := ⟨g, j * 3 + 1, none⟩) gl).trans q1
            have q2 := (hB.out.cell (p := ⟨g, j * 3 + 2, none⟩) gl).trans q2
            obtain ⟨ua, uc, rfl, _, _⟩ := hS.out.1.shape
            have kl : ((K.drop (j + 1)).reverse).length ≤ 1000000 := by have := HLn.out; simp; omega
            obtain ⟨v3, w3, hap, S3, b3⟩ := append_step wr _ _ K[j] wx.heap.size hS.out hB.out.size (by omega)
            rw [← drop_rev jK] at S3
            obtain ⟨ta, tc, rfl, _, _⟩ := S3.1.shape
            rw [show (K.drop j).reverse.length = K.length - j by simp] at S3 hap
            have HS3 := hid S3
            have HB3 := hid (hB.out.trans b3)
            generalize K[j] = q at *
            clear S3 b3 hS hB hg gl
            go_wp2_with ((at_builtin; go_must (refine Lib.wpList_append_run _ rfl _ _ 50 50 rfl _ _ rfl rfl _ _ hap ?_)))
            exact ⟨⟨j, by omega, by first | rfl | rw [m2], HS3, HB3⟩, by simp [intOf]⟩
      · have e1 : (!((b : Int) == (fb : Int) && (E : Int) == (fe : Int))) = true := by
          simp only [Bool.not_eq_true', Bool.and_eq_false_iff, beq_eq_false_iff_ne, ne_eq]
          omega
        have e2 : ¬ (1 : Int) < (n : Int) := by have := hE.out; omega
        have hcase : (¬ (b : Int) = (fb : Int)) ∨ (b = fb ∧ ¬ (E : Int) = (fe : Int)) := by omega
        clear e1
        rcases hcase with q1 | ⟨q1, q2⟩
        · clear hD hl hlK hll hst hq
          go_wp2
          clear c0 c1 c2 c3
          obtain ⟨wx, rfl⟩ : ∃ wx, wx = wr := ⟨_, rfl⟩
          go_loopw [8, 9] (fun v i w' => ∃ j : Nat, j ≤ L ∧ i = .int .i64 ((j : Int) - 1) ∧ Hid (Sts w' wx.heap.size v (K.drop j).reverse) ∧ Hid (Below wx.heap.size wx w')) (fun _ i _ => (intOf i + 1).toNat)
          case atStart => exact ⟨L, Nat.le_refl _, rfl, by rw [Hid, List.drop_of_length_le (Nat.le_of_eq hL.out)]; exact ⟨OwnM.nil 3 _, fun k hk => by cases hk⟩, Below.refl _ _⟩
          case round =>
            obtain ⟨j, hj, rfl, hS, hB⟩ := hrel
            cases j with
            | zero =>
              go_wp2
              go_ret
              exact ⟨_, rfl, ⟨hS.out.1, fun k hk => Nat.le_trans BD.out.size (hS.out.2 k hk)⟩, BD.out.trans (hB.out.mono BD.out.size)⟩
            | succ j =>
              rw [show (((j + 1 : Nat) : Int) - 1) = (j : Int) by omega]
              have d0 : (0 : Int) ≤ (j : Int) := by omega
              have d1 : (j : Int) < (L : Int) := by omega
              have jK : j < K.length := by rw [hL.out]; omega
              have m2 : IntKind.i64.wrap ((j : Int) - 1) = (j : Int) - 1 := by rw [IntKind.wrap_i64]; omega
              obtain ⟨g, cap, hg, q0, q1, q2, gl⟩ := SD.out.at (List.getElem?_eq_getElem jK)
              obtain ⟨rfl, rfl⟩ : sa = some ⟨g, 0, none⟩ ∧ sc = cap := by injection hg with e1 e2 e3; exact ⟨e1, e3⟩
              have q0 := (hB.out.cell (p := ⟨g, j * 3, none⟩) gl).trans q0
              have q1 := (hB.out.cell (p := ⟨g, j * 3 + 1, none⟩) gl).trans q1
              have q2 := (hB.out.cell (p := ⟨g, j * 3 + 2, none⟩) gl).trans q2
              obtain ⟨ua, uc, rfl, _, _⟩ := hS.out.1.shape
              have kl : ((K.drop (j + 1)).reverse).length ≤ 1000000 := by have := HLn.out; simp; omega
              obtain ⟨v3, w3, hap, S3, b3⟩ := append_step wr _ _ K[j] wx.heap.size hS.out hB.out.size (by omega)
              rw [← drop_rev jK] at S3
              obtain ⟨ta, tc, rfl, _, _⟩ := S3.1.shape
              rw [show (K.drop j).reverse.length = K.length - j by simp] at S3 hap
              have HS3 := hid S3
              have HB3 := hid (hB.out.trans b3)
              generalize K[j] = q at *
              clear S3 b3 hS hB hg gl
              go_wp2_with ((at_builtin; go_must (refine Lib.wpList_append_run _ rfl _ _ 50 50 rfl _ _ rfl rfl _ _ hap ?_)))
              exact ⟨⟨j, by omega, by first | rfl | rw [m2], HS3, HB3⟩, by simp [intOf]⟩
        · subst q1
          clear hD hl hlK hll hst hq
          go_wp2
          clear c0 c1 c2 c3
          obtain ⟨wx, rfl⟩ : ∃ wx, wx = wr := ⟨_, rfl⟩
          go_loopw [8, 9] (fun v i w' => ∃ j : Nat, j ≤ L ∧ i = .int .i64 ((j : Int) - 1) ∧ Hid (Sts w' wx.heap.size v (K.drop j).reverse) ∧ Hid (Below wx.heap.size wx w')) (fun _ i _ => (intOf i + 1).toNat)
          case atStart => exact ⟨L, Nat.le_refl _, rfl, by rw [Hid, List.drop_of_length_le (Nat.le_of_eq hL.out)]; exact ⟨OwnM.nil 3 _, fun k hk => by cases hk⟩, Below.refl _ _⟩
          case round =>
            obtain ⟨j, hj, rfl, hS, hB⟩ := hrel
            cases j with
            | zero =>
              go_wp2
              go_ret
              exact ⟨_, rfl, ⟨hS.out.1, fun k hk => Nat.le_trans BD.out.size (hS.out.2 k hk)⟩, BD.out.trans (hB.out.mono BD.out.size)⟩
            | succ j =>
              rw [show (((j + 1 : Nat) : Int) - 1) = (j : Int) by omega]
              have d0 : (0 : Int) ≤ (j : Int) := by omega
              have d1 : (j : Int) < (L : Int) := by omega
              have jK : j < K.length := by rw [hL.out]; omega
              have m2 : IntKind.i64.wrap ((j : Int) - 1) = (j : Int) - 1 := by rw [IntKind.wrap_i64]; omega
              obtain ⟨g, cap, hg, q0, q1, q2, gl⟩ := SD.out.at (List.getElem?_eq_getElem jK)
              obtain ⟨rfl, rfl⟩ : sa = some ⟨g, 0, none⟩ ∧ sc = cap := by injection hg with e1 e2 e3; exact ⟨e1, e3⟩
              have q0 := (hB.out.cell (p := ⟨g, j * 3, none⟩) gl).trans q0
              have q1 := (hB.out.cell (p := ⟨g, j * 3 + 1, none⟩) gl).trans q1
              have q2 := (hB.out.cell (p := ⟨g, j * 3 + 2, none⟩) gl).trans q2
              obtain ⟨ua, uc, rfl, _, _⟩ := hS.out.1.shape
              have kl : ((K.drop (j + 1)).reverse).length ≤ 1000000 := by have := HLn.out; simp; omega
              obtain ⟨v3, w3, hap, S3, b3⟩ := append_step wr _ _ K[j] wx.heap.size hS.out hB.out.size (by omega)
              rw [← drop_rev jK] at S3
              obtain ⟨ta, tc, rfl, _, _⟩ := S3.1.shape
              rw [show (K.drop j).reverse.length = K.length - j by simp] at S3 hap
              have HS3 := hid S3
              have HB3 := hid (hB.out.trans b3)
              generalize K[j] = q at *
              clear S3 b3 hS hB hg gl
              go_wp2_with ((at_builtin; go_must (refine Lib.wpList_append_run _ rfl _ _ 50 50 rfl _ _ rfl rfl _ _ hap ?_)))
              exact ⟨⟨j, by omega, by first | rfl | rw [m2], HS3, HB3⟩, by simp [intOf]⟩
    · have e1 : (!((b : Int) == (fb : Int) && (E : Int) == (fe : Int))) = true := by
        have := hE.out
        simp only [Bool.not_eq_true', Bool.and_eq_false_iff, beq_eq_false_iff_ne, ne_eq]
        omega
      have e2 : (1 : Int) < (n : Int) := by have := hE.out; omega
      have hcase : (¬ (b : Int) = (fb : Int)) ∨ (b = fb ∧ ¬ (E : Int) = (fe : Int)) := by have := hE.out; omega
      clear e1
      have k1 := Tree.sp_lt (n := n) (by omega)
      have k2 := Tree.sp_pos (n := n) (by omega)
      have HK1 := hid k1
      obtain ⟨f', rfl⟩ : ∃ f', f = f' + 1 := ⟨f - 1, by omega⟩
      have hs : spI (n : Int) = ((Tree.sp n : Nat) : Int) := rfl
      have i1 := rsplit_any (n : Int) (by omega) (by omega) wr.drew
      rw [hs] at i1
      have hll : l.length < K.length := by
        rw [← hl.out, List.length_append]
        by_cases hr : b + Tree.sp n ≤ fb
        · rw [Tree.dn_right hst hr]; simp
        · rw [Tree.dn_left hst hr]; simp
      have hl2 : l.length ≤ 1000000 := by have := HLn.out; omega
      have DR := hid hD.out.drew1
      have hR1 := fun h => Tree.dn_right (f := f') hst h
      have hR2 := fun h => Tree.dn_left (f := f') hst h
      have HR1 := hid hR1
      have HR2 := hid hR2
      generalize Tree.sp n = k at *
      obtain ⟨M, hM⟩ : ∃ M : Nat, Hid (b + k = M) := ⟨_, rfl⟩
      have ad : IntKind.i64.wrap ((b : Int) + (k : Int)) = (M : Int) := by rw [← hM.out, IntKind.wrap_i64]; omega
      have S0 : wr.cell? ⟨w.heap.size + 1, 0, none⟩ = some (.int .i64 (b : Int)) ∧ wr.cell? ⟨w.heap.size + 1, 1, none⟩ = some (.int .i64 (E : Int)) := ⟨c2, c3⟩
      by_cases hr : b + k ≤ fb
      · have hnb : ¬ (b : Int) = (fb : Int) := by omega
        clear hcase
        have g1 : (M : Int) ≤ (fb : Int) := by have := hM.out; omega
        obtain ⟨v3, w3, hap, D3⟩ := DR.out.step (b, M, true) (by omega)
        have D4 := hid (D3.set0 k (by omega))
        rw [hM.out] at D4
        have dc := D3.c0.2.2.1
        have df : w3.frozen? ⟨w.heap.size + 1, 0, none⟩ = false := frozen_of_row _ _ _ _ _ D3.r6
        obtain ⟨ta, tc, rfl, _, _⟩ := D3.st.1.shape
        have lsz : (l ++ [(b, M, true)]).length = l.length + 1 := by simp
        have hl' : Hid (l ++ [(b, M, true)] ++ Tree.dn f' M (n - k) fb fe = K) := by
          rw [Hid, ← hl.out, HR1.out hr, hM.out, List.append_assoc]; rfl
        rw [lsz] at D4 hap
        clear D3 hD DR HR1 HR2 hR1 hR2 hst hl k1
        go_wp2
        go_region_held3 (fun w' => w'.cell? ⟨w.heap.size + 1, 0, none⟩ = some (.int .i64 (b : Int)) ∧ w'.cell? ⟨w.heap.size + 1, 1, none⟩ = some (.int .i64 (E : Int))) (exact S0) ((go_at_call 34; (with_reducible refine i1.mono ?_); rintro e w9 ⟨rfl, h9⟩; have h9 := h9.symm; subst h9))
        go_wp2_with ((at_builtin; go_must (refine Lib.wpList_append_run _ rfl _ _ 50 50 rfl _ _ rfl rfl _ _ hap ?_)))
        exact ⟨⟨M, n - k, f', l ++ [(b, M, true)], D4, by have := HK1.out; omega, by have := hM.out; have := HK1.out; omega, hl'⟩, by show K.length - (l.length + 1) < K.length - l.length; omega⟩
      · have g1 : ¬ (M : Int) ≤ (fb : Int) := by have := hM.out; omega
        obtain ⟨v3, w3, hap, D3⟩ := DR.out.step (M, E, false) (by omega)
        have D4 := hid (D3.set1 k)
        rw [hM.out] at D4
        have dc : w3.cell? ⟨w.heap.size + 1, 1, none⟩ = some (.int .i64 (E : Int)) := by rw [← hE.out]; exact D3.c0.2.2.2
        have df : w3.frozen? ⟨w.heap.size + 1, 1, none⟩ = false := frozen_of_row _ _ _ _ _ D3.r6
        obtain ⟨ta, tc, rfl, _, _⟩ := D3.st.1.shape
        have lsz : (l ++ [(M, E, false)]).length = l.length + 1 := by simp
        have hl' : Hid (l ++ [(M, E, false)] ++ Tree.dn f' b k fb fe = K) := by
          rw [Hid, ← hl.out, HR2.out hr, hM.out, hE.out, List.append_assoc]; rfl
        rw [lsz] at D4 hap
        rcases hcase with q1 | ⟨q1, q2⟩
        · clear D3 hD DR HR1 HR2 hR1 hR2 hst hl k1
          go_wp2
          go_region_held3 (fun w' => w'.cell? ⟨w.heap.size + 1, 0, none⟩ = some (.int .i64 (b : Int)) ∧ w'.cell? ⟨w.heap.size + 1, 1, none⟩ = some (.int .i64 (E : Int))) (exact S0) ((go_at_call 34; (with_reducible refine i1.mono ?_); rintro e w9 ⟨rfl, h9⟩; have h9 := h9.symm; subst h9))
          go_wp2_with ((at_builtin; go_must (refine Lib.wpList_append_run _ rfl _ _ 50 50 rfl _ _ rfl rfl _ _ hap ?_)))
          exact ⟨⟨b, k, f', l ++ [(M, E, false)], D4, by have := HK1.out; omega, by have := HK1.out; omega, hl'⟩, by show K.length - (l.length + 1) < K.length - l.length; omega⟩
        · subst q1
          clear D3 hD DR HR1 HR2 hR1 hR2 hst hl k1
          go_wp2
          go_region_held3 (fun w' => w'.cell? ⟨w.heap.size + 1, 0, none⟩ = some (.int .i64 (b : Int)) ∧ w'.cell? ⟨w.heap.size + 1, 1, none⟩ = some (.int .i64 (E : Int))) (exact S0) ((go_at_call 34; (with_reducible refine i1.mono ?_); rintro e w9 ⟨rfl, h9⟩; have h9 := h9.symm; subst h9))
          go_wp2_with ((at_builtin; go_must (refine Lib.wpList_append_run _ rfl _ _ 50 50 rfl _ _ rfl rfl _ _ hap ?_)))
          exact ⟨⟨b, k, f', l ++ [(M, E, false)], D4, by have := HK1.out; omega, by have := HK1.out; omega, hl'⟩, by show K.length - (l.length + 1) < K.length - l.length; omega⟩
end Go.Proofs.YthoekndjeclimaaGreatDoor
