import Derived.Test.YtdbbemcddhgbcaaGreatDoorPpNG2
import Derived.Test.YtdbbemcddhgbcaaGreatDoorPpNG3
/- Layer 22: the document's signatures' lines -/
namespace Go.Proofs.YtdbbemcddhgbcaaGreatDoor
open Go.RowKit Go.Shelf
namespace Nt
/-- no space ahead of a place -/
def PreS (s : ByteArray) (k : Nat) : Prop := ∀ j b, j < k → s.data.toList[j]? = some b → b ≠ 32
theorem PreS.next {s : ByteArray} {k : Nat} (h : PreS s k) (hk : k < s.size) (hb : (s[k]'hk) ≠ 32) : PreS s (k + 1) := fun j b hj hs => by
  rcases Nat.lt_or_ge j k with e | e
  · exact h j b e hs
  · obtain rfl : j = k := by omega
    rw [getL s j hk] at hs
    obtain rfl := Option.some.inj hs
    exact hb
theorem indexByte_at : ∀ (l : List UInt8) (k : Nat) (c : UInt8), (∀ j b, j < k → l[j]? = some b → b ≠ c) → l[k]? = some c → Lib.indexByte l c = (k : Int)
  | [], k, c, _, h => by simp at h
  | x :: l, 0, c, _, h => by
    have : x = c := by simpa using h
    subst this
    unfold Lib.indexByte
    rw [if_pos (beq_self_eq_true _)]
    rfl
  | x :: l, k + 1, c, h0, h => by
    have hx := h0 0 x (by omega) rfl
    have ih := indexByte_at l k c (fun j b hj hb => h0 (j + 1) b (by omega) (by simpa using hb)) (by simpa using h)
    unfold Lib.indexByte
    rw [if_neg (by rw [beq_iff_eq]; exact hx), ih, if_neg (by rw [beq_iff_eq]; omega)]
    omega
theorem indexByte_no : ∀ (l : List UInt8) (c : UInt8), (∀ j b, j < l.length → l[j]? = some b → b ≠ c) → Lib.indexByte l c = -1
  | [], c, _ => rfl
  | x :: l, c, h0 => by
    have hx := h0 0 x (by simp) rfl
    have ih := indexByte_no l c (fun j b hj hb => h0 (j + 1) b (by simp; omega) (by simpa using hb))
    unfold Lib.indexByte
    rw [if_neg (by rw [beq_iff_eq]; exact hx), ih]
    rfl
theorem spA_at {m : ByteArray} {k : Nat} (h : PreS m k) (hk : k < m.size) (hb : (m[k]'hk) = 32) : spA m = (m.extract 0 k, m.extract (k + 1) m.size, true) := by
  unfold spA
  rw [indexByte_at m.data.toList k 32 h (by rw [getL m k hk, hb]), if_pos (by omega), Int.toNat_natCast]
theorem spA_no {m : ByteArray} (h : PreS m m.size) : spA m = (m, ⟨#[]⟩, false) := by
  unfold spA
  rw [indexByte_no m.data.toList 32 (fun j b hj hs => h j b (by rw [← dlen]; exact hj) hs), if_neg (by omega)]
theorem mk_yes {l : ByteArray} (h : l.extract 0 2 = ⟨#[45, 32]⟩) : mkB l = true ∧ mkR l = l.extract 2 l.size := by
  have e : l.data.toList.take 2 = [45, 32] := by
    have := congrArg (fun b : ByteArray => b.data.toList) h
    simp only [mid_data] at this
    simpa using this
  have hp : Lib.hasPrefix l.data.toList [45, 32] = true := by
    unfold Lib.hasPrefix
    rw [List.isPrefixOf_iff_prefix]
    exact ⟨l.data.toList.drop 2, by rw [← e, List.take_append_drop]⟩
  refine ⟨hp, ?_⟩
  unfold mkR Lib.trimPrefix
  rw [if_pos hp]
  apply Go.WideShapes.bytes_inj
  rw [mid_data]
  show l.data.toList.drop 2 = _
  rw [List.take_of_length_le (by rw [List.length_drop, dlen]; exact Nat.le_refl _)]
theorem mk_no {l : ByteArray} (h : l.extract 0 2 ≠ ⟨#[45, 32]⟩) : mkB l = false := by
  unfold mkB Lib.hasPrefix
  cases hp : List.isPrefixOf [45, 32] l.data.toList with
  | false => rfl
  | true =>
    rw [List.isPrefixOf_iff_prefix] at hp
    obtain ⟨t, ht⟩ := hp
    refine absurd ?_ h
    apply Go.WideShapes.bytes_inj
    rw [mid_data, ← ht]
    rfl
/-- what signed tells of a line -/
def SgQ (l : ByteArray) (q : Ending) : Prop := ∃ x b, q = .returned (.tuple #[.agg #[.string x.1, .string x.2], .bool b]) ∧ b = (sgO l && sgnB (sgA l)) ∧ (b = true → x = sgA l)
theorem SgQ.no {l : ByteArray} (h : (sgO l && sgnB (sgA l)) = false) (x y : ByteArray) : SgQ l (.returned (.tuple #[.agg #[.string x, .string y], .bool false])) := ⟨(x, y), false, rfl, h.symm, fun e => by cases e⟩
theorem SgQ.yes {l : ByteArray} (x y : ByteArray) (h : (x, y) = sgA l) {b : Bool} (hb : b = (sgO l && sgnB (sgA l))) : SgQ l (.returned (.tuple #[.agg #[.string x, .string y], .bool b])) := ⟨(x, y), b, rfl, hb, fun _ => h⟩
set_option maxRecDepth 100000 in
set_option maxHeartbeats 4000000 in
theorem rsigned_any (l : ByteArray) (hl : l.size ≤ 70368744177664) (w : World) : Calls Tryz.prog 68 #[.string l] w fun q w' => SgQ l q ∧ Below w.heap.size w w' := by
  have b0 := hid ((Below.refl w.heap.size w).alloc (Nat.le_refl _) (.cells #[.string ⟨#[]⟩, .string ⟨#[]⟩] 32))
  have s0 := hid (heap_alloc_new w (.cells #[.string ⟨#[]⟩, .string ⟨#[]⟩] 32))
  obtain ⟨W, hW⟩ : ∃ W, w.alloc (.cells #[.string ⟨#[]⟩, .string ⟨#[]⟩] 32) = W := ⟨_, rfl⟩
  unfold Hid at s0 b0
  rw [hW] at b0 s0
  obtain ⟨g, hg⟩ : ∃ g, w.heap.size = g := ⟨_, rfl⟩
  rw [hg] at s0
  have s0 := hid s0
  have b0 := hid b0
  have HG := hid hg
  have HW := hid hW
  have HS : Hid (∀ w', Below W.heap.size W w' → w'.heap[g]? = some (.cells #[.string ⟨#[]⟩, .string ⟨#[]⟩] 32 (0, 0))) := fun w' b => (b.block g (lt_of_heap s0.out)).trans s0.out
  clear hW hg
  have eB : (⟨#[45, 32]⟩ : ByteArray).toList = [45, 32] := by simp [ByteArray.toList_eq]
  by_cases h2 : l.size < 2
  · have h2' : (l.size : Int) < 2 := by omega
    have hm := mk_no (l := l) (fun e => by
      have := congrArg ByteArray.size e
      rw [ByteArray.size_extract] at this
      have h9 : (⟨#[45, 32]⟩ : ByteArray).size = 2 := rfl
      omega)
    have hN := hid (fun x y => SgQ.no (l := l) (show (sgO l && sgnB (sgA l)) = false by unfold sgO; rw [hm]; rfl) x y)
    have S1 := hid (HS.out W (Below.refl _ _))
    clear h2 hm
    go_enter Tryz.func68, Tryz.ntmps68
    go_upto_region 1 with fail
    rw [HW.out, HG.out]
    go_wp2_with ((with_reducible show wpList _ _ _ (Oper.mk _ (Op.store 32 _ _) _ _ _ _ :: _) _ _); go_must (refine wpList_store_row rfl 32 _ _ rfl g _ rfl rfl 32 _ S1.out (sizeSgG _ _) rfl (oneSgG _ _) ?_))
    refine bodyPost_ret (results_row_tmp22 rfl _ _ g 32 _ (0, 0) _ rfl (setRow_heap _ _ _ _ _ _ S1.out) Tryz.underlying32 rfl (sizeSgG _ _)) rfl ⟨hN.out _ _, ?_⟩
    exact b0.out.trans (Below.setRow ((Below.refl W.heap.size W).mono b0.out.size) (by rw [← HG.out]; exact Nat.le_refl _) _)
  · have h2' : ¬ (l.size : Int) < 2 := by omega
    have r1 := fun W => run_slice_string_h (P := Tryz.prog) W 9 l Tryz.underlying9 .i64 (2 : Int) (by omega) (by omega)
    have r1 : ∀ W, (Instr.slice 9 (.string l) none (some (.int .i64 2)) none).run Tryz.prog W = .ok (.string (l.extract 0 2)) W := r1
    have S1 := hid (HS.out W (Below.refl _ _))
    by_cases he : l.extract 0 2 = ⟨#[45, 32]⟩
    · obtain ⟨m1, m2⟩ := mk_yes he
      have r2 : ∀ W, (Instr.slice 9 (.string l) (some (.int .i64 2)) none none).run Tryz.prog W = .ok (.string (l.extract 2 l.size)) W := fun W => run_slice_string_l (P := Tryz.prog) W 9 l Tryz.underlying9 .i64 (2 : Int) (by omega) (by omega)
      have hb : ((l.extract 0 2).toList == [45, 32]) = true := by rw [he, eB]; exact beq_self_eq_true _
      have hsz := mkR_size l
      rw [← m2] at r2
      have HA : Hid (sgA l = ((spA (mkR l)).1, ⟨(Tx.fromB64 (spA (mkR l)).2.1.data.toList).1.toArray⟩) ∧ sgO l = ((spA (mkR l)).2.2 && decide ((Tx.fromB64 (spA (mkR l)).2.1.data.toList).2 = 0))) := ⟨rfl, by unfold sgO; rw [m1, Bool.true_and]⟩
      generalize mkR l = M at *
      have HM := hid hsz
      have hM : (M.size : Int) ≤ 70368744177664 := by omega
      clear m1 m2 he hsz h2 eB
      go_enter Tryz.func68, Tryz.ntmps68
      go_upto_region 1 with fail
      rw [HW.out, HG.out]
      go_upto_region 5 with fail
      clear r1 r2 hb h2'
      go_loopw [4] (fun i wr => ∃ pos : Nat, pos ≤ M.size ∧ i = .int .i64 (pos : Int) ∧ wr = W ∧ Hid (PreS M pos)) (fun i _ => M.size - (intOf i).toNat)
      case atStart => exact ⟨0, by omega, rfl, rfl, fun j b hj => by omega⟩
      case round =>
        obtain ⟨pos, hps, rfl, rfl, hok⟩ := hrel
        by_cases hp : pos < M.size
        · have hp' : (pos : Int) < (M.size : Int) := by omega
          obtain ⟨c, hc0, hlt, hix, hcc⟩ := index_any M (pos : Int) pos rfl hp
          have h3 := hid (hcc hp)
          by_cases hc : c = 32
          · have hc' : (c : Int) = 32 := by omega
            have hb32 : (M[pos]'hp) = 32 := by
              apply UInt8.toNat_inj.1
              rw [h3.out, hc]; rfl
            have hE := spA_at hok.out hp hb32
            have r3 := fun W => run_slice_string_h (P := Tryz.prog) W 9 M Tryz.underlying9 .i64 (pos : Int) (by omega) (by omega)
            have r4 : ∀ W, (Instr.slice 9 (.string M) (some (.int .i64 ((pos : Int) + 1))) none none).run Tryz.prog W = .ok (.string (M.extract (pos + 1) M.size)) W := fun W => by
              have h9 := run_slice_string_l (P := Tryz.prog) W 9 M Tryz.underlying9 .i64 ((pos : Int) + 1) (by omega) (by omega)
              rw [show ((pos : Int) + 1).toNat = pos + 1 by omega] at h9
              exact h9
            have i1 := risName_any (M.extract 0 pos) (by rw [ByteArray.size_extract]; have := HM.out; omega)
            have i2 := rfromBase64_any (M.extract (pos + 1) M.size) (by rw [ByteArray.size_extract]; have := HM.out; omega)
            have HA := HA.out
            rw [hE] at HA
            simp only at HA
            obtain ⟨X, hX⟩ : ∃ X, M.extract 0 pos = X := ⟨_, rfl⟩
            obtain ⟨Y, hY⟩ : ∃ Y, M.extract (pos + 1) M.size = Y := ⟨_, rfl⟩
            simp only [Int.toNat_natCast] at r3
            rw [hX] at HA i1
            rw [hY] at HA i2
            simp only [hX] at r3
            simp only [hY] at r4
            unfold sv at i2
            have HA : Hid (sgA l = (X, ⟨(Tx.fromB64 Y.data.toList).1.toArray⟩) ∧ (sgO l && sgnB (sgA l)) = (decide ((Tx.fromB64 Y.data.toList).2 = 0) && (nmB X.data.toList && decide (0 < (⟨(Tx.fromB64 Y.data.toList).1.toArray⟩ : ByteArray).size ∧ (⟨(Tx.fromB64 Y.data.toList).1.toArray⟩ : ByteArray).size ≤ 6000)))) := ⟨HA.1, by rw [HA.2, HA.1]; rfl⟩
            clear hX hY hE hb32 hc hcc hc0 h3
            generalize Tx.fromB64 Y.data.toList = D at *
            obtain ⟨D1, D2⟩ := D
            simp only at i2 HA
            have HSZ := hid (sv_size D1)
            generalize nmB X.data.toList = B at *
            go_upto_region 11 with (first
              | (go_at_call 43; (refine (i1 _).mono ?_); rintro q w1 ⟨rfl, b1⟩)
              | (go_at_call 67; (refine (i2 _).mono ?_); rintro q w2 ⟨rfl, b2⟩))
            have b4 := hid (b1.trans (b2.mono b1.size))
            have S3 := hid (HS.out w2 b4.out)
            clear i1 i2 b1 b2 S1 r4
            cases B with
            | false =>
              have iF := ()
              have HY := hid (SgQ.yes (l := l) X ⟨D1.toArray⟩ HA.out.1.symm (b := false) (by rw [HA.out.2, Bool.false_and, Bool.and_false]))
              clear iF
              go_wp2_with ((with_reducible show wpList _ _ _ (Oper.mk _ (Op.store 32 _ _) _ _ _ _ :: _) _ _); go_must (refine wpList_store_row rfl 32 _ _ rfl g _ rfl rfl 32 _ S3.out (sizeSgG _ _) rfl (oneSgG _ _) ?_))
              refine bodyPost_ret (results_row_tmp22 rfl _ _ g 32 _ (0, 0) _ rfl (setRow_heap _ _ _ _ _ _ S3.out) Tryz.underlying32 rfl (sizeSgG _ _)) rfl ⟨?_, ?_⟩
              exact HY.out
              exact b0.out.trans (Below.setRow (b4.out.mono b0.out.size) (by rw [← HG.out]; exact Nat.le_refl _) _)
            | true =>
              by_cases hd : D2 = 0
              · have iF := ()
                subst hd
                obtain ⟨N, hN⟩ : ∃ N, D1.length = N := ⟨_, rfl⟩
                by_cases n1 : 1 ≤ N
                · have n1' : (1 : Int) ≤ (N : Int) := by omega
                  by_cases n2 : N ≤ 6000
                  · have n2' : (N : Int) ≤ 6000 := by omega
                    have HNN := hid hN
                    have HY := hid (SgQ.yes (l := l) X ⟨D1.toArray⟩ HA.out.1.symm (b := true) (by rw [HA.out.2, HSZ.out, hN, decide_eq_true (show 0 < N ∧ N ≤ 6000 by omega)]; rfl))
                    clear iF
                    go_wp2_with ((with_reducible show wpList _ _ _ (Oper.mk _ (Op.store 32 _ _) _ _ _ _ :: _) _ _); go_must (refine wpList_store_row rfl 32 _ _ rfl g _ rfl rfl 32 _ S3.out (sizeSgG _ _) rfl (oneSgG _ _) ?_))
                    refine bodyPost_ret (results_row_tmp22 rfl _ _ g 32 _ (0, 0) _ rfl (setRow_heap _ _ _ _ _ _ S3.out) Tryz.underlying32 rfl (sizeSgG _ _)) rfl ⟨?_, ?_⟩
                    exact HY.out
                    exact b0.out.trans (Below.setRow (b4.out.mono b0.out.size) (by rw [← HG.out]; exact Nat.le_refl _) _)
                  · have n2' : ¬ (N : Int) ≤ 6000 := by omega
                    have HY := hid (SgQ.yes (l := l) X ⟨D1.toArray⟩ HA.out.1.symm (b := false) (by rw [HA.out.2, HSZ.out, hN, decide_eq_false (show ¬ (0 < N ∧ N ≤ 6000) by omega), Bool.and_false, Bool.and_false]))
                    clear iF
                    go_wp2_with ((with_reducible show wpList _ _ _ (Oper.mk _ (Op.store 32 _ _) _ _ _ _ :: _) _ _); go_must (refine wpList_store_row rfl 32 _ _ rfl g _ rfl rfl 32 _ S3.out (sizeSgG _ _) rfl (oneSgG _ _) ?_))
                    refine bodyPost_ret (results_row_tmp22 rfl _ _ g 32 _ (0, 0) _ rfl (setRow_heap _ _ _ _ _ _ S3.out) Tryz.underlying32 rfl (sizeSgG _ _)) rfl ⟨?_, ?_⟩
                    exact HY.out
                    exact b0.out.trans (Below.setRow (b4.out.mono b0.out.size) (by rw [← HG.out]; exact Nat.le_refl _) _)
                · have n1' : ¬ (1 : Int) ≤ (N : Int) := by omega
                  have HY := hid (SgQ.yes (l := l) X ⟨D1.toArray⟩ HA.out.1.symm (b := false) (by rw [HA.out.2, HSZ.out, hN, decide_eq_false (show ¬ (0 < N ∧ N ≤ 6000) by omega), Bool.and_false, Bool.and_false]))
                  clear iF
                  go_wp2_with ((with_reducible show wpList _ _ _ (Oper.mk _ (Op.store 32 _ _) _ _ _ _ :: _) _ _); go_must (refine wpList_store_row rfl 32 _ _ rfl g _ rfl rfl 32 _ S3.out (sizeSgG _ _) rfl (oneSgG _ _) ?_))
                  refine bodyPost_ret (results_row_tmp22 rfl _ _ g 32 _ (0, 0) _ rfl (setRow_heap _ _ _ _ _ _ S3.out) Tryz.underlying32 rfl (sizeSgG _ _)) rfl ⟨?_, ?_⟩
                  exact HY.out
                  exact b0.out.trans (Below.setRow (b4.out.mono b0.out.size) (by rw [← HG.out]; exact Nat.le_refl _) _)
              · have iF := ()
                have hd' : (D2 == 0) = false := beq_false_of_ne hd
                have HY := hid (SgQ.yes (l := l) X ⟨D1.toArray⟩ HA.out.1.symm (b := false) (by rw [HA.out.2, decide_eq_false hd, Bool.false_and]))
                clear iF
                go_wp2_with ((with_reducible show wpList _ _ _ (Oper.mk _ (Op.store 32 _ _) _ _ _ _ :: _) _ _); go_must (refine wpList_store_row rfl 32 _ _ rfl g _ rfl rfl 32 _ S3.out (sizeSgG _ _) rfl (oneSgG _ _) ?_))
                refine bodyPost_ret (results_row_tmp22 rfl _ _ g 32 _ (0, 0) _ rfl (setRow_heap _ _ _ _ _ _ S3.out) Tryz.underlying32 rfl (sizeSgG _ _)) rfl ⟨?_, ?_⟩
                exact HY.out
                exact b0.out.trans (Below.setRow (b4.out.mono b0.out.size) (by rw [← HG.out]; exact Nat.le_refl _) _)
          · have hc' : ¬ (c : Int) = 32 := by omega
            have nx : Hid (PreS M (pos + 1)) := hok.out.next hp (fun e => hc (by rw [← h3.out, e]; rfl))
            clear hcc hc0
            go_wp2
            exact ⟨⟨pos + 1, hp, by go_num, trivial, nx⟩, by simp [intOf]; omega⟩
        · obtain rfl : pos = M.size := by omega
          have hp' : ¬ (M.size : Int) < (M.size : Int) := by omega
          have HA := HA.out
          rw [spA_no hok.out] at HA
          simp only [Bool.false_and] at HA
          have hN := hid (fun x y => SgQ.no (l := l) (show (sgO l && sgnB (sgA l)) = false by rw [HA.2]; rfl) x y)
          clear HA
          go_wp2_with ((with_reducible show wpList _ _ _ (Oper.mk _ (Op.store 32 _ _) _ _ _ _ :: _) _ _); go_must (refine wpList_store_row rfl 32 _ _ rfl g _ rfl rfl 32 _ S1.out (sizeSgG _ _) rfl (oneSgG _ _) ?_))
          refine bodyPost_ret (results_row_tmp22 rfl _ _ g 32 _ (0, 0) _ rfl (setRow_heap _ _ _ _ _ _ S1.out) Tryz.underlying32 rfl (sizeSgG _ _)) rfl ⟨hN.out _ _, ?_⟩
          exact b0.out.trans (Below.setRow ((Below.refl wr.heap.size wr).mono b0.out.size) (by rw [← HG.out]; exact Nat.le_refl _) _)
    · have hb := ba_ne he
      rw [eB] at hb
      have hm := mk_no he
      have hN := hid (fun x y => SgQ.no (l := l) (show (sgO l && sgnB (sgA l)) = false by unfold sgO; rw [hm]; rfl) x y)
      clear h2 hm he
      go_enter Tryz.func68, Tryz.ntmps68
      go_upto_region 1 with fail
      rw [HW.out, HG.out]
      go_wp2_with ((with_reducible show wpList _ _ _ (Oper.mk _ (Op.store 32 _ _) _ _ _ _ :: _) _ _); go_must (refine wpList_store_row rfl 32 _ _ rfl g _ rfl rfl 32 _ S1.out (sizeSgG _ _) rfl (oneSgG _ _) ?_))
      refine bodyPost_ret (results_row_tmp22 rfl _ _ g 32 _ (0, 0) _ rfl (setRow_heap _ _ _ _ _ _ S1.out) Tryz.underlying32 rfl (sizeSgG _ _)) rfl ⟨hN.out _ _, ?_⟩
      exact b0.out.trans (Below.setRow ((Below.refl W.heap.size W).mono b0.out.size) (by rw [← HG.out]; exact Nat.le_refl _) _)
end Nt
end Go.Proofs.YtdbbemcddhgbcaaGreatDoor
