import Derived.Test.YticjokhfjkebpaaGreatDoorPkPR1
import Derived.Test.YticjokhfjkebpaaGreatDoorPkPP5
import Derived.Test.YticjokhfjkebpaaGreatDoorPkO46
import Derived.Test.YticjokhfjkebpaaGreatDoorPkFN6
/- Layer 14, the document: Prove -/
namespace Go.Proofs.YticjokhfjkebpaaGreatDoor
open Go.RowKit Go.Shelf
namespace Spn
set_option maxRecDepth 100000 in
set_option maxHeartbeats 4000000 in
theorem rprove14_bad {w : World} {q h : Nat} {L : List (List UInt8)} {F : Nat → Prop} (t : RtL w q h L F) (n x y : Int) (he : prvB L.length n x y = false) :
    Calls Tryz.prog 22 #[.pointer (some ⟨q, 0, none⟩), .int .i64 n, sg x y] w fun r w' => r = .returned (.tuple #[rn0, .int .i64 140]) ∧ Below w.heap.size w w' := by
  have b0 := (Below.refl w.heap.size w).alloc (Nat.le_refl _) (.cells #[.int .i64 x, .int .i64 y] 35)
  have S0 := SpI.new w x y
  have b1' := (Below.refl _ (w.alloc (.cells #[.int .i64 x, .int .i64 y] 35))).alloc (Nat.le_refl _) (.cells #[.int .i64 0, .int .i64 0, .int .i64 0, .slice none 0 0] 30)
  have b1 := b0.trans (b1'.mono b0.size)
  have R1 := RnI.new (w.alloc (.cells #[.int .i64 x, .int .i64 y] 35)) 0 0 0 (.slice none 0 0)
  rw [size_alloc] at R1
  have S1 := S0.below b1'
  have sc0 := S1.c0
  have sc1 := S1.c1
  have HR := hid R1
  have HB := hid b1
  obtain ⟨k, hk⟩ : ∃ k, L.length = k := ⟨_, rfl⟩
  have i1 := fun w' (hb : Below w.heap.size w w') => rSizeL (t.below hb)
  rw [hk] at i1 he
  obtain ⟨qb, hq⟩ : ∃ qb, runB n x y = qb := ⟨_, rfl⟩
  have i2 := fun w' => rrun14_is n x y qb hq w'
  have hc : n < 1 ∨ (¬ n < 1 ∧ (k : Int) < n) ∨ (¬ n < 1 ∧ ¬ (k : Int) < n ∧ qb = false) := by
    by_cases c1 : n < 1
    · exact .inl c1
    · by_cases c2 : (k : Int) < n
      · exact .inr (.inl ⟨c1, c2⟩)
      · refine .inr (.inr ⟨c1, c2, ?_⟩)
        unfold prvB at he
        rw [decide_eq_true (by omega), Bool.true_and, hq] at he
        exact he
  clear t b0 S0 b1' b1 R1 S1 he hq hk
  go_enter Tryz.func22, Tryz.ntmps22
  go_wp2_with (go_at_call 60; fail)
  refine (i2 _).mono ?_
  rintro r w1 ⟨rfl, b1⟩
  have B1 := hid (HB.out.trans (b1.mono HB.out.size))
  have S1 := hid (HR.out.below b1)
  have kc0 := S1.out.c0
  have kc1 := S1.out.c1
  have kc2 := S1.out.c2
  have kc3 := S1.out.c3
  have kf0 := frozen_of_row _ _ 0 _ _ S1.out
  have kf1 := frozen_of_row _ _ 1 _ _ S1.out
  have kf2 := frozen_of_row _ _ 2 _ _ S1.out
  have kf3 := frozen_of_row _ _ 3 _ _ S1.out
  have i1' := i1 w1 B1.out
  clear b1 i1 i2 HR HB
  rcases hc with c1 | ⟨c1, c2⟩ | ⟨c1, c2, rfl⟩
  all_goals
    go_wp2_with (go_at_call 61; (with_reducible refine i1'.mono ?_); rintro r w2 ⟨rfl, h0⟩; have h0 := h0.symm; subst h0)
    refine bodyPost_ret (results_row_tmp rfl _ _ (w.heap.size + 1) 30 _ (0, 0) _ rfl (RnI.four S1.out 0 0 0 (.slice none 0 0)) Tryz.underlying30 rfl sizeRn) rfl ⟨rfl, ?_⟩
    exact below_four B1.out (Nat.le_succ _) _ _ _ _
theorem RnI.set3 {w : World} {g : Nat} {n x y : Int} {v : Value} (h : RnI w g n x y v) (v' : Value) : RnI (w.setCell ⟨g, 3, none⟩ v') g n x y v' := heap_setCell_same w g 3 _ _ _ h
/-- what the document's Prove answers -/
def PrR (w : World) (n s e : Nat) (H : List (List UInt8)) (r : Ending) (w' : World) : Prop :=
  ∃ v, r = .returned (.tuple #[rn (n : Int) (s : Int) (e : Int) v, .int .i64 0]) ∧ OwnM 1 w' v H.length (svs H) ∧ (∀ k, v.ownBlock = some k → w.heap.size ≤ k) ∧ Below w.heap.size w w'
set_option maxRecDepth 100000 in
set_option maxHeartbeats 8000000 in
theorem rprove14_ok {w : World} {q h : Nat} {L : List (List UInt8)} {F : Nat → Prop} (t : RtL w q h L F) (n s e : Nat) (hse : s < e) (hen : e ≤ n) (hn : n ≤ L.length) (hn20 : L.length ≤ 1048576) :
    Calls Tryz.prog 22 #[.pointer (some ⟨q, 0, none⟩), .int .i64 (n : Int), sg (s : Int) (e : Int)] w (PrR w n s e (tolS L n s e)) := by
  obtain ⟨Tn, Ti⟩ := Bat.apt_nodup (Tree.runF_apart s e n 0 n (by omega) (Nat.le_refl _) hse)
  have hTle := told_len (n := n) (s := s) (e := e) (by omega) (by omega)
  have b0 := (Below.refl w.heap.size w).alloc (Nat.le_refl _) (.cells #[.int .i64 (s : Int), .int .i64 (e : Int)] 35)
  have S0 := SpI.new w (s : Int) (e : Int)
  have b1' := (Below.refl _ (w.alloc (.cells #[.int .i64 (s : Int), .int .i64 (e : Int)] 35))).alloc (Nat.le_refl _) (.cells #[.int .i64 0, .int .i64 0, .int .i64 0, .slice none 0 0] 30)
  have b1 := b0.trans (b1'.mono b0.size)
  have R1 := RnI.new (w.alloc (.cells #[.int .i64 (s : Int), .int .i64 (e : Int)] 35)) 0 0 0 (.slice none 0 0)
  rw [size_alloc] at R1
  have S1 := S0.below b1'
  have sc0 := S1.c0
  have sc1 := S1.c1
  have i2 := fun w' => rrun14_is (n : Int) (s : Int) (e : Int) true (by simp [runB]; omega) w'
  have i3 := fun w' => rtold14_any s e hse (by omega) n 0 n (Nat.le_refl _) (by omega) (by omega) w'
  simp only [Nat.zero_add, show ((0 : Nat) : Int) = 0 from rfl] at i3
  unfold tolS
  have hTi : ∀ q ∈ Tree.runF n 0 n s e, q.1 ≤ q.2 ∧ q.2 ≤ L.length := fun q hq => by have := Ti q hq; omega
  generalize Tree.runF n 0 n s e = S at *
  have HT := hid t
  have HTl := hid t.lt
  have HTI := hid hTi
  have HR := hid R1
  have HS := hid S1
  have HB := hid b1
  obtain ⟨k, hk⟩ : ∃ k, S.length = k := ⟨_, rfl⟩
  have Hk := hid hk
  rw [hk] at hTle
  have i1 := fun w' (hb : Below w.heap.size w w') => rSizeL (t.below hb)
  have g1 : ¬ (n : Int) < 1 := by omega
  have g2 : ¬ (L.length : Int) < (n : Int) := by omega
  clear t hTi hk Tn Ti b0 S0 b1' b1 R1 S1
  go_enter Tryz.func22, Tryz.ntmps22
  go_wp2_with (go_at_call 60; fail)
  clear sc0 sc1
  generalize (w.alloc (.cells #[.int .i64 (s : Int), .int .i64 (e : Int)] 35)).alloc (.cells #[.int .i64 0, .int .i64 0, .int .i64 0, .slice none 0 0] 30) = w0 at *
  refine (i2 _).mono ?_
  rintro r w1 ⟨rfl, b1⟩
  have R2 := hid (HR.out.below b1)
  have S2 := hid (HS.out.below b1)
  have B2 := hid (HB.out.trans (b1.mono HB.out.size))
  have Z01 : Hid (w.heap.size + 1 < w1.heap.size) := lt_of_heap R2.out
  have sc0 := S2.out.c0
  have sc1 := S2.out.c1
  have i1' := i1 w1 B2.out
  have ba := (Below.refl w1.heap.size w1).alloc (Nat.le_refl _) (.cells #[.int .i64 (n : Int), .int .i64 (s : Int), .int .i64 (e : Int), .slice none 0 0] 30)
  have V3 := hid (RnI.new w1 (n : Int) (s : Int) (e : Int) (.slice none 0 0))
  have R3 := hid (R2.out.below ba)
  have S3 := hid (S2.out.below ba)
  have B3 := hid (B2.out.trans (ba.mono B2.out.size))
  have sd0 := S3.out.c0
  have sd1 := S3.out.c1
  clear i2 b1 HR HS HB i1 R2 S2 B2 ba
  go_wp2_with (first
    | (go_at_call 61; (with_reducible refine i1'.mono ?_); rintro r w2 ⟨rfl, h0⟩; have h0 := h0.symm; subst h0)
    | (go_at_call 59; fail))
  clear sc0 sc1 sd0 sd1 i1'
  generalize w1.alloc (.cells #[.int .i64 (n : Int), .int .i64 (s : Int), .int .i64 (e : Int), .slice none 0 0] 30) = w3 at *
  with_reducible refine (i3 _).mono ?_
  rintro r w4 ⟨v4, rfl, o4, f4, b4⟩
  obtain ⟨a4, c4, rfl, q1, q2⟩ := OwnM.shape o4
  rw [Hk.out]
  have V4 := hid (V3.out.below b4)
  have R4 := hid (R3.out.below b4)
  have B4 := hid (B3.out.trans (b4.mono B3.out.size))
  have O4 := hid o4
  have z13 : w1.heap.size < w3.heap.size := lt_of_heap V3.out
  have zr := lt_of_heap R3.out
  have hF4 : Hid (∀ k, (Value.slice a4 S.length c4).ownBlock = some k → w3.heap.size ≤ k) := f4
  have z4 := b4.size
  have zw : w.heap.size + 1 < w1.heap.size := Z01.out
  clear i3 b4 o4 f4 V3 R3 S3 B3
  go_wp2
  go_loopw [11, 12, 13] (fun i _ _ w' => ∃ (j : Nat) (v : Value), j ≤ k ∧ i = .int .i64 (j : Int) ∧ Hid (RnI w' w1.heap.size (n : Int) (s : Int) (e : Int) v) ∧ Hid (OwnM 1 w' v ((S.take j).map fun s : Nat × Nat => Tree.root (Til.sg L s.1 s.2)).length (svs ((S.take j).map fun s : Nat × Nat => Tree.root (Til.sg L s.1 s.2)))) ∧ Hid (∀ b, v.ownBlock = some b → w4.heap.size ≤ b) ∧ Hid (Keep (fun k => k = w1.heap.size) w4 w')) (fun i _ _ _ => k - (intOf i).toNat)
  case atStart => exact ⟨0, .slice none 0 0, by omega, rfl, V4, OwnM.nil 1 _, fun b hb => (by cases hb), Keep.refl _ _⟩
  case round =>
    obtain ⟨j, v, hj, rfl, hV, hO, hF, hK⟩ := hrel
    have BW : Hid (Below w.heap.size w wr) := B4.out.trans (keep_below14 hK.out B4.out.size (fun k hk => by omega))
    by_cases hjk : j < k
    · have b0 : (j : Int) < (k : Int) := by omega
      have j0 : (0 : Int) ≤ (j : Int) := by omega
      have hjS : j < S.length := by rw [Hk.out]; exact hjk
      obtain ⟨g, rfl, hg, c0, c1'⟩ := ownP_at (O4.out.keep hK.out (fun k hk e => by have := hF4.out k hk; omega)) (List.getElem?_eq_getElem hjS)
      have hs := HTI.out S[j] (List.getElem_mem hjS)
      have HX : Hid (tPartO L (S[j].1 : Int) (S[j].2 : Int) = (Tree.root (Til.sg L S[j].1 S[j].2), 0)) := tPartO_nat hs.1 hs.2
      have i1 := rPart7_any (HT.out.below BW.out) (S[j].1 : Int) (S[j].2 : Int) HX
      have hnx : Hid ((S.take (j + 1)).map (fun s : Nat × Nat => Tree.root (Til.sg L s.1 s.2)) = (S.take j).map (fun s : Nat × Nat => Tree.root (Til.sg L s.1 s.2)) ++ [Tree.root (Til.sg L S[j].1 S[j].2)]) := by
        unfold Hid
        rw [List.take_add_one, List.getElem?_eq_getElem hjS, List.map_append]
        rfl
      have hll : ((S.take j).map (fun s : Nat × Nat => Tree.root (Til.sg L s.1 s.2))).length ≤ 8000000000000 := by rw [List.length_map, List.length_take]; omega
      generalize (S[j].1 : Int) = x0 at *
      generalize (S[j].2 : Int) = x1 at *
      generalize Tree.root (Til.sg L S[j].1 S[j].2) = rr at *
      generalize (S.take j).map (fun s : Nat × Nat => Tree.root (Til.sg L s.1 s.2)) = X at *
      rw [show sv rr = Value.string ⟨rr.toArray⟩ from rfl] at i1
      clear hs HX
      go_wp2_with (first
        | (go_at_call 62; (with_reducible refine i1.mono ?_); rintro r w6 ⟨rfl, b6⟩; have J6 := hV.out.below b6; have x3 := J6.c3; obtain ⟨v7, w7, hap, hO7, hG7⟩ := append_tx14 w6 v X rr (hO.out.below b6) hll; obtain ⟨a7, c7, hv7, _, _, _⟩ := ownM_at hO7; obtain ⟨p, hp⟩ : ∃ p, (X ++ [rr]).length = p := ⟨_, rfl⟩; rw [hp] at hv7; clear hp; subst hv7; rw [show sv rr = Value.string ⟨rr.toArray⟩ from rfl] at hap; have J7 : RnI w7 w1.heap.size (n : Int) (s : Int) (e : Int) v := (hG7.old w1.heap.size (lt_of_heap J6) (fun h => by have := hF.out _ h; omega)).trans J6; have x7 := J7.c3; have f7 : w7.frozen? ⟨w1.heap.size, 3, none⟩ = false := frozen_of_row _ _ 3 _ _ J7)
        | (at_builtin; refine Lib.wpList_append_run _ rfl _ _ 24 24 rfl _ _ rfl rfl _ _ hap ?_; clear hap))
      have hk6 := hK.out.size
      have hv7 : ∀ b, (Value.slice a7 p c7).ownBlock = some b → w4.heap.size ≤ b := fun b hb => by
        rcases hG7.alt with h | ⟨h, _⟩
        · rw [h] at hb; exact hF.out b hb
        · have := h b hb; have := b6.size; omega
      have k6 := hK.out.trans (Keep.ofBelow (S := fun k => k = w1.heap.size) b6) (fun _ _ e => e)
      have k7 : Keep (fun k => k = w1.heap.size) w4 w7 := ⟨hG7.os.trans k6.os, hG7.tape.trans k6.tape, hG7.output.trans k6.output, Nat.le_trans k6.size hG7.size, fun k hk hs => (hG7.old k (Nat.lt_of_lt_of_le hk k6.size) (fun h => by have := hF.out k h; omega)).trans (k6.block k hk hs)⟩
      have K8 := hid (k7.trans (Keep.ofSet (S := fun k => k = w1.heap.size) w7 w1.heap.size 3 (.slice a7 p c7) rfl) (fun _ _ e => e))
      have J8 := hid (J7.set3 (.slice a7 p c7))
      have O8 := hid (OwnM.keepS hO7 (Keep.ofSet (S := fun k => k = w1.heap.size) w7 w1.heap.size 3 (.slice a7 p c7) rfl) (fun k hk e => by have := hv7 k hk; omega))
      have V8 := hid hv7
      rw [← hnx.out] at O8
      exact ⟨⟨j + 1, _, by omega, by go_num, J8, O8, V8, K8⟩, by simp [intOf]; omega⟩
    · obtain rfl : j = k := by omega
      have b0 : ¬ (j : Int) < (j : Int) := by omega
      have hKK := hK.out
      have RW : Hid (RnI wr (w.heap.size + 1) 0 0 0 (.slice none 0 0)) := R4.out.keep hKK (fun h => by omega)
      have hOO := hO.out
      rw [List.take_of_length_le (by rw [Hk.out]; exact Nat.le_refl _)] at hOO
      have c0 := hV.out.c0
      have c1 := hV.out.c1
      have c2 := hV.out.c2
      have c3 := hV.out.c3
      have kc0 := RW.out.c0
      have kc1 := RW.out.c1
      have kc2 := RW.out.c2
      have kc3 := RW.out.c3
      have kf0 := frozen_of_row _ _ 0 _ _ RW.out
      have kf1 := frozen_of_row _ _ 1 _ _ RW.out
      have kf2 := frozen_of_row _ _ 2 _ _ RW.out
      have kf3 := frozen_of_row _ _ 3 _ _ RW.out
      have HOO := hid hOO
      obtain ⟨av, cv, hv, _, _, _⟩ := ownM_at hOO
      have hwr := B4.out.size
      obtain ⟨p, hp⟩ : ∃ p, (S.map fun s : Nat × Nat => Tree.root (Til.sg L s.1 s.2)).length = p := ⟨_, rfl⟩
      rw [hp] at hv
      clear hOO hKK hK hO hp
      subst hv
      go_wp2
      refine bodyPost_ret (results_row_tmp rfl _ _ (w.heap.size + 1) 30 _ (0, 0) _ rfl (RnI.four RW.out (n : Int) (s : Int) (e : Int) _) Tryz.underlying30 rfl sizeRn) rfl ⟨_, rfl, ?_, ?_, ?_⟩
      · exact OwnM.keepS HOO.out (keep_four wr (w.heap.size + 1) _ _ _ _) (fun k hk e => by have := hF.out k hk; omega)
      · intro k hk
        have := hF.out k hk
        omega
      · exact below_four BW.out (Nat.le_succ _) _ _ _ _
end Spn
end Go.Proofs.YticjokhfjkebpaaGreatDoor

/- Layer 14: Prove and the document's, whatever is asked -/
namespace Go.Proofs.YticjokhfjkebpaaGreatDoor
open Go.RowKit Go.Shelf
namespace Spn
/-- what Prove answers: the numbers, the error, the hashes -/
def prvT (k : Nat) (n x y : Int) : Int × Int × Int × Int := if prvB k n x y = true then (n, x, y, 0) else (0, 0, 0, 140)
def prvH (L : List (List UInt8)) (n x y : Int) : List (List UInt8) := if prvB L.length n x y = true then tolS L n.toNat x.toNat y.toNat else []
theorem prvB_nat {k : Nat} {n x y : Int} (h : prvB k n x y = true) : ∃ n' x' y' : Nat, n = n' ∧ x = x' ∧ y = y' ∧ x' < y' ∧ y' ≤ n' ∧ n' ≤ k := by
  unfold prvB runB at h
  simp only [Bool.and_eq_true, decide_eq_true_eq] at h
  exact ⟨n.toNat, x.toNat, y.toNat, by omega, by omega, by omega, by omega, by omega, by omega⟩
theorem prvH_len {L : List (List UInt8)} (hL : L.length ≤ 1048576) (n x y : Int) : (prvH L n x y).length ≤ 81 := by
  unfold prvH
  by_cases h : prvB L.length n x y = true
  · rw [if_pos h]
    obtain ⟨n', x', y', rfl, rfl, rfl, h1, h2, h3⟩ := prvB_nat h
    rw [tolS_len, Int.toNat_natCast, Int.toNat_natCast, Int.toNat_natCast]
    exact told_len (by omega) (by omega)
  · rw [if_neg h]; simp
theorem own_from14 {w : World} {b0 B : Nat} {v : Value} {cs : List Value} (h : Own w b0 v cs) (hB : ∀ k, v.ownBlock = some k → B ≤ k) : Own w B v cs := by
  rcases h with h | ⟨g, cap, rfl, _, h1⟩
  · exact .inl h
  · exact .inr ⟨g, cap, rfl, hB g rfl, h1⟩
theorem prove14_any {w : World} {q h : Nat} {L : List (List UInt8)} {F : Nat → Prop} (t : TrL w q h L F) (Z : Tb w) (n x y : Int) :
    Calls Tryz.prog 12 #[.pointer (some ⟨q, 0, none⟩), .int .i64 n, sg x y] w fun r w' => ∃ v, r = .returned (.tuple #[rn (prvT L.length n x y).1 (prvT L.length n x y).2.1 (prvT L.length n x y).2.2.1 v, .int .i64 (prvT L.length n x y).2.2.2]) ∧ Own w' w.heap.size v (svs (prvH L n x y)) ∧ Below w.heap.size w w' := by
  by_cases hb : prvB L.length n x y = true
  · have e1 : prvT L.length n x y = (n, x, y, 0) := by unfold prvT; rw [if_pos hb]
    have e2 : prvH L n x y = tolS L n.toNat x.toNat y.toNat := by unfold prvH; rw [if_pos hb]
    rw [e1, e2]
    obtain ⟨n', x', y', rfl, rfl, rfl, h1, h2, h3⟩ := prvB_nat hb
    rw [Int.toNat_natCast, Int.toNat_natCast, Int.toNat_natCast]
    refine (prove14_ok t Z n' x' y' h1 h2 h3).mono ?_
    rintro r w' ⟨gh, rfl, R, hg, b⟩
    refine ⟨_, rfl, ?_, b⟩
    have hl : (tolS L n' x' y').length ≤ 81 := by rw [tolS_len]; exact told_len (by omega) (by have := t.n20; omega)
    exact own_from14 (R.own (by omega)) (fun k hk => by cases hk; exact hg)
  · have hb' : prvB L.length n x y = false := by simpa using hb
    have e1 : prvT L.length n x y = (0, 0, 0, 140) := by unfold prvT; rw [if_neg hb]
    have e2 : prvH L n x y = [] := by unfold prvH; rw [if_neg hb]
    rw [e1, e2]
    refine (prove14_bad t n x y hb').mono ?_
    rintro r w' ⟨rfl, b⟩
    exact ⟨_, rfl, Own.nil _ _, b⟩
theorem rprove14_any {w : World} {q h : Nat} {L : List (List UInt8)} {F : Nat → Prop} (t : RtL w q h L F) (hn20 : L.length ≤ 1048576) (n x y : Int) :
    Calls Tryz.prog 22 #[.pointer (some ⟨q, 0, none⟩), .int .i64 n, sg x y] w fun r w' => ∃ a c, r = .returned (.tuple #[rn (prvT L.length n x y).1 (prvT L.length n x y).2.1 (prvT L.length n x y).2.2.1 (.slice a (prvH L n x y).length c), .int .i64 (prvT L.length n x y).2.2.2]) ∧ At w' a (prvH L n x y) ∧ Below w.heap.size w w' := by
  by_cases hb : prvB L.length n x y = true
  · have e1 : prvT L.length n x y = (n, x, y, 0) := by unfold prvT; rw [if_pos hb]
    have e2 : prvH L n x y = tolS L n.toNat x.toNat y.toNat := by unfold prvH; rw [if_pos hb]
    rw [e1, e2]
    obtain ⟨n', x', y', rfl, rfl, rfl, h1, h2, h3⟩ := prvB_nat hb
    rw [Int.toNat_natCast, Int.toNat_natCast, Int.toNat_natCast]
    refine (rprove14_ok t n' x' y' h1 h2 h3 hn20).mono ?_
    rintro r w' ⟨v, rfl, O, _, b⟩
    obtain ⟨a, c, rfl, hat, _, _⟩ := ownM_at O
    exact ⟨a, c, rfl, hat, b⟩
  · have hb' : prvB L.length n x y = false := by simpa using hb
    have e1 : prvT L.length n x y = (0, 0, 0, 140) := by unfold prvT; rw [if_neg hb]
    have e2 : prvH L n x y = [] := by unfold prvH; rw [if_neg hb]
    rw [e1, e2]
    refine (rprove14_bad t n x y hb').mono ?_
    rintro r w' ⟨rfl, b⟩
    exact ⟨none, 0, rfl, At.nil _ _, b⟩
end Spn
end Go.Proofs.YticjokhfjkebpaaGreatDoor
