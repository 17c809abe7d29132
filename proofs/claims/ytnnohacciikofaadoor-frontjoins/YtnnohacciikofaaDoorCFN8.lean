import Derived.Test.YtnnohacciikofaaDoorCFL1
import Derived.Test.YtnnohacciikofaaDoorCRF1
import Derived.Test.YtnnohacciikofaaDoorCO20
namespace Go.Proofs.YtnnohacciikofaaDoor
open Go.RowKit
namespace Cut
open Tree
theorem join_step {a p c : Nat} {H G : List T} {x : T} (h0 : c ≤ 1099511627776) (h1 : a ≤ p) (h2 : p < c) (hl : H.length = (cut a p).length) : joinH a p c H (x :: G) = joinH a (p + 2 ^ lev p c) c (takeH a p (2 ^ lev p c) x H) G := by
  obtain ⟨g1, g2, g3, g4, _⟩ := grow_facts h0 h2
  have hg := lev_grow h0 h2
  rw [hg] at g1 g2 g3
  unfold joinH
  rw [cut_cons h0 h2, hg, List.zip_cons_cons, takeH_step (by omega) h1 g1 g2 hl]
theorem join_end {a c : Nat} {H : List T} (hl : H.length = (cut a c).length) : joinH a c c H [] = H := by
  unfold joinH
  rw [cut_nil, List.zip_nil_left, pushAllH, List.reverse_reverse, zip_snd _ _ hl.symm]
end Cut
theorem wrap_sum {p N C : Nat} (h : p + N ≤ C) (hC : C ≤ 1099511627776) : wrap64 ((p : Int) + (N : Int)) = ((p + N : Nat) : Int) := by unfold wrap64; omega
theorem val_succ (j : Nat) : Value.int IntKind.i64 ((j : Int) + 1) = .int .i64 ((j + 1 : Nat) : Int) := rfl
theorem dec_succ {j n : Nat} (h : j < n) : n - (intOf (Value.int IntKind.i64 ((j : Int) + 1))).toNat < n - (intOf (Value.int IntKind.i64 (j : Int))).toNat := by simp [intOf]; omega
theorem Cj.below {w0 w1 w2 : World} {O : Nat → Prop} {q s a e : Nat} {v : Value} {H : List (List UInt8)} (h : Cj w0 w1 O q s a e v H) (hb : Below w1.heap.size w1 w2) : Cj w0 w2 O q s a e v H :=
  ⟨h.nl.below hb, h.sp.below hb, h.own, h.keep.trans (Keep.ofBelow (S := fun k => k = q ∨ k = s ∨ O k) hb) fun _ _ e => e⟩
theorem Cj.drew {w0 w1 : World} {O : Nat → Prop} {q s a e : Nat} {v : Value} {H : List (List UInt8)} (h : Cj w0 w1 O q s a e v H) : Cj w0 w1.drew O q s a e v H :=
  ⟨⟨h.nl.row, h.nl.at0, h.nl.own.drew, h.nl.ne⟩, h.sp, h.own, ⟨h.keep.os, h.keep.tape, h.keep.output, h.keep.size, h.keep.block⟩⟩
/-- F4 -/
def joinE (b1 e1 b2 e2 : Int) (H1 H2 : List (List UInt8)) : Int := if rgt b1 e1 H1.length = true ∧ rgt b2 e2 H2.length = true then (if hsB H1 = true ∧ hsB H2 = true then (if e1 = b2 then 0 else 51) else 52) else 50
theorem rgt_true {b e : Int} {k : Nat} (h : rgt b e k = true) : ∃ b' e' : Nat, b = b' ∧ e = e' ∧ b' ≤ e' ∧ e' ≤ 1099511627776 ∧ k = (Cut.cut b' e').length := by
  unfold rgt at h
  simp only [decide_eq_true_eq] at h
  obtain ⟨h1, h2, h3, h4, h5, h6⟩ := h
  exact ⟨b.toNat, e.toNat, by omega, by omega, by omega, by omega, h6⟩
set_option maxRecDepth 100000 in
set_option maxHeartbeats 8000000 in
theorem Join_any (b1 e1 b2 e2 : Int) (H1 H2 : List (List UInt8)) (a1 a2 : Option Addr) (k1 k2 : Nat) (w : World) (hl1 : H1.length ≤ 9223372036854775807) (hl2 : H2.length ≤ 9223372036854775807) (hA1 : At w a1 H1) (hA2 : At w a2 H2) (Z : Tb w) :
    Calls Tryd.prog 9 #[rng b1 e1 (.slice a1 H1.length k1), rng b2 e2 (.slice a2 H2.length k2)] w (RgP w (joinE b1 e1 b2 e2 H1 H2) b1 e2 (Cut.joinH b1.toNat e1.toNat e2.toNat H1 H2)) := by
  obtain ⟨w0, hw0⟩ : ∃ w0, ((w.alloc (.cells #[Value.int .i64 b1, .int .i64 e1, .slice a1 H1.length k1] 28)).alloc (.cells #[Value.int .i64 b2, .int .i64 e2, .slice a2 H2.length k2] 28)).alloc (.cells #[Value.int .i64 0, .int .i64 0, .slice none 0 0] 28) = w0 := ⟨_, rfl⟩
  obtain ⟨r0, r1, r2, r3⟩ := alloc3 w (.cells #[Value.int .i64 b1, .int .i64 e1, .slice a1 H1.length k1] 28) (.cells #[Value.int .i64 b2, .int .i64 e2, .slice a2 H2.length k2] 28) (.cells #[Value.int .i64 0, .int .i64 0, .slice none 0 0] 28)
  have B0 := below_alloc3 w (.cells #[Value.int .i64 b1, .int .i64 e1, .slice a1 H1.length k1] 28) (.cells #[Value.int .i64 b2, .int .i64 e2, .slice a2 H2.length k2] 28) (.cells #[Value.int .i64 0, .int .i64 0, .slice none 0 0] 28)
  rw [hw0] at r0 r1 r2 r3 B0
  have HW0 := hid hw0
  have hT := Z.lt
  have RA : Hid (Rg w0 w.heap.size b1 e1 (.slice a1 H1.length k1)) := r0
  have RB : Hid (Rg w0 (w.heap.size + 1) b2 e2 (.slice a2 H2.length k2)) := r1
  have RR : Hid (Rg w0 (w.heap.size + 2) 0 0 (.slice none 0 0)) := r2
  have HB0 := hid B0
  have Z0 := hid (Z.below B0 hT)
  have A1 := hid (hA1.below B0 (Nat.le_refl _))
  have A2 := hid (hA2.below B0 (Nat.le_refl _))
  have hsz := hid r3
  have p0 := RA.out.c0
  have p1 := RA.out.c1
  have p2 := RA.out.c2
  have q0 := RB.out.c0
  have q1 := RB.out.c1
  have q2 := RB.out.c2
  have i1 := isRight_any b1 e1 a1 H1.length k1 w0 Z0.out
  have i2 := fun w' (hb : Below w0.heap.size w0 w') => isRight_any b2 e2 a2 H2.length k2 w' (Z0.out.below hb Z0.out.lt)
  obtain ⟨E, hE⟩ : ∃ E, Hid (joinE b1 e1 b2 e2 H1 H2 = E) := ⟨_, rfl⟩
  rw [hE.out]
  clear r0 r1 r2 r3 B0 hA1 hA2 Z hw0
  cases hr1 : rgt b1 e1 H1.length with
  | false =>
    rw [hr1] at i1
    have e0 := hid (show E = 50 by rw [← hE.out]; unfold joinE; rw [if_neg (by rw [hr1]; simp)])
    clear hr1 hE A1 A2 p0 p1 p2 q0 q1 q2
    generalize H1.length = n1 at *
    generalize H2.length = n2 at *
    go_enter Tryd.func9, Tryd.ntmps9
    go_wp2_with (go_at_call 28; fail)
    rw [HW0.out]
    refine i1.mono ?_
    rintro r w1 ⟨rfl, hw1⟩
    have RB1 := RB.out.below hw1
    have q0 := RB1.c0
    have q1 := RB1.c1
    have q2 := RB1.c2
    have RA1 := RA.out.below hw1
    have p0 := RA1.c0
    have p1 := RA1.c1
    have p2 := RA1.c2
    have RR1 := hid (RR.out.below hw1)
    have B1 := hid (HB0.out.trans (hw1.mono HB0.out.size))
    go_wp2_with ((with_reducible show wpList _ _ _ (Oper.mk _ (Op.store 28 _ _) _ _ _ _ :: _) _ _); go_must (refine wpList_store_row rfl 28 _ _ rfl (w.heap.size + 2) _ rfl rfl 28 _ RR1.out.row (sizeRg' _ _ _) rfl (oneRg _ _ _ _ _) ?_))
    refine bodyPost_ret (results_row_tmp rfl _ _ (w.heap.size + 2) 28 _ (0, 0) _ rfl (setRow_heap _ _ _ _ _ _ RR1.out.row) Tryd.underlying28 rfl sizeRg) rfl ?_
    rw [e0.out]
    exact RgP.bad (by omega) (Below.setRow B1.out (by omega) _)
  | true =>
    rw [hr1] at i1
    cases hr2 : rgt b2 e2 H2.length with
    | false =>
      rw [hr2] at i2
      have e0 := hid (show E = 50 by rw [← hE.out]; unfold joinE; rw [if_neg (by rw [hr2]; simp)])
      clear hr1 hr2 hE A1 A2 p0 p1 p2 q0 q1 q2
      generalize H1.length = n1 at *
      generalize H2.length = n2 at *
      go_enter Tryd.func9, Tryd.ntmps9
      go_wp2_with (go_at_call 28; fail)
      rw [HW0.out]
      refine i1.mono ?_
      rintro r w1 ⟨rfl, hw1⟩
      have RB1 := RB.out.below hw1
      have q0 := RB1.c0
      have q1 := RB1.c1
      have q2 := RB1.c2
      have RA1 := RA.out.below hw1
      have p0 := RA1.c0
      have p1 := RA1.c1
      have p2 := RA1.c2
      have RR1 := hid (RR.out.below hw1)
      have B1 := hid (HB0.out.trans (hw1.mono HB0.out.size))
      go_wp2_with (go_at_call 28; fail)
      refine (i2 _ hw1).mono ?_
      rintro r w2 ⟨rfl, hw2⟩
      have h12 := hw1.trans (hw2.mono hw1.size)
      have RB2 := RB1.below hw2
      have q0 := RB2.c0
      have q1 := RB2.c1
      have q2 := RB2.c2
      have RA2 := RA1.below hw2
      have p0 := RA2.c0
      have p1 := RA2.c1
      have p2 := RA2.c2
      have RR2 := hid (RR1.out.below hw2)
      have B2 := hid (B1.out.trans (hw2.mono B1.out.size))
      go_wp2_with ((with_reducible show wpList _ _ _ (Oper.mk _ (Op.store 28 _ _) _ _ _ _ :: _) _ _); go_must (refine wpList_store_row rfl 28 _ _ rfl (w.heap.size + 2) _ rfl rfl 28 _ RR2.out.row (sizeRg' _ _ _) rfl (oneRg _ _ _ _ _) ?_))
      refine bodyPost_ret (results_row_tmp rfl _ _ (w.heap.size + 2) 28 _ (0, 0) _ rfl (setRow_heap _ _ _ _ _ _ RR2.out.row) Tryd.underlying28 rfl sizeRg) rfl ?_
      rw [e0.out]
      exact RgP.bad (by omega) (Below.setRow B2.out (by omega) _)
    | true =>
      rw [hr2] at i2
      cases hs1 : hsB H1 with
      | false =>
        have i3 := fun w' hA => areHashes_is H1 false hs1 a1 k1 w' hl1 hA
        have e0 := hid (show E = 52 by rw [← hE.out]; unfold joinE; rw [if_pos ⟨hr1, hr2⟩, if_neg (by rw [hs1]; simp)])
        clear hr1 hr2 hs1 hE A2 p0 p1 p2 q0 q1 q2
        have A1' := fun w' (hb : Below w0.heap.size w0 w') => A1.out.below hb (Nat.le_refl _)
        generalize H1.length = n1 at *
        generalize H2.length = n2 at *
        go_enter Tryd.func9, Tryd.ntmps9
        go_wp2_with (go_at_call 28; fail)
        rw [HW0.out]
        refine i1.mono ?_
        rintro r w1 ⟨rfl, hw1⟩
        have RB1 := RB.out.below hw1
        have q0 := RB1.c0
        have q1 := RB1.c1
        have q2 := RB1.c2
        have RA1 := RA.out.below hw1
        have p0 := RA1.c0
        have p1 := RA1.c1
        have p2 := RA1.c2
        have RR1 := hid (RR.out.below hw1)
        have B1 := hid (HB0.out.trans (hw1.mono HB0.out.size))
        go_wp2_with (go_at_call 28; fail)
        refine (i2 _ hw1).mono ?_
        rintro r w2 ⟨rfl, hw2⟩
        have h12 := hw1.trans (hw2.mono hw1.size)
        have RB2 := RB1.below hw2
        have q0 := RB2.c0
        have q1 := RB2.c1
        have q2 := RB2.c2
        have RA2 := RA1.below hw2
        have p0 := RA2.c0
        have p1 := RA2.c1
        have p2 := RA2.c2
        have RR2 := hid (RR1.out.below hw2)
        have B2 := hid (B1.out.trans (hw2.mono B1.out.size))
        go_wp2_with (first | ((with_reducible show wpList _ _ _ (Oper.mk _ (Op.store 28 _ _) _ _ _ _ :: _) _ _); go_must (refine wpList_store_row rfl 28 _ _ rfl (w.heap.size + 2) _ rfl rfl 28 _ RR2.out.row (sizeRg' _ _ _) rfl (oneRg _ _ _ _ _) ?_)) | (go_at_call 26; refine (i3 _ (A1' _ h12)).mono ?_; rintro r w3 ⟨rfl, rfl⟩))
        refine bodyPost_ret (results_row_tmp rfl _ _ (w.heap.size + 2) 28 _ (0, 0) _ rfl (setRow_heap _ _ _ _ _ _ RR2.out.row) Tryd.underlying28 rfl sizeRg) rfl ?_
        rw [e0.out]
        exact RgP.bad (by omega) (Below.setRow B2.out (by omega) _)
      | true =>
        have i3 := fun w' hA => areHashes_is H1 true hs1 a1 k1 w' hl1 hA
        cases hs2 : hsB H2 with
        | false =>
          have i4 := fun w' hA => areHashes_is H2 false hs2 a2 k2 w' hl2 hA
          have e0 := hid (show E = 52 by rw [← hE.out]; unfold joinE; rw [if_pos ⟨hr1, hr2⟩, if_neg (by rw [hs2]; simp)])
          clear hr1 hr2 hs1 hs2 hE p0 p1 p2 q0 q1 q2
          have A1' := fun w' (hb : Below w0.heap.size w0 w') => A1.out.below hb (Nat.le_refl _)
          have A2' := fun w' (hb : Below w0.heap.size w0 w') => A2.out.below hb (Nat.le_refl _)
          generalize H1.length = n1 at *
          generalize H2.length = n2 at *
          go_enter Tryd.func9, Tryd.ntmps9
          go_wp2_with (go_at_call 28; fail)
          rw [HW0.out]
          refine i1.mono ?_
          rintro r w1 ⟨rfl, hw1⟩
          have RB1 := RB.out.below hw1
          have q0 := RB1.c0
          have q1 := RB1.c1
          have q2 := RB1.c2
          have RA1 := RA.out.below hw1
          have p0 := RA1.c0
          have p1 := RA1.c1
          have p2 := RA1.c2
          have RR1 := hid (RR.out.below hw1)
          have B1 := hid (HB0.out.trans (hw1.mono HB0.out.size))
          go_wp2_with (go_at_call 28; fail)
          refine (i2 _ hw1).mono ?_
          rintro r w2 ⟨rfl, hw2⟩
          have h12 := hw1.trans (hw2.mono hw1.size)
          have RB2 := RB1.below hw2
          have q0 := RB2.c0
          have q1 := RB2.c1
          have q2 := RB2.c2
          have RA2 := RA1.below hw2
          have p0 := RA2.c0
          have p1 := RA2.c1
          have p2 := RA2.c2
          have RR2 := hid (RR1.out.below hw2)
          have B2 := hid (B1.out.trans (hw2.mono B1.out.size))
          go_wp2_with (first | ((with_reducible show wpList _ _ _ (Oper.mk _ (Op.store 28 _ _) _ _ _ _ :: _) _ _); go_must (refine wpList_store_row rfl 28 _ _ rfl (w.heap.size + 2) _ rfl rfl 28 _ RR2.out.row (sizeRg' _ _ _) rfl (oneRg _ _ _ _ _) ?_)) | (go_at_call 26; (with_reducible refine (i3 _ (A1' _ h12)).mono ?_); rintro r w3 ⟨rfl, rfl⟩) | (go_at_call 26; (with_reducible refine (i4 _ (A2' _ h12)).mono ?_); rintro r w4 ⟨rfl, rfl⟩))
          refine bodyPost_ret (results_row_tmp rfl _ _ (w.heap.size + 2) 28 _ (0, 0) _ rfl (setRow_heap _ _ _ _ _ _ RR2.out.row) Tryd.underlying28 rfl sizeRg) rfl ?_
          rw [e0.out]
          exact RgP.bad (by omega) (Below.setRow B2.out (by omega) _)
        | true =>
          have i4 := fun w' hA => areHashes_is H2 true hs2 a2 k2 w' hl2 hA
          have A1' := fun w' (hb : Below w0.heap.size w0 w') => A1.out.below hb (Nat.le_refl _)
          have A2' := fun w' (hb : Below w0.heap.size w0 w') => A2.out.below hb (Nat.le_refl _)
          by_cases he : e1 = b2
          · subst he
            have eE := hid (show E = 0 by rw [← hE.out]; unfold joinE; rw [if_pos ⟨hr1, hr2⟩, if_pos ⟨hs1, hs2⟩, if_pos rfl])
            obtain ⟨A, P, rfl, rfl, hAP, hP, hn1⟩ := rgt_true hr1
            obtain ⟨P', C, hPP, rfl, hPC, hC40, hn2⟩ := rgt_true hr2
            obtain rfl : P = P' := by omega
            clear hPP hr1 hr2 hs1 hs2 hE p0 p1 p2 q0 q1 q2
            rw [eE.out]
            simp only [Int.toNat_natCast]
            obtain ⟨R, hR⟩ : ∃ R, Hid (Cut.joinH A P C H1 H2 = R) := ⟨_, rfl⟩
            rw [hR.out]
            have h81 := Cut.cut_len (a := A) (b := P) hP hAP
            have h82 := Cut.cut_len (a := P) (b := C) hC40 hPC
            have i5 := fun w' hA => fcopied_any H1 a1 k1 w' (by omega) hA
            have i6 := fun w' => spanOf_any (A : Int) (P : Int) (.slice a1 H1.length k1) w'
            have d1 : ((P : Int) != (P : Int)) = false := by simp
            obtain ⟨n1, hm1⟩ : ∃ n1, Hid (H1.length = n1) := ⟨_, rfl⟩
            obtain ⟨n2, hm2⟩ : ∃ n2, Hid (H2.length = n2) := ⟨_, rfl⟩
            rw [hm1.out] at i1 i3 i5 i6 hl1 RA hn1 HW0 ⊢
            rw [hm2.out] at i2 i4 hl2 RB hn2 HW0 ⊢
            have hn81 : n1 ≤ 81 := by omega
            have hn82 : n2 ≤ 81 := by omega
            have hlen1 := hid hn1
            have hlen2 := hid hn2
            clear hn1 hn2 h81 h82
            go_enter Tryd.func9, Tryd.ntmps9
            go_wp2_with (go_at_call 28; fail)
            rw [HW0.out]
            refine i1.mono ?_
            rintro r w1 ⟨rfl, hw1⟩
            have RB1 := RB.out.below hw1
            have q0 := RB1.c0
            have q1 := RB1.c1
            have q2 := RB1.c2
            have RA1 := RA.out.below hw1
            have p0 := RA1.c0
            have p1 := RA1.c1
            have p2 := RA1.c2
            have RR1 := hid (RR.out.below hw1)
            have B1 := hid (HB0.out.trans (hw1.mono HB0.out.size))
            go_wp2_with (go_at_call 28; fail)
            refine (i2 _ hw1).mono ?_
            rintro r w2 ⟨rfl, hw2⟩
            have h12 := hw1.trans (hw2.mono hw1.size)
            have RB2 := RB1.below hw2
            have q0 := RB2.c0
            have q1 := RB2.c1
            have q2 := RB2.c2
            have RA2 := RA1.below hw2
            have p0 := RA2.c0
            have p1 := RA2.c1
            have p2 := RA2.c2
            have RR2 := hid (RR1.out.below hw2)
            have B2 := hid (B1.out.trans (hw2.mono B1.out.size))
            go_wp2_with (first | (go_at_call 26; (with_reducible refine (i3 _ (A1' _ h12)).mono ?_); rintro r w2 ⟨rfl, rfl⟩) | (go_at_call 26; (with_reducible refine (i4 _ (A2' _ h12)).mono ?_); rintro r w2 ⟨rfl, rfl⟩) | (go_at_call 29; fail))
            refine (i5 _ (A1' _ h12)).mono ?_
            rintro r w3 ⟨rfl, hR3, hw3⟩
            have h13 := hid (h12.trans (hw3.mono h12.size))
            have RA3 := hid (RA2.below hw3)
            have RB3 := hid (RB2.below hw3)
            have RR3 := hid (RR2.out.below hw3)
            have HR3 := hid hR3
            have ho := hid (show w0.heap.size ≤ w2.heap.size ∧ w2.heap.size < w3.heap.size from ⟨h12.size, hR3.lt⟩)
            clear p0 p1 p2 q0 q1 q2 RA2 RB2 RR2 RA1 RB1 RR1 RA RB RR hR3 hw3 hw1 hw2 h12 i1 i2 i3 i4 i5 A1 A1' A2' B1 B2
            have r4 := heap_alloc_new w3 (.cells #[Value.slice (some ⟨w2.heap.size, 0, none⟩) n1 n1] 67)
            have b4 := (Below.refl w3.heap.size w3).alloc (Nat.le_refl _) (.cells #[Value.slice (some ⟨w2.heap.size, 0, none⟩) n1 n1] 67)
            have z4 := hid (size_alloc w3 (.cells #[Value.slice (some ⟨w2.heap.size, 0, none⟩) n1 n1] 67))
            have RA4 := RA3.out.below b4
            have p0 := RA4.c0
            have p1 := RA4.c1
            have p2 := RA4.c2
            have B4 := hid b4
            have R4 := hid r4
            clear b4 r4 RA4
            go_wp2_with (go_at_call 30; fail)
            generalize w3.alloc (.cells #[Value.slice (some ⟨w2.heap.size, 0, none⟩) n1 n1] 67) = w4 at *
            have z4 := z4.out
            have b4 := B4.out
            have r4 := R4.out
            refine (i6 _).mono ?_
            rintro r w5 ⟨rfl, hw5⟩
            have b6 := (Below.refl w5.heap.size w5).alloc (Nat.le_refl _) (.cells #[Value.int .i64 (A : Int), Value.int .i64 (P : Int)] 69)
            have S6 := hid (Sp.new w5 A P)
            have z6 := hid (size_alloc w5 (.cells #[Value.int .i64 (A : Int), Value.int .i64 (P : Int)] 69))
            have h46 := hid (hw5.trans (b6.mono hw5.size))
            have h36 := hid (b4.trans (h46.out.mono b4.size))
            have h06 := hid (h13.out.trans (h36.out.mono h13.out.size))
            have s5 := hw5.size
            have hO := ho.out
            have hs0 := hsz.out
            have HRB := hid (RB3.out.below h36.out)
            have HRR := hid (RR3.out.below h36.out)
            have q1 := HRB.out.c1
            have q2 := HRB.out.c2
            have R4 := hid r4
            clear b6 b4 r4 B4 p0 p1 p2 hw5
            go_wp2
            generalize w5.alloc (.cells #[Value.int .i64 (A : Int), Value.int .i64 (P : Int)] 69) = w6 at *
            have z6 := z6.out
            have hc : Hid (Co w6 (fun k => k = w2.heap.size ∨ w6.heap.size ≤ k) w3.heap.size w5.heap.size) := ⟨fun _ h => .inr h, by omega, by omega, by omega, fun k hk => by omega, by omega, by omega, (Z0.out.below h06.out Z0.out.lt).t⟩
            have hc0 : Hid (Cj w6 w6 (fun k => k = w2.heap.size ∨ w6.heap.size ≤ k) w3.heap.size w5.heap.size A P (.slice (some ⟨w2.heap.size, 0, none⟩) n1 n1) H1) := by
              refine ⟨⟨(h46.out.block w3.heap.size (by omega)).trans R4.out, rfl, ?_, fun e => ?_⟩, S6.out, fun k hk => ?_, Keep.refl _ _⟩
              · have := (HR3.out.below h36.out (by omega)).own (by have := hm1.out; omega)
                rwa [hm1.out] at this
              · have e : some w2.heap.size = some w3.heap.size := e
                injection e with e
                omega
              · have hk : some w2.heap.size = some k := hk
                injection hk with hk
                exact .inl hk.symm
            have HB6 := hid (HB0.out.trans (h06.out.mono HB0.out.size))
            clear S6 h46 h36 RA3 RB3 RR3 R4 i6 h13 HR3 ho hsz
            go_loopw [48] (fun i w' => ∃ (j p : Nat) (v : Value) (H : List (List UInt8)), i = .int .i64 (j : Int) ∧ j ≤ n2 ∧ A ≤ p ∧ p ≤ C ∧ Hid ((H2.drop j).length = (Cut.cut p C).length) ∧ Hid (H.length = (Cut.cut A p).length) ∧ Hid (Cut.joinH A p C H (H2.drop j) = R) ∧ Hid (Cj w6 w' (fun k => k = w2.heap.size ∨ w6.heap.size ≤ k) w3.heap.size w5.heap.size A p v H)) (fun i _ => n2 - (intOf i).toNat)
            case atStart =>
              exact ⟨0, P, _, H1, rfl, by omega, hAP, hPC, by unfold Hid; rw [List.drop_zero, hm2.out]; exact hlen2.out, by unfold Hid; rw [hm1.out]; exact hlen1.out, by rw [List.drop_zero]; exact hR, hc0⟩
            case round =>
              clear hc0
              obtain ⟨j, p, v, H, rfl, hj, hAp, hpC, g1, g2, g3, hCj⟩ := hrel
              have s0 := hCj.out.sp.c0
              have s1 := hCj.out.sp.c1
              have Kb : Below w0.heap.size w6 wr := hCj.out.keep.toBelow (by omega) (fun k hk => by rcases hk with e | e | e | e <;> omega)
              have RBr : Rg wr (w.heap.size + 1) (P : Int) (C : Int) (.slice a2 n2 k2) := (Kb.block (w.heap.size + 1) (by omega)).trans HRB.out
              have RRr : Hid (Rg wr (w.heap.size + 2) 0 0 (.slice none 0 0)) := (Kb.block (w.heap.size + 2) (by omega)).trans HRR.out
              have q1 := RBr.c1
              have K0 := hid (h06.out.trans Kb)
              clear Kb
              by_cases hjn : j < n2
              · have c0 : (j : Int) < (n2 : Int) := by omega
                have A5 := A2.out.below K0.out (Nat.le_refl _)
                obtain ⟨y, rfl⟩ := A5.pos (by have := hm2.out; omega)
                obtain ⟨x, hx, hcell⟩ := A5.cell j (by have := hm2.out; omega)
                have hpl : p < C := by
                  rcases Nat.lt_or_ge p C with h | h
                  · exact h
                  · exfalso
                    obtain rfl : p = C := by omega
                    have := g1.out
                    rw [Cut.cut_nil, List.length_drop, hm2.out] at this
                    simp at this
                    omega
                have hdrop : H2.drop j = x.data.toList :: H2.drop (j + 1) := by
                  rw [hx.out]; exact List.drop_eq_getElem_cons _
                have g3' : Hid (Cut.joinH A (p + 2 ^ Cut.lev p C) C (Cut.takeH A p (2 ^ Cut.lev p C) x.data.toList H) (H2.drop (j + 1)) = R) := by
                  unfold Hid
                  have := g3.out
                  rw [hdrop, Cut.join_step hC40 hAp hpl g2.out] at this
                  exact this
                obtain ⟨f1', f2, f3, f4, _⟩ := Cut.grow_facts hC40 hpl
                have hgl := Cut.lev_grow hC40 hpl
                rw [hgl] at f2 f3 f4
                have g1' : Hid ((H2.drop (j + 1)).length = (Cut.cut (p + 2 ^ Cut.lev p C) C).length) := by
                  unfold Hid
                  have := g1.out
                  rw [hdrop, Cut.cut_cons hC40 hpl, hgl] at this
                  simpa using this
                have i7 := firstLevel_any p C hpl hC40 wr (Z0.out.below K0.out Z0.out.lt)
                have i8 := fun w' (hb : Below wr.heap.size wr w') => take_any w3.heap.size A p (Cut.lev p C) _ _ _ _ x.data.toList w' (hCj.out.below hb).nl ((hCj.out.below hb).tabs hc.out) hc.out.tq (fun k hk => hc.out.tl k (hCj.out.own k hk)) (by omega) hAp f2 g2.out
                have g2' : Hid ((Cut.takeH A p (2 ^ Cut.lev p C) x.data.toList H).length = (Cut.cut A (p + 2 ^ Cut.lev p C)).length) := Cut.takeH_length (by omega) hAp ⟨_, rfl⟩ f2 g2.out
                have hl40 := Cut.lev_le hC40 hpl
                have hwp := wrap_pow (L := Cut.lev p C) (by omega)
                have ex : sv x.data.toList = .string x := by cases x; rfl
                rw [ex] at i8
                generalize Cut.takeH A p (2 ^ Cut.lev p C) x.data.toList H = H' at *
                generalize Cut.lev p C = lv at *
                generalize 2 ^ lv = N at *
                clear g1 g2 g3 hx hdrop A5 f2 f1' ex hgl A2
                go_wp2_with (first
                  | ((with_reducible show wpList _ _ _ (Oper.mk _ (Op.load 69 _) _ _ _ _ :: _) _ _); go_must (refine wpList_load_row rfl 69 _ rfl w5.heap.size rfl 69 _ (0, 0) _ C7.out.sp.row Tryd.underlying69 rfl (sizeSp' _ _) ?_))
                  | (go_at_call 31; refine i7.mono ?_; rintro r w7 ⟨rfl, hw7⟩; have C7 := hid (hCj.out.below hw7))
                  | (go_at_call 27; refine (i8 _ hw7).mono ?_; rintro r w8 ⟨rfl, v', hL8, hK8, hv8⟩; obtain ⟨S8, C8⟩ := C7.out.taken (e' := p + N) hc.out hL8 hK8 hv8; have t1 := S8.c1; have u1 := S8.f1))
                have HC8 := hid C8
                have e9 := wrap_sum f3 hC40
                clear C8 hL8 hK8 hv8 hCj C7 S8 s0 s1 q1 RBr hcell i7 i8
                go_region
                all_goals go_wp2
                all_goals
                  exact ⟨⟨j + 1, p + N, v', H', val_succ j, Nat.succ_le_of_lt hjn, Nat.le_trans hAp (Nat.le_add_right _ _), f3, g1', g2', g3', HC8.out.drew⟩, dec_succ hjn⟩
              · obtain rfl : j = n2 := by omega
                have c0 : ¬ (j : Int) < (j : Int) := by omega
                have hd0 : H2.drop j = [] := List.drop_eq_nil_of_le (by have := hm2.out; omega)
                have epC : p = C := by
                  have := g1.out
                  rw [hd0] at this
                  rcases Nat.lt_or_ge p C with h | h
                  · rw [Cut.cut_cons hC40 h] at this; simp at this
                  · omega
                subst epC
                have eR := hid (show R = H by rw [← g3.out, hd0]; exact Cut.join_end g2.out)
                have hl0 := hCj.out.nl.c0
                obtain ⟨va, vn, vc, rfl⟩ := own_sl hCj.out.nl.own
                clear hd0 g1 g2 g3 A2
                go_wp2_with ((with_reducible show wpList _ _ _ (Oper.mk _ (Op.store 28 _ _) _ _ _ _ :: _) _ _); go_must (refine wpList_store_row rfl 28 _ _ rfl (w.heap.size + 2) _ rfl rfl 28 _ RRr.out.row (sizeRg' _ _ _) rfl (oneRg _ _ _ _ _) ?_))
                refine bodyPost_ret (results_row_tmp rfl _ _ (w.heap.size + 2) 28 _ (0, 0) _ rfl (setRow_heap _ _ _ _ _ _ RRr.out.row) Tryd.underlying28 rfl sizeRg) rfl ?_
                have k1 : Keep (fun k => k = w.heap.size + 2) wr (wr.setRow (w.heap.size + 2) #[.int .i64 (A : Int), .int .i64 (p : Int), .slice va vn vc]) := ⟨rfl, rfl, rfl, by rw [setRow_size]; exact Nat.le_refl _, fun k _ hk => setRow_other wr _ k _ hk⟩
                refine RgP.ok ?_ ?_
                · rw [eR.out]
                  refine (hCj.out.nl.own.from (B := w.heap.size) fun k hk => ?_).keep k1 fun k hk e => ?_
                  · have : k = w2.heap.size ∨ w6.heap.size ≤ k := hCj.out.own k hk
                    omega
                  · have : k = w2.heap.size ∨ w6.heap.size ≤ k := hCj.out.own k hk
                    omega
                · exact Below.setRow (HB0.out.trans (K0.out.mono HB0.out.size)) (by omega) _
          · have e0 := hid (show E = 51 by rw [← hE.out]; unfold joinE; rw [if_pos ⟨hr1, hr2⟩, if_pos ⟨hs1, hs2⟩, if_neg he])
            have d1 : (e1 != b2) = true := by simpa using he
            clear hr1 hr2 hs1 hs2 hE p0 p1 p2 q0 q1 q2
            generalize H1.length = n1 at *
            generalize H2.length = n2 at *
            go_enter Tryd.func9, Tryd.ntmps9
            go_wp2_with (go_at_call 28; fail)
            rw [HW0.out]
            refine i1.mono ?_
            rintro r w1 ⟨rfl, hw1⟩
            have RB1 := RB.out.below hw1
            have q0 := RB1.c0
            have q1 := RB1.c1
            have q2 := RB1.c2
            have RA1 := RA.out.below hw1
            have p0 := RA1.c0
            have p1 := RA1.c1
            have p2 := RA1.c2
            have RR1 := hid (RR.out.below hw1)
            have B1 := hid (HB0.out.trans (hw1.mono HB0.out.size))
            go_wp2_with (go_at_call 28; fail)
            refine (i2 _ hw1).mono ?_
            rintro r w2 ⟨rfl, hw2⟩
            have h12 := hw1.trans (hw2.mono hw1.size)
            have RB2 := RB1.below hw2
            have q0 := RB2.c0
            have q1 := RB2.c1
            have q2 := RB2.c2
            have RA2 := RA1.below hw2
            have p0 := RA2.c0
            have p1 := RA2.c1
            have p2 := RA2.c2
            have RR2 := hid (RR1.out.below hw2)
            have B2 := hid (B1.out.trans (hw2.mono B1.out.size))
            go_wp2_with (first | ((with_reducible show wpList _ _ _ (Oper.mk _ (Op.store 28 _ _) _ _ _ _ :: _) _ _); go_must (refine wpList_store_row rfl 28 _ _ rfl (w.heap.size + 2) _ rfl rfl 28 _ RR2.out.row (sizeRg' _ _ _) rfl (oneRg _ _ _ _ _) ?_)) | (go_at_call 26; (with_reducible refine (i3 _ (A1' _ h12)).mono ?_); rintro r w3 ⟨rfl, rfl⟩) | (go_at_call 26; (with_reducible refine (i4 _ (A2' _ h12)).mono ?_); rintro r w4 ⟨rfl, rfl⟩))
            refine bodyPost_ret (results_row_tmp rfl _ _ (w.heap.size + 2) 28 _ (0, 0) _ rfl (setRow_heap _ _ _ _ _ _ RR2.out.row) Tryd.underlying28 rfl sizeRg) rfl ?_
            rw [e0.out]
            exact RgP.bad (by omega) (Below.setRow B2.out (by omega) _)
end Go.Proofs.YtnnohacciikofaaDoor

namespace Go.Proofs.YtnnohacciikofaaDoor
open Go.RowKit
namespace Cut
open Tree
/-- what is known of two ranges -/
def kn (a b c : Nat) (H G : List T) : List ((Nat × Nat) × T) := (cut a b).zip H ++ (cut b c).zip G
theorem kn_fst {a b c : Nat} {H G : List T} (hH : H.length = (cut a b).length) (hG : G.length = (cut b c).length) : (kn a b c H G).map Prod.fst = cut a b ++ cut b c := by
  rw [kn, List.map_append, zip_fst _ _ hH.symm, zip_fst _ _ hG.symm]
theorem kn_snd {a b c : Nat} {H G : List T} (hH : H.length = (cut a b).length) (hG : G.length = (cut b c).length) : (kn a b c H G).map Prod.snd = H ++ G := by
  rw [kn, List.map_append, zip_snd _ _ hH.symm, zip_snd _ _ hG.symm]
theorem kn_cov {a b c : Nat} {H G : List T} (h0 : c ≤ 1099511627776) (h1 : a ≤ b) (h2 : b ≤ c) (hH : H.length = (cut a b).length) (hG : G.length = (cut b c).length) : Cov a c ((kn a b c H G).map Prod.fst) := by
  rw [kn_fst hH hG]
  exact cov_append.2 ⟨b, cut_cov (by omega) h1, cut_cov h0 h2⟩
/-- F4: each hash of the joined range is what is known, or made of it -/
theorem join_der {a b c : Nat} {H G : List T} (h0 : c ≤ 1099511627776) (h1 : a ≤ b) (h2 : b ≤ c) (hH : H.length = (cut a b).length) (hG : G.length = (cut b c).length) {j : Nat} {q : Nat × Nat} {x : T} (hq : (cut a c)[j]? = some q) (hx : (joinH a b c H G)[j]? = some x) : Der (kn a b c H G) q x := by
  have hD : DerAll (kn a b c H G) (pushAllH ((cut a b).zip H).reverse ((cut b c).zip G)) := by
    refine pushAllH_der (kn_cov h0 h1 h2 hH hG) _ _ b c ?_ ?_ (fun r hr => ?_) (fun r hr => ?_)
    · rw [List.map_reverse, List.reverse_reverse, zip_fst _ _ hH.symm]; exact cut_cov (by omega) h1
    · rw [zip_fst _ _ hG.symm]; exact cut_cov h0 h2
    · exact .known (List.mem_append_left _ (List.mem_reverse.1 hr))
    · exact List.mem_append_right _ hr
  rw [← joinH_cut h0 h1 h2 hH hG, List.getElem?_map] at hq
  rw [joinH, List.getElem?_map] at hx
  generalize hl : (pushAllH ((cut a b).zip H).reverse ((cut b c).zip G)).reverse = l at *
  cases hj : l[j]? with
  | none => rw [hj] at hq; cases hq
  | some r =>
    rw [hj] at hq hx
    obtain rfl := Option.some.inj hq
    obtain rfl := Option.some.inj hx
    refine hD r ?_
    rw [← List.mem_reverse, hl]
    exact List.mem_of_getElem? hj
end Cut
/-- append(l, m...) of spans -/
theorem append_spans (w : World) (v1 v2 : Value) (l m : List (Nat × Nat)) (B : Nat) (h1 : Sps w B v1 l) (h2 : OwnM 2 w v2 m.length (spcs m)) (hB : B ≤ w.heap.size) (hl : l.length ≤ 1000) (hm : m.length ≤ 1000) :
    ∃ v' w', (Builtin.append_ #[82, 82] 82 #[v1, v2]).run Tryd.prog w = .ok v' w' ∧ Sps w' B v' (l ++ m) ∧ Below B w w' := by
  obtain ⟨i0, hi, hz0, hz1, hz2⟩ := info_parts infoSp2
  have one : ∀ u ∈ spcs m, u.oneCell' = true := fun u hu => by
    simp only [spcs, List.mem_flatMap, List.mem_cons, List.not_mem_nil, or_false] at hu
    obtain ⟨q, _, rfl | rfl⟩ := hu <;> rfl
  have hsrc : Src Tryd.prog 2 82 v2 m.length (spcs m) w := by
    rcases h2 with ⟨rfl, h, h'⟩ | ⟨g, cap, rfl, _, _, h0, h4, _, _⟩
    · rw [h, h']; exact Src.ofNil w Tryd.underlying82 0
    · exact Src.ofSlice w Tryd.underlying82 ⟨g, 0, none⟩ m.length cap (spcs m) h0 (fun j u hj => by rw [Addr.add_mid]; exact h4 j u hj) one
  by_cases hz : v1 = .slice none 0 0 ∧ m.length = 0
  · obtain ⟨rfl, hm0⟩ := hz
    have hl0 : l.length = 0 := by
      rcases h1.1 with ⟨_, h, _⟩ | ⟨g, cap, h, _⟩
      · exact h
      · cases h
    obtain rfl : l = [] := List.length_eq_zero_iff.1 hl0
    obtain rfl : m = [] := List.length_eq_zero_iff.1 hm0
    refine ⟨.slice none 0 0, w, ?_, ⟨OwnM.nil 2 w, fun k hk => by cases hk⟩, Below.refl _ _⟩
    rcases h2 with ⟨rfl, _⟩ | ⟨g, cap, rfl, _⟩
    · kernel_rfl
    · kernel_rfl
  · obtain ⟨v', w', a1, a2, a3⟩ := run_append_M (P := Tryd.prog) w 82 82 82 69 i0 (.agg #[.int .i64 0, .int .i64 0]) Tryd.underlying82 hi hz0 hz1 rfl v1 l.length (spcs l) h1.1 v2 m.length (spcs m) hsrc
      (by rw [hz2]; omega) (by rw [maxLen]; omega) (fun e => by
        rcases Nat.eq_zero_or_pos m.length with h | h
        · exact absurd ⟨e, h⟩ hz
        · exact h)
    refine ⟨v', w', a1, ⟨by rw [spcs_append, List.length_append]; exact a2, fun k hk => ?_⟩, ⟨a3.os, a3.tape, a3.output, a3.size, fun k hk => a3.old k (by omega) fun e => ?_⟩⟩
    · rcases a3.alt with e | ⟨e, _⟩
      · exact h1.2 k (e ▸ hk)
      · exact Nat.le_trans hB (e k hk)
    · have := h1.2 k e; omega
end Go.Proofs.YtnnohacciikofaaDoor
