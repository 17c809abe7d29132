import Derived.Test.YtjodbmbadhbblaaDoorCSL8
namespace Go.Proofs.YtjodbmbadhbblaaDoor
open Go.RowKit Go.Shelf
theorem pk_nat (c : Int) (n : Nat) (hn : 1 ≤ n) : ∃ k : Nat, Hid (pk c (n : Int) = (k : Int)) ∧ k < n := by
  have q0 := pk_nonneg c (n : Int) (by omega)
  have q1 := pk_lt c (n : Int) (by omega)
  exact ⟨(pk c (n : Int)).toNat, by unfold Hid; omega, by omega⟩
theorem Apt_len : ∀ {L : List (Nat × Nat)} {b e : Nat} {p : Nat → Bool}, Tree.Apt b e L p → L.length + b ≤ e
  | [], b, e, p, h => by have := h.1; simpa using this
  | s :: L, b, e, p, h => by
    obtain ⟨a1, a2, a3, a4, a5, a6⟩ := h
    have := Apt_len a6
    rw [List.length_cons]
    omega
set_option maxRecDepth 100000 in
set_option maxHeartbeats 8000000 in
theorem parts8_law (size index first many : Int) (cs : List Int) (a : Option Addr) (cap : Nat) (hs1 : -9223372036854775808 ≤ size) (hs2 : size ≤ 9223372036854775807) (hi1 : -9223372036854775808 ≤ index) (hi2 : index ≤ 9223372036854775807)
    (hf1 : -9223372036854775808 ≤ first) (hf2 : first ≤ 9223372036854775807) (hm1 : -9223372036854775808 ≤ many) (hm2 : many ≤ 9223372036854775807) (hcs : cs.length ≤ 9223372036854775807) (hw : ∀ x ∈ cs, -9223372036854775808 ≤ x ∧ x ≤ 9223372036854775807) (w : World) (hA : AtI w a cs) (Z : Tb w) :
    Calls Tryd.prog 5 #[.int .i64 size, .int .i64 index, .int .i64 first, .slice a cs.length cap, .int .i64 many] w fun r w' => r = .returned (.bool true) ∧ Below w.heap.size w w' := by
  have i0 := known8_any w Z
  have i1 := fun w' => pick_any size 1099511627776 hs1 hs2 (by omega) (by omega) w'
  have hp0 := pk_nonneg size 1099511627776 (by omega)
  have hp1 := pk_lt size 1099511627776 (by omega)
  generalize pk size 1099511627776 = p at *
  obtain ⟨N, hN⟩ : ∃ N : Nat, 1 + p = (N : Int) := ⟨(1 + p).toNat, by omega⟩
  have hNw : IntKind.i64.wrap (1 + p) = (N : Int) := by rw [IntKind.wrap_i64]; omega
  have n1 : 1 ≤ N := by omega
  have n2 : N ≤ 1099511627776 := by omega
  clear hp0 hp1 hN
  obtain ⟨k, hk, hkN⟩ := pk_nat index N n1
  have i2 := fun w' => pick_any index (N : Int) hi1 hi2 (by omega) (by omega) w'
  rw [hk.out] at i2
  obtain ⟨m0, hm, hm0⟩ := pk_nat first N n1
  have i3 := fun w' => pick_any first (N : Int) hf1 hf2 (by omega) (by omega) w'
  rw [hm.out] at i3
  obtain ⟨m, hmm⟩ : ∃ m : Nat, m = m0 + 1 := ⟨_, rfl⟩
  have hmw : IntKind.i64.wrap (1 + (m0 : Int)) = (m : Int) := by rw [IntKind.wrap_i64]; omega
  have m1 : 1 ≤ m := by omega
  have m2 : m ≤ N := by omega
  clear hmm hm0
  have i4 := fun w' h => rising8_any N cs a cap n1 n2 hcs hw w' h
  generalize cs.length = nc at *
  obtain ⟨dl, hdl⟩ : ∃ dl, Hid ((Tree.D N k).length = dl) := ⟨_, rfl⟩
  obtain ⟨ql, hql⟩ : ∃ ql, Hid (Tree.pl m N true = ql) := ⟨_, rfl⟩
  obtain ⟨mo, hmo⟩ : ∃ mo, Hid ((Tree.D N 0).length = mo) := ⟨_, rfl⟩
  have hmo2 : mo ≤ 40 := by rw [← hmo.out]; exact D_le N 0 (by omega) n2
  have i5 := fun w' => path8_ans N k dl hkN n2 hdl w'
  have i6 := fun w' => proof8_ans m N ql m1 m2 n2 hql w'
  have i8 := fun w' => rPathLen_any (N : Int) (k : Int) w'
  rw [lenOf_nat N k hkN n2, hdl.out] at i8
  have i9 := fun w' => rProofLen_any (m : Int) (N : Int) w'
  rw [prfLen_nat m N m1 m2 n2, hql.out] at i9
  have i10 := fun w' => rPathLen_any (N : Int) 0 w'
  have e10 : lenOf (N : Int) 0 = ((mo : Int), 0) := by
    have e := lenOf_nat N 0 (by omega) n2
    rw [hmo.out] at e
    exact e
  rw [e10] at i10
  clear e10
  generalize Tree.pthF N 0 N k = LP at *
  generalize Tree.prfF N 0 N m = LQ at *
  obtain ⟨R, hR⟩ : ∃ R : Nat, (N : Int) - (k : Int) = (R : Int) := ⟨N - k, by omega⟩
  have hRw : IntKind.i64.wrap ((N : Int) - (k : Int)) = (R : Int) := by rw [IntKind.wrap_i64]; omega
  obtain ⟨q, hq, hqR⟩ := pk_nat many R (by omega)
  have i12 := fun w' => pick_any many (R : Int) hm1 hm2 (by omega) (by omega) w'
  rw [hq.out] at i12
  obtain ⟨k1, hk1⟩ : ∃ k1 : Nat, k1 = k + 1 := ⟨_, rfl⟩
  have hk1w : IntKind.i64.wrap ((k : Int) + 1) = (k1 : Int) := by rw [IntKind.wrap_i64]; omega
  obtain ⟨Y, hY⟩ : ∃ Y : Nat, Y = k1 + q := ⟨_, rfl⟩
  have hYw : IntKind.i64.wrap ((k1 : Int) + (q : Int)) = (Y : Int) := by rw [IntKind.wrap_i64]; omega
  have hkY : k < Y := by omega
  have hYN : Y ≤ N := by omega
  clear hR hqR hk1 hY
  obtain ⟨rl, hrl⟩ : ∃ rl, Hid ((Tree.runF N 0 N k Y).length = rl) := ⟨_, rfl⟩
  have i13 := fun w' => run8_ans N k Y rl hkY hYN n2 hrl w'
  have HA := hid hA
  clear hA Z hw
  go_enter Tryd.func5, Tryd.ntmps5
  go_wp2_with (first
    | (go_at_call 9; refine i0.mono ?_; rintro r w1 ⟨rfl, b1⟩; have b1 := hid b1; clear i0)
    | (go_at_call 10; (first | (with_reducible refine (i1 _).mono ?_) | (with_reducible refine (i2 _).mono ?_) | (with_reducible refine (i3 _).mono ?_)); rintro r w' ⟨rfl, h0⟩; have h0 := h0.symm; subst h0)
    | (go_at_call 18; fail))
  refine (i4 _ (HA.out.below b1.out (Nat.le_refl _))).mono ?_
  rintro r w2 ⟨ra, rc, L, rfl, hLA, hBk, b2⟩
  have B2 := hid (b1.out.trans (b2.mono b1.out.size))
  obtain ⟨bl, hbl⟩ : ∃ bl, Hid ((Tree.othF N 0 N (toN L)).length = bl) := ⟨_, rfl⟩
  have hbc := bat_count hBk
  rw [hbl.out, hmo.out] at hbc
  have hl2 := hBk.l2
  have i7 := fun w' h => batch8_ans N bl L hBk ra rc hbl w' h
  have i11 := fun al cl cr w' h1 h2 => apart8_any N bl L hBk al ra cl cr hbl w' h1 h2
  generalize Tree.othF N 0 N (toN L) = LB at *
  obtain ⟨lr, hlr⟩ : ∃ lr, L.length = lr := ⟨_, rfl⟩
  rw [hlr] at hbc hl2 i7 i11 ⊢
  obtain ⟨X, hX⟩ : ∃ X : Nat, Hid (lr * mo = X) := ⟨_, rfl⟩
  have hX2 : X ≤ 256 * 40 := by rw [← hX.out]; exact Nat.mul_le_mul hl2 hmo2
  have hXi : (lr : Int) * (mo : Int) = (X : Int) := by rw [← hX.out]; omega
  have hXw : IntKind.i64.wrap (X : Int) = (X : Int) := by rw [IntKind.wrap_i64]; omega
  rw [hX.out] at hbc
  have g1 : ¬ (X : Int) < (bl : Int) := by omega
  obtain ⟨D, hD⟩ : ∃ D : Nat, (N : Int) - (lr : Int) = (D : Int) := ⟨N - lr, by omega⟩
  have hDw : IntKind.i64.wrap ((N : Int) - (lr : Int)) = (D : Int) := by rw [IntKind.wrap_i64]; omega
  have g2 : ¬ (D : Int) < (bl : Int) := by omega
  have hLA := hid hLA
  clear hlr hbc hD hBk b1 b2 i4 HA hk hm hdl hql hmo hq
  go_wp2_with (first
    | (go_at_call 19; refine (i5 _).mono ?_; rintro r w3 ⟨pa, pc, rfl, _, b3⟩; have B3 := hid (B2.out.trans (b3.mono B2.out.size)); have hLA3 := hid (hLA.out.below b3 (Nat.le_refl _)); clear b3)
    | (go_at_call 20; refine (i6 _).mono ?_; rintro r w4 ⟨qa, qc, rfl, _, b4⟩; have B4 := hid (B3.out.trans (b4.mono B3.out.size)); have hLA4 := hid (hLA3.out.below b4 (Nat.le_refl _)); clear b4)
    | (go_at_call 21; refine (i7 _ hLA4.out).mono ?_; rintro r w5 ⟨ba, bc, rfl, hBa, b5⟩; have hBa := hid hBa; have B5 := hid (B4.out.trans (b5.mono B4.out.size)); have hLA5 := hid (hLA4.out.below b5 (Nat.le_refl _)); clear b5)
    | (go_at_call 22; (first | (with_reducible refine (i8 _).mono ?_) | (with_reducible refine (i10 _).mono ?_)); rintro r w' ⟨rfl, h0⟩; have h0 := h0.symm; subst h0)
    | (go_at_call 23; refine (i9 _).mono ?_; rintro r w' ⟨rfl, h0⟩; have h0 := h0.symm; subst h0)
    | (go_at_call 24; fail))
  refine (i11 _ _ _ _ hBa.out hLA5.out).mono ?_
  rintro r w6 ⟨rfl, b6⟩
  have B6 := hid (B5.out.trans (b6.mono B5.out.size))
  have S6 := hid (SpI.new w6 (k : Int) (Y : Int))
  have c0 := S6.out.c0
  have c1 := S6.out.c1
  have BS := hid (B6.out.trans (((Below.refl _ w6).alloc (Nat.le_refl _) (.cells #[.int .i64 (k : Int), .int .i64 (Y : Int)] 25)).mono B6.out.size))
  clear b6 i1 i2 i3 i5 i6 i7 i8 i9 i10 i11 hLA hLA3 hLA4 hLA5 hBa B2 B3 B4 B5 hNw hmw
  obtain ⟨gS, hgS⟩ : ∃ gS, Hid (w6.heap.size = gS) := ⟨_, rfl⟩
  have hov := Tree.Over.start (n := N) (by have h := Tree.runF_apart k Y N 0 N n1 (Nat.le_refl _) hkY; rw [Nat.zero_add] at h; exact h)
  have hrN := Apt_len hov.ap
  rw [hrl.out] at hrN
  generalize Tree.runF N 0 N k Y = LR at *
  have hov := hid hov
  go_wp2_with (first
    | (go_at_call 10; refine (i12 _).mono ?_; rintro r w' ⟨rfl, h0⟩; have h0 := h0.symm; subst h0)
    | (go_at_call 25; fail))
  refine (i13 _).mono ?_
  rintro r w8 ⟨xa, xc, rfl, hX8, b8⟩
  have S8 := hid (S6.out.below b8)
  have B8 := hid (BS.out.trans (b8.mono BS.out.size))
  have hX8 := hid hX8
  rw [hgS.out] at S8
  clear S6 c0 c1 BS b8 i12 i13
  try rw [hgS.out]
  go_wp2
  go_loopw [32, 33] (fun t i wr => ∃ A I : Nat, t = .int .i64 (A : Int) ∧ i = .int .i64 (I : Int) ∧ I ≤ rl ∧ Hid (Tree.Over k Y N A (LR.drop I)) ∧ Hid (SpI wr gS (k : Int) (Y : Int)) ∧ Hid (AtP wr xa (pm LR)) ∧ Hid (Below w.heap.size w wr)) (fun _ i _ => rl - (intOf i).toNat)
  case atStart => exact ⟨0, 0, rfl, rfl, by omega, hov, S8, hX8, B8⟩
  case round =>
    clear hov S8 hX8 B8
    obtain ⟨A, I, rfl, rfl, hI, hO, hS, hP, hB⟩ := hrel
    have c0 := hS.out.c0
    have c1 := hS.out.c1
    have i0 : (0 : Int) ≤ (I : Int) := by omega
    by_cases hIr : I < rl
    · have b0 : (I : Int) < (rl : Int) := by omega
      obtain ⟨⟨B, E⟩, hq⟩ : ∃ s, LR[I]? = some s := ⟨_, List.getElem?_eq_getElem (by have := hrl.out; omega)⟩
      have hd := drop_get hq
      rw [hd] at hO
      obtain ⟨o1, o2, o3, o4⟩ := hO.out.next hkY
      have o1 : B = Tree.hop k Y A := o1
      have o2 : B < E := o2
      have o3 : E ≤ N := o3
      have o4 : Hid (Tree.Over k Y N E (LR.drop (I + 1))) := o4
      obtain ⟨g1, hxa, _, p0', p1'⟩ := hP.out I _ (pm_get hq)
      subst hxa
      have p0 : wr.cell? ⟨g1, I * 2, none⟩ = some (.int .i64 (B : Int)) := p0'
      have p1 : wr.cell? ⟨g1, I * 2 + 1, none⟩ = some (.int .i64 (E : Int)) := p1'
      have l1 : ¬ (E : Int) ≤ (B : Int) := by omega
      have wI : IntKind.i64.wrap ((I : Int) + 1) = ((I + 1 : Nat) : Int) := by rw [IntKind.wrap_i64]; omega
      clear hq hd hO p0' p1'
      by_cases hAk : A = k
      · rw [Tree.hop, if_pos hAk] at o1
        subst hAk o1
        go_wp2
        exact ⟨⟨E, I + 1, by go_num, by go_num, by omega, o4, hS, hP, hB⟩, by simp [intOf]; omega⟩
      · rw [Tree.hop, if_neg hAk] at o1
        subst o1
        have hAk' : ¬ (B : Int) = (k : Int) := by omega
        clear hAk
        go_wp2
        exact ⟨⟨E, I + 1, by go_num, by go_num, by omega, o4, hS, hP, hB⟩, by simp [intOf]; omega⟩
    · obtain rfl : I = rl := by omega
      have b0 : ¬ (I : Int) < (I : Int) := by omega
      rw [List.drop_eq_nil_of_le (by have := hrl.out; omega)] at hO
      have hl := hO.out.last hkY hYN
      clear hO
      by_cases hAk : A = k
      · rw [Tree.hop, if_pos hAk] at hl
        subst hAk hl
        go_wp2
        go_ret
        exact ⟨rfl, hB.out⟩
      · rw [Tree.hop, if_neg hAk] at hl
        subst hl
        have hAk' : ¬ (A : Int) = (k : Int) := by omega
        clear hAk
        go_wp2
        go_ret
        exact ⟨rfl, hB.out⟩
end Go.Proofs.YtjodbmbadhbblaaDoor
