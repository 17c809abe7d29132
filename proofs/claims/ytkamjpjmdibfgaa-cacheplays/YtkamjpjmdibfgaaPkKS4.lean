import Derived.Test.YtkamjpjmdibfgaaPkKS3
import Derived.Test.YtkamjpjmdibfgaaPkKP11
/- Layer 15, the law: the keys of a pair -/
namespace Go.Proofs.Ytkamjpjmdibfgaa
open Go.RowKit Go.Maps
namespace Kc
theorem below_keep {q : Nat} {S : Nat → Prop} {w0 w w' : World} (h : Below q w0 w) (hk : Keep S w w') (hs : ∀ k, S k → q ≤ k) (hq : q ≤ w.heap.size) : Below q w0 w' :=
  ⟨hk.os.trans h.os, hk.tape.trans h.tape, hk.output.trans h.output, Nat.le_trans h.size hk.size, fun k h1 => (hk.block k (by omega) fun e => by have := hs k e; omega).trans (h.block k h1)⟩
/-- three lists of the same keys, each in its own block -/
structure Tri (P : Obj) (q : Nat) (w0 w : World) (va vb vw : Value) (n : Nat) (ca cb cw : List Value) : Prop where
  bel : Below q w0 w
  qs : q ≤ w.heap.size
  oa : OwnM 1 w va n ca
  ob : OwnM 1 w vb n cb
  ow : OwnM 1 w vw n cw
  ba : ∀ k, va.ownBlock = some k → q < k ∧ vb.ownBlock ≠ some k ∧ vw.ownBlock ≠ some k
  bb : ∀ k, vb.ownBlock = some k → q < k ∧ vw.ownBlock ≠ some k
  bw : ∀ k, vw.ownBlock = some k → q < k
  pr : w.heap[q]? = some P
theorem Tri.below {P : Obj} {q : Nat} {w0 w w' : World} {va vb vw : Value} {n : Nat} {ca cb cw : List Value} (h : Tri P q w0 w va vb vw n ca cb cw) (b : Below w.heap.size w w') : Tri P q w0 w' va vb vw n ca cb cw :=
  ⟨h.bel.trans (b.mono h.qs), Nat.le_trans h.qs b.size, h.oa.below b, h.ob.below b, h.ow.below b, h.ba, h.bb, h.bw, (b.block q (lt_of_heap h.pr)).trans h.pr⟩
theorem Tri.keepA {P : Obj} {q : Nat} {w0 w w' : World} {va vb vw : Value} {n : Nat} {ca cb cw ca' : List Value} (h : Tri P q w0 w va vb vw n ca cb cw) (k : Keep (fun k => va.ownBlock = some k) w w') (o : OwnM 1 w' va n ca') : Tri P q w0 w' va vb vw n ca' cb cw :=
  ⟨below_keep h.bel k (fun k hk => Nat.le_of_lt (h.ba k hk).1) h.qs, Nat.le_trans h.qs k.size, o, h.ob.keep k fun j hj e => (h.ba j e).2.1 hj, h.ow.keep k fun j hj e => (h.ba j e).2.2 hj, h.ba, h.bb, h.bw, (k.block q (lt_of_heap h.pr) fun e => by have := (h.ba q e).1; omega).trans h.pr⟩
theorem Tri.keepB {P : Obj} {q : Nat} {w0 w w' : World} {va vb vw : Value} {n : Nat} {ca cb cw cb' : List Value} (h : Tri P q w0 w va vb vw n ca cb cw) (k : Keep (fun k => vb.ownBlock = some k) w w') (o : OwnM 1 w' vb n cb') : Tri P q w0 w' va vb vw n ca cb' cw :=
  ⟨below_keep h.bel k (fun k hk => Nat.le_of_lt (h.bb k hk).1) h.qs, Nat.le_trans h.qs k.size, h.oa.keep k fun j hj e => (h.ba j hj).2.1 e, o, h.ow.keep k fun j hj e => (h.bb j e).2 hj, h.ba, h.bb, h.bw, (k.block q (lt_of_heap h.pr) fun e => by have := (h.bb q e).1; omega).trans h.pr⟩
set_option maxRecDepth 100000 in
set_option maxHeartbeats 4000000 in
theorem pkeys_any {w : World} {a x : Nat} {g : Option Nat} {B c : Nat} {v : Value} {L : List En} {f m o : Nat} (hC : Ch w a g B c L f m o) (hR : Rf w x B v L f m o) (hl : L.length ≤ 1000000) :
    Calls Try.prog 9 #[.agg #[.pointer (some ⟨a, 0, none⟩), .pointer (some ⟨x, 0, none⟩)]] w fun r w' => r = .returned (.bool true) ∧ Below w.heap.size w w' := by
  obtain ⟨w1, hw1⟩ : ∃ w1, w.alloc (.cells #[.pointer (some ⟨a, 0, none⟩), .pointer (some ⟨x, 0, none⟩)] 33) = w1 := ⟨_, rfl⟩
  obtain ⟨q, hq⟩ : ∃ q, w.heap.size = q := ⟨_, rfl⟩
  have r1 : w1.heap[q]? = some (.cells #[.pointer (some ⟨a, 0, none⟩), .pointer (some ⟨x, 0, none⟩)] 33 (0, 0)) := by rw [← hw1, ← hq]; exact heap_alloc_new w _
  have b1 : Below w.heap.size w w1 := by rw [← hw1]; exact (Below.refl _ _).alloc (Nat.le_refl _) _
  have s1 : w1.heap.size = q + 1 := by rw [← hw1, ← hq]; exact size_alloc w _
  have i1 := rkeys_any (hR.below b1) hl
  have d0 : w1.cell? ⟨q, 0, none⟩ = some (.pointer (some ⟨a, 0, none⟩)) := by rw [cell_of_row _ _ _ _ _ _ r1]; rfl
  have d1 : w1.cell? ⟨q, 1, none⟩ = some (.pointer (some ⟨x, 0, none⟩)) := by rw [cell_of_row _ _ _ _ _ _ r1]; rfl
  have HC := hid hC
  have HQ := hid hq
  have B1 := hid b1
  have R1 := hid r1
  have S1 := hid s1
  have HW1 := hid hw1
  have HL := hid hl
  clear hC hR hw1 hq r1 b1 s1 hl
  obtain ⟨K, hK⟩ : ∃ K, keys L = K := ⟨_, rfl⟩
  rw [hK] at i1
  have HK := hid hK
  have HKl : Hid (K.length ≤ 1000000) := by show _ ≤ _; rw [← hK]; simp only [keys, List.length_map]; exact HL.out
  clear hK
  go_enter Try.func9, Try.ntmps9
  go_upto_region 1 with fail
  rw [HW1.out, HQ.out]
  go_upto_region 2 with (go_at_call 24; (with_reducible refine i1.mono ?_); rintro r w2 ⟨vw, rfl, Ow, b2⟩)
  have C2 := hid ((HC.out.below B1.out).below b2)
  have i2 := keys_any C2.out HL.out
  rw [HK.out] at i2
  have e0 := (b2.cell (p := ⟨q, 0, none⟩) (lt_of_heap (w := w1) R1.out)).trans d0
  clear d1 i1
  go_upto_region 3 with (go_at_call 25; (with_reducible refine i2.mono ?_); rintro r w3 ⟨va, rfl, Oa, b3⟩)
  have i3 := keys_any (C2.out.below b3) HL.out
  rw [HK.out] at i3
  have e1 := (b3.cell (p := ⟨q, 0, none⟩) (Nat.lt_of_lt_of_le (lt_of_heap (w := w1) R1.out) b2.size)).trans e0
  clear i2
  go_upto_region 4 with (go_at_call 25; (with_reducible refine i3.mono ?_); rintro r w4 ⟨vb, rfl, Ob, b4⟩)
  clear i3 d0 e0 e1
  have T4 : Hid (Tri (.cells #[.pointer (some ⟨a, 0, none⟩), .pointer (some ⟨x, 0, none⟩)] 33 (0, 0)) q w w4 va vb vw (svs K).length (svs K) (svs K) (svs K)) := by
    obtain ⟨ma, la⟩ := own_m Oa
    obtain ⟨mb, lb⟩ := own_m Ob
    obtain ⟨mw, lw⟩ := own_m Ow
    have h1 := S1.out
    have h2 := b2.size
    have h3 := b3.size
    have h4 := b4.size
    have bq : Below q w w1 := by rw [← HQ.out]; exact B1.out
    refine ⟨((bq.trans (b2.mono (by omega))).trans (b3.mono (by omega))).trans (b4.mono (by omega)), by omega, ma.below b4, mb, (mw.below b3).below b4, fun k hk => ⟨?_, fun e => ?_, fun e => ?_⟩, fun k hk => ⟨?_, fun e => ?_⟩, fun k hk => ?_, ?_⟩
    · have := la k hk; omega
    · have := ma.lt k hk; have := lb k e; omega
    · have := la k hk; have := mw.lt k e; omega
    · have := lb k hk; omega
    · have := lb k hk; have := mw.lt k e; omega
    · have := lw k hk; omega
    · have hl1 := lt_of_heap R1.out
      exact ((b4.block q (by omega)).trans ((b3.block q (by omega)).trans (b2.block q hl1))).trans R1.out
  clear Oa Ob Ow b2 b3 b4 C2 R1 S1 B1 HW1
  obtain ⟨P, hP⟩ : ∃ P, Obj.cells #[.pointer (some ⟨a, 0, none⟩), .pointer (some ⟨x, 0, none⟩)] 33 (0, 0) = P := ⟨_, rfl⟩
  rw [hP] at T4
  have HP := hid hP
  clear hP
  have i4 := same_yes T4.out.oa T4.out.ow HKl.out
  go_upto_region 5 with (go_at_call 26; (with_reducible refine i4.mono ?_); rintro r w5 ⟨rfl, b5⟩)
  have T5 := hid (T4.out.below b5)
  have i5 := same_yes T5.out.ob T5.out.ow HKl.out
  clear T4 i4 b5
  go_upto_region 6 with (go_at_call 26; (with_reducible refine i5.mono ?_); rintro r w6 ⟨rfl, b6⟩)
  have T6 := hid (T5.out.below b6)
  have i6 := marks_any T6.out.oa (by rw [svs_length]; exact HKl.out) ⟨#[111, 118, 101, 114]⟩
  clear T5 i5 b6
  go_upto_region 7 with (go_at_call 27; (with_reducible refine i6.mono ?_); rintro r w7 ⟨rfl, O7, K7⟩)
  have T7 := hid (T6.out.keepA K7 O7)
  have i7 := marks_any T7.out.ob (by rw [svs_length]; exact HKl.out) ⟨#[109, 105, 110, 101]⟩
  clear T6 i6 O7 K7
  go_upto_region 8 with (go_at_call 27; (with_reducible refine i7.mono ?_); rintro r w8 ⟨rfl, O8, K8⟩)
  have T8 := hid (T7.out.keepB K8 O8)
  have i8 := grows_any T8.out.oa (by rw [svs_length]; exact HKl.out)
  clear T7 i7 O8 K8
  go_upto_region 9 with (go_at_call 28; (with_reducible refine i8.mono ?_); rintro r w9 ⟨vx, allx, lx, nx, rfl, hx, GX⟩)
  have b9 : Hid (Below q w w9) := below_keep T8.out.bel GX.kp (fun k hk => Nat.le_of_lt (T8.out.ba k hk).1) T8.out.qs
  have ob9 : OwnM 1 w9 vb _ _ := T8.out.ob.keep GX.kp fun j hj e => (T8.out.ba j e).2.1 hj
  have ow9 := hid (T8.out.ow.keep GX.kp fun j hj e => (T8.out.ba j e).2.2 hj)
  have p9 : Hid (w9.heap[q]? = some P) := (GX.kp.block q (lt_of_heap T8.out.pr) fun e => by have := (T8.out.ba q e).1; omega).trans T8.out.pr
  have i9 := grows_any ob9 (by rw [svs_length]; exact HKl.out)
  have GX := hid GX
  clear i8 ob9
  go_upto_region 10 with (go_at_call 28; (with_reducible refine i9.mono ?_); rintro r w10 ⟨vy, ally, ly, ny, rfl, hy, GY⟩)
  have nb : ∀ k, vb.ownBlock = some k → k < w8.heap.size := fun k hk => T8.out.ob.lt k hk
  have b10 : Hid (Below q w w10) := below_keep b9.out GY.kp (fun k hk => Nat.le_of_lt (T8.out.bb k hk).1) (Nat.le_trans T8.out.qs GX.out.kp.size)
  have ow10 := hid (ow9.out.keep GY.kp fun j hj e => (T8.out.bb j e).2 hj)
  have p10 : Hid (w10.heap[q]? = some P) := (GY.kp.block q (lt_of_heap p9.out) fun e => by have := (T8.out.bb q e).1; omega).trans p9.out
  have ox10 : OwnM 1 w10 vx allx.length allx := GX.out.oa.keep GY.kp fun j hj e => by have := GX.out.ab j hj; have := nb j e; omega
  have mx10 : ∀ y ∈ allx, MkV w10 y (.string ⟨#[111, 118, 101, 114]⟩) := fun y hy => by
    obtain ⟨m1, m2, _⟩ := GX.out.el y hy
    refine m1.kept GY.kp.size fun k hk hl => GY.kp.block k hl fun e => ?_
    rcases (m2 k hk).1 with c | c
    · exact (T8.out.ba k c).2.1 e
    · have := nb k e; omega
  have iX := reads_yes ox10 mx10 (by rw [hx]; omega)
  have iY := reads_yes GY.oa (fun y hy => (GY.el y hy).1) (by rw [hy]; omega)
  have C10 : Ch w10 a g B c L f m o := HC.out.below (by rw [HQ.out]; exact b10.out)
  have iK := keys_any C10 HL.out
  rw [HK.out] at iK
  have e10 : w10.cell? ⟨q, 0, none⟩ = some (.pointer (some ⟨a, 0, none⟩)) := by rw [cell_of_row _ _ _ _ _ _ (p10.out.trans (congrArg some HP.out.symm))]; rfl
  have q10 : Hid (q ≤ w10.heap.size) := Nat.le_of_lt (lt_of_heap p10.out)
  clear GX GY b9 ow9 p9 T8 i9 nb ox10 mx10 C10 hx hy p10
  go_wp2_with (first
    | (go_at_call 29; (with_reducible refine iX.mono ?_); rintro r w9' ⟨rfl, hw9⟩; replace hw9 := hw9.symm; subst hw9; clear iX)
    | (go_at_call 29; (with_reducible refine iY.mono ?_); rintro r w9' ⟨rfl, hw9⟩; replace hw9 := hw9.symm; subst hw9; clear iY)
    | (go_at_call 25; (with_reducible refine iK.mono ?_); rintro r w11 ⟨v5, rfl, O5, b11⟩; have iS := same_yes (own_m O5).1 (ow10.out.below b11) HKl.out; have B11 := hid (b10.out.trans (b11.mono q10.out)); have S11 := hid (Nat.le_trans q10.out b11.size); clear O5 b11)
    | (go_at_call 26; (with_reducible refine iS.mono ?_); rintro r w12 ⟨rfl, b12⟩; have B12 := hid (B11.out.trans (b12.mono S11.out)); clear b12))
  go_ret
  exact ⟨rfl, HQ.out ▸ B12.out⟩
end Kc
end Go.Proofs.Ytkamjpjmdibfgaa
