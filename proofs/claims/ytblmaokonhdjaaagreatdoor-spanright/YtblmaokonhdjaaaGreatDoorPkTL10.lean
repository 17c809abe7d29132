import Derived.Test.YtblmaokonhdjaaaGreatDoorPkTL6
import Derived.Carry
namespace Go.Proofs.YtblmaokonhdjaaaGreatDoor
open Go.RowKit
namespace Til
open Tree
theorem more_rf (L : List T) (h : Nat) (cnt : Nat → Nat) (l : Nat) : more (rf L h cnt) ((l : Int), ((cnt l / 2 ^ h : Nat) : Int)) (hs L l (cnt l)) = rf L h (up cnt l) := by
  funext p
  by_cases hp : p = ((l : Int), ((cnt l / 2 ^ h : Nat) : Int))
  · subst hp
    rw [more_same, rf_up_same]
  · rw [more_other hp, rf_up_other L h cnt l hp]
theorem gc_at (n k : Nat) : gc n k k = cn n k := by unfold gc; rw [if_neg (by omega)]
theorem gc_be (n k : Nat) : gc n (k + 1) k = cn (n + 1) k := by unfold gc; rw [if_pos (by omega)]
/-- what comes of two neighbours, as a leaf is taken -/
theorem grow_step {L : List T} {n k : Nat} (hL : L.length = n + 1) (hd : 2 ^ (k + 1) ∣ n + 1) : 1 ≤ cn n k ∧ cn (n + 1) k = cn n k + 1 ∧ hs L (k + 1) (cn n (k + 1)) = nd (hs L k (cn n k - 1)) (hs L k (cn n k)) := by
  have hd0 : 2 ^ k ∣ n + 1 := Nat.dvd_trans (Nat.pow_dvd_pow 2 (by omega)) hd
  have h1 := cn_more hd0
  have h2 := cn_more hd
  have hp := Nat.two_pow_pos k
  have e1 : cn (n + 1) k = 2 * cn (n + 1) (k + 1) := by
    unfold cn
    obtain ⟨c, hc⟩ := hd
    rw [hc, Nat.mul_div_cancel_left _ (Nat.two_pow_pos (k + 1)), Nat.pow_succ, Nat.mul_assoc, Nat.mul_div_cancel_left _ hp]
  refine ⟨by omega, h1, ?_⟩
  rw [hs_node (by have := cn_le (n + 1) (k + 1); rw [h2] at this; omega), show 2 * cn n (k + 1) = cn n k - 1 by omega, show cn n k - 1 + 1 = cn n k by omega]
theorem gc_row {L : List T} {h n k i : Nat} (hi : i < cn (n + 1) k) : (rf L h (gc n (k + 1)) ((k : Int), ((i / 2 ^ h : Nat) : Int)))[i % 2 ^ h]? = some (hs L k i) := by
  rw [rf_nat, gc_be]
  exact row_at hi
theorem rf_len (L : List T) (h : Nat) (hh : h ≤ 8) (cnt : Nat → Nat) (p : Int × Int) : (rf L h cnt p).length ≤ 2000000 := by
  have hp2 : 2 ^ h ≤ 256 := Nat.pow_le_pow_right (n := 2) (by omega) hh
  unfold rf
  split
  · rw [row_len]; omega
  · simp
theorem ctz_dvd {x : Nat} (h0 : x ≠ 0) (hx : x < 18446744073709551616) : ∃ c, Go.Lib.ctz 64 x = c ∧ c < 64 ∧ (∀ k, k ≤ c → 2 ^ k ∣ x) ∧ ¬ 2 ^ (c + 1) ∣ x := by
  have e1 : Go.Lib.ctz 64 x = Go.Lib.ctzFrom 64 x := by unfold Go.Lib.ctz; rw [if_neg h0]
  obtain ⟨m, hm, hc⟩ := Go.Lib.ctzFrom_spec 64 x (by omega) hx
  rw [e1]
  generalize Go.Lib.ctzFrom 64 x = c at *
  refine ⟨c, rfl, hc, fun k hk => ?_, fun ⟨d, hd⟩ => ?_⟩
  · rw [hm]
    exact Nat.dvd_trans (Nat.pow_dvd_pow 2 hk) (Nat.dvd_mul_right _ _)
  · rw [hm, Nat.pow_succ, Nat.mul_assoc] at hd
    have := Nat.eq_of_mul_eq_mul_left (Nat.two_pow_pos c) hd
    omega
end Til
theorem tnode_any {l r m : List UInt8} (h : Hid (Tree.nd l r = m)) (w : World) (T : Tabs w) :
    Calls Tryz.prog 138 #[sv l, sv r] w fun e w' => e = .returned (sv m) ∧ Below w.heap.size w w' := by
  obtain ⟨c, hc⟩ : ∃ c, Hid (nodeOf l r = (m, c)) := ⟨(nodeOf l r).2, by unfold Hid; rw [← h.out, ← nodeOf_nd]⟩
  go_enter Tryz.func138, Tryz.ntmps138
  go_wp2_with (go_at_call 151; refine (node_at hc w T).mono ?_; rintro e w1 ⟨rfl, hw1⟩)
  go_ret
  exact ⟨rfl, hw1⟩
theorem Mov.trans {F F' F'' : Nat → Prop} {w w1 w2 : World} (h : Mov F w w1 F') (k : Mov F' w1 w2 F'') : Mov F w w2 F'' := by
  refine ⟨h.keep.trans k.keep fun j hj e => ?_, fun j hj => ?_⟩
  · rcases h.new j e with e | e
    · exact e
    · omega
  · rcases k.new j hj with e | e
    · exact h.new j e
    · exact .inr (Nat.le_trans h.keep.size e)
theorem Mov.ofBelow {F : Nat → Prop} {w w' : World} (h : Below w.heap.size w w') : Mov F w w' F := ⟨Keep.ofBelow h, fun _ e => .inl e⟩
/-- t.size++ -/
theorem Tr.sized {w : World} {q b h s : Nat} {es : List ((Int × Int) × Value)} {R : Int × Int → List (List UInt8)} (t : Tr w q b h s es R) (s' : Nat) : Tr (w.setCell ⟨q, 1, none⟩ (.int .i64 (s' : Int))) q b h s' es R ∧ Mov (Fb q b es) w (w.setCell ⟨q, 1, none⟩ (.int .i64 (s' : Int))) (Fb q b es) := by
  have k1 := Keep.ofSet (S := fun k => k = q) w q 1 (.int .i64 (s' : Int)) rfl
  have e : ∀ k, k < w.heap.size → k ≠ q → (w.setCell ⟨q, 1, none⟩ (.int .i64 (s' : Int))).heap[k]? = w.heap[k]? := fun k hk hne => k1.block k hk hne
  refine ⟨⟨heap_setCell_same w q 1 _ _ _ t.row, t.mp.heap (e b t.mp.lt (Ne.symm t.qb)), t.qb, fun p v hm => ⟨?_, (t.el p v hm).2⟩, t.no, t.apart⟩, ⟨k1.mono fun k _ e => .inl e, fun _ e => .inl e⟩⟩
  exact (t.el p v hm).1.kept k1.size fun g hg => e g ((t.el p v hm).1.ltS g hg) ((t.el p v hm).2 g hg).1
theorem Tr.tabs {w w' : World} {F F' : Nat → Prop} (T : Tabs w) (hm : Mov F w w' F') (hF : ∀ k, F k → 5 ≤ k) : Tabs w' := T.below (hm.below T.lt hF).1 (Nat.le_refl _)
end Go.Proofs.YtblmaokonhdjaaaGreatDoor

namespace Go.Proofs.YtblmaokonhdjaaaGreatDoor
open Go.RowKit
theorem keep_lvl {w : World} {q b h n k : Nat} {es : List ((Int × Int) × Value)} {L : List (List UInt8)} (t : Tr w q b h (n + 1) es (Til.rf L h (Til.gc n k))) (hh : h ≤ 8) (hk : k ≤ 60) (hn : n < 4611686018427387903) (hd : 2 ^ k ∣ n + 1) {x : List UInt8} (hx : Til.hs L k (Til.cn n k) = x) :
    Calls Tryz.prog 135 #[.pointer (some ⟨q, 0, none⟩), .int .i64 (k : Int), sv x] w fun r w' => r = .returned (.tuple #[]) ∧ ∃ es', Tr w' q b h (n + 1) es' (Til.rf L h (Til.gc n (k + 1))) ∧ Mov (Fb q b es) w w' (Fb q b es') := by
  have h1 := tkeep_any t hh k (Til.cn n k) hk (by omega) (Til.cn_more hd) x (Til.rf_len L h hh _ _)
  have h2 := Til.more_rf L h (Til.gc n k) k
  rw [Til.gc_at, hx, Til.gc_up hd] at h2
  rw [h2] at h1
  exact h1
set_option maxRecDepth 100000 in
set_option maxHeartbeats 4000000 in
theorem tgrow_any {w : World} {q b h n : Nat} {es : List ((Int × Int) × Value)} {L : List (List UInt8)} (t : Tr w q b h n es (Til.rf L h (Til.cn n))) (hL : L.length = n) (hn : n < 1099511627776) (hh : h ≤ 8) (x : List UInt8) (Z : Tb w) (hF : ∀ k, Fb q b es k → 5 ≤ k) :
    Calls Tryz.prog 88 #[.pointer (some ⟨q, 0, none⟩), sv x] w fun r w' => r = .returned (.tuple #[]) ∧ ∃ es', Tr w' q b h (n + 1) es' (Til.rf (L ++ [x]) h (Til.cn (n + 1))) ∧ Mov (Fb q b es) w w' (Fb q b es') := by
  have R0 : Til.rf L h (Til.cn n) = Til.rf (L ++ [x]) h (Til.gc n 0) := by
    rw [Til.gc_zero]
    exact (funext fun p => Til.rf_append (fun l => by rw [hL]; exact Til.cn_le n l) p).symm
  rw [R0] at t
  have hx0 : Til.hs (L ++ [x]) 0 (Til.cn n 0) = x := by
    have : Til.cn n 0 = n := by unfold Til.cn; rw [Nat.pow_zero, Nat.div_one]
    rw [this, Til.hs_leaf (by rw [List.length_append, hL]; simp)]
    simp [← hL]
  have hL' : (L ++ [x]).length = n + 1 := by rw [List.length_append, hL]; rfl
  obtain ⟨t1, m1⟩ := t.sized (n + 1)
  have K0 := keep_lvl t1 hh (k := 0) (by omega) (by omega) (by rw [Nat.pow_zero]; exact Nat.one_dvd _) hx0
  rw [show ((0 : Nat) : Int) = 0 from rfl] at K0
  have HX0 := hid hx0
  generalize hLx : L ++ [x] = L' at *
  have q1 := t.c1
  have f1 := t.f1
  obtain ⟨n1, hn1⟩ : ∃ n1 : Nat, n + 1 = n1 := ⟨_, rfl⟩
  have w1e : IntKind.i64.wrap ((n : Int) + 1) = (n1 : Int) := by rw [wrap_small _ (by omega) (by omega)]; omega
  obtain ⟨c, hc, hc64, hdv, hnd⟩ := Til.ctz_dvd (x := n1) (by omega) (by omega)
  have u1 : IntKind.u64.wrap (n1 : Int) = (n1 : Int) := by rw [IntKind.wrap_u64]; omega
  have tz := fun w' (Z : Tb w') => tz_any n1 (by omega) w' Z.z
  rw [hc] at tz
  have hqlt : q < w.heap.size := t.lt q (.inl rfl)
  have M1 := hid m1
  have HN1 := hid hn1
  have HL' := hid hL'
  have HF := hid hF
  have HZ := hid Z
  rw [hn1] at t1 K0 M1
  obtain ⟨w1, hw1⟩ : ∃ w1, w.setCell ⟨q, 1, none⟩ (.int .i64 (n1 : Int)) = w1 := ⟨_, rfl⟩
  rw [hw1] at t1 K0 M1
  have hc40 : c ≤ 40 := by
    have h2 := Nat.le_of_dvd (by omega) (hdv c (Nat.le_refl _))
    have h3 : 2 ^ c < 2 ^ 41 := by omega
    have := (Nat.pow_lt_pow_iff_right (a := 2) (by omega)).1 h3
    omega
  clear t hF Z m1 hL' R0 hx0 hLx hc
  have T1 := hid t1
  clear t1
  go_enter Tryz.func88, Tryz.ntmps88
  go_wp2_with (go_at_call 135; fail)
  refine K0.mono ?_
  rintro e w2 ⟨rfl, es2, t2, m2⟩
  have M2 := hid (M1.out.trans m2)
  have T2 := hid t2
  have Z2 := hid (HZ.out.below (M2.out.below HZ.out.lt HF.out).1 (Nat.le_refl _))
  have q2 := t2.c1
  clear m2 t2 K0 M1 T1
  go_wp2_with (go_at_call 136; refine (tz _ Z2.out).mono ?_; rintro e w3 ⟨rfl, rfl⟩)
  obtain ⟨w2, rfl⟩ : ∃ w2, w2 = w3 := ⟨_, rfl⟩
  clear q2 tz hw1
  go_loopw [24, 4] (fun i hv w' => ∃ (k : Nat) (es' : List ((Int × Int) × Value)) (y : List UInt8), i = .int .i64 (k : Int) ∧ k ≤ c ∧ hv = sv y ∧ Hid (Til.hs L' k (Til.cn n k) = y) ∧ Hid (Tr w' q b h n1 es' (Til.rf L' h (Til.gc n (k + 1)))) ∧ Hid (Mov (Fb q b es) w w' (Fb q b es'))) (fun i _ _ => c - (intOf i).toNat)
  case atStart => exact ⟨0, es2, x, rfl, by omega, rfl, HX0, T2, M2⟩
  case round =>
    clear T2 M2 Z2 HX0
    obtain ⟨k, es', y, rfl, hk, rfl, hy, hT, hM⟩ := hrel
    by_cases hkc : k < c
    · have c0 : (k : Int) < (c : Int) := by omega
      obtain ⟨g1, g2, g3⟩ := Til.grow_step (L := L') (n := n) (k := k) HL'.out (by rw [HN1.out]; exact hdv (k + 1) (by omega))
      rw [HN1.out] at g2
      have g4 := Til.gc_row (L := L') (h := h) (n := n) (k := k) (i := Til.cn n k - 1) (by rw [HN1.out, g2]; omega)
      have Zr := hid (HZ.out.below (hM.out.below HZ.out.lt HF.out).1 (Nat.le_refl _))
      have q1 := hT.out.c1
      have hck : Til.cn n k ≤ n := Nat.div_le_self _ _
      obtain ⟨ck, hck2⟩ : ∃ ck, Til.cn n k = ck + 1 := ⟨Til.cn n k - 1, by omega⟩
      rw [hck2, Nat.add_sub_cancel] at g4
      have hl := thash_any hT.out hh k ck (by omega) (by omega) g4
      have s1 : (n1 : Int) / 2 ^ k = (ck : Int) + 2 := by
        have h1 : ((n1 / 2 ^ k : Nat) : Int) = (ck : Int) + 2 := by
          have : n1 / 2 ^ k = ck + 2 := by have := g2; unfold Til.cn at this hck2; omega
          rw [this]; simp
        rw [← h1]; simp
      have s2 : (ck : Int) + 2 - 2 = (ck : Int) := by omega
      have s3 : IntKind.i64.wrap (ck : Int) = (ck : Int) := wrap_small _ (by omega) (by omega)
      have l0 : (0 : Int) ≤ (k : Int) := by omega
      have l1 : (k : Int) ≤ 64 := by omega
      have l2 : IntKind.i64.wrap ((k : Int) + 1) = ((k + 1 : Nat) : Int) := by rw [wrap_small _ (by omega) (by omega)]; omega
      rw [hck2, Nat.add_sub_cancel] at g3
      obtain ⟨lh, hlh⟩ : ∃ lh, Hid (Til.hs L' k ck = lh) := ⟨_, rfl⟩
      have hy2 : Til.hs L' k (ck + 1) = y := by rw [← hck2]; exact hy.out
      rw [hlh.out, hy2] at g3
      rw [hlh.out] at hl
      obtain ⟨y', hy'⟩ : ∃ y', Hid (Tree.nd lh y = y') := ⟨_, rfl⟩
      rw [hy'.out] at g3
      have HY' := hid g3
      clear g1 g2 g3 g4 hck hy hy2 hck2 hlh
      go_wp2_with (go_at_call 137; fail)
      refine hl.mono ?_
      rintro e w4 ⟨rfl, hw4⟩
      have Z4 := hid (Zr.out.below hw4 Zr.out.lt)
      have T4 := hT.out.below hw4
      have N4 := tnode_any hy' w4 Z4.out.t
      clear hl q1
      go_wp2_with (go_at_call 138; fail)
      refine N4.mono ?_
      rintro e w5 ⟨rfl, hw5⟩
      have b5 := hw4.trans (hw5.mono hw4.size)
      have T5 := hT.out.below b5
      rw [← HN1.out] at T5
      have K5 := keep_lvl T5 hh (k := k + 1) (by omega) (by omega) (by rw [HN1.out]; exact hdv (k + 1) (by omega)) HY'.out
      rw [HN1.out] at K5
      have M5 := hid (hM.out.trans (Mov.ofBelow (F := Fb q b es') b5))
      clear N4 hw4 hw5 b5 T4 T5 hT hM Zr Z4
      go_wp2_with (go_at_call 135; fail)
      refine K5.mono ?_
      rintro e w6 ⟨rfl, es6, t6, m6⟩
      have M6 := hid (M5.out.trans m6)
      have T6 := hid t6
      clear K5 M5 m6 t6
      go_wp2
      exact ⟨⟨k + 1, es6, y', by go_num, by omega, rfl, HY', T6, M6⟩, by simp [intOf]; omega⟩
    · obtain rfl : k = c := by omega
      have c0 : ¬ (k : Int) < (k : Int) := by omega
      go_wp2
      go_end0
      refine ⟨rfl, es', ?_, hM.out⟩
      have h1 := hT.out
      rw [Til.gc_end (by rw [HN1.out]; exact hnd), HN1.out] at h1
      exact h1
end Go.Proofs.YtblmaokonhdjaaaGreatDoor

namespace Go.Proofs.YtblmaokonhdjaaaGreatDoor
open Go.RowKit
/-- a tree of these leaves, and its blocks -/
structure TrL (w : World) (q h : Nat) (L : List (List UInt8)) (F : Nat → Prop) : Prop where
  ex : ∃ b es, Tr w q b h L.length es (Til.rf L h (Til.cn L.length)) ∧ F = Fb q b es
  hs : Tree.Hs L
  h1 : 1 ≤ h
  h8 : h ≤ 8
  low : ∀ k, F k → 5 ≤ k
  n20 : L.length ≤ 1048576
theorem TrL.keep {w w' : World} {q h : Nat} {L : List (List UInt8)} {F S : Nat → Prop} (t : TrL w q h L F) (hk : Keep S w w') (hd : ∀ k, F k → ¬ S k) : TrL w' q h L F := by
  obtain ⟨⟨b, es, t1, rfl⟩, h2, h3, h4, h5, h6⟩ := t
  exact ⟨⟨b, es, t1.keep hk hd, rfl⟩, h2, h3, h4, h5, h6⟩
theorem TrL.below {w w' : World} {q h : Nat} {L : List (List UInt8)} {F : Nat → Prop} (t : TrL w q h L F) (hb : Below w.heap.size w w') : TrL w' q h L F := by
  obtain ⟨⟨b, es, t1, rfl⟩, h2, h3, h4, h5, h6⟩ := t
  exact ⟨⟨b, es, t1.below hb, rfl⟩, h2, h3, h4, h5, h6⟩
theorem TrL.lt {w : World} {q h : Nat} {L : List (List UInt8)} {F : Nat → Prop} (t : TrL w q h L F) : ∀ k, F k → k < w.heap.size := by
  obtain ⟨⟨b, es, t1, rfl⟩, h2, h3, h4, h5, h6⟩ := t
  exact t1.lt
theorem TrL.mov {w w' : World} {q h : Nat} {L : List (List UInt8)} {F G G' : Nat → Prop} (t : TrL w q h L F) (hm : Mov G w w' G') (hd : ∀ k, F k → ¬ G k) : TrL w' q h L F ∧ ∀ k, F k → ¬ G' k :=
  ⟨t.keep hm.keep hd, fun k hk e => by
    rcases hm.new k e with e | e
    · exact hd k hk e
    · have := t.lt k hk; omega⟩
theorem tSizeL {w : World} {q h : Nat} {L : List (List UInt8)} {F : Nat → Prop} (t : TrL w q h L F) : Calls Tryz.prog 52 #[.pointer (some ⟨q, 0, none⟩)] w fun r w' => r = .returned (.int .i64 (L.length : Int)) ∧ w' = w := by
  obtain ⟨⟨b, es, t1, rfl⟩, h2, h3, h4, h5, h6⟩ := t
  exact tSize_any t1
theorem tHeightL {w : World} {q h : Nat} {L : List (List UInt8)} {F : Nat → Prop} (t : TrL w q h L F) : Calls Tryz.prog 87 #[.pointer (some ⟨q, 0, none⟩)] w fun r w' => r = .returned (.int .i64 (h : Int)) ∧ w' = w := by
  obtain ⟨⟨b, es, t1, rfl⟩, h2, h3, h4, h5, h6⟩ := t
  exact tHeight_any t1
set_option maxRecDepth 100000 in
theorem tNew_any (h : Nat) (h1 : 1 ≤ h) (h8 : h ≤ 8) (w : World) (hT : 5 ≤ w.heap.size) : Calls Tryz.prog 50 #[.int .i64 (h : Int)] w fun r w' => ∃ q F, r = .returned (.tuple #[.pointer (some ⟨q, 0, none⟩), .int .i64 0]) ∧ TrL w' q h [] F ∧ (∀ k, F k → w.heap.size ≤ k) ∧ Below w.heap.size w w' := by
  have c0 : ¬ (h : Int) < 1 := by omega
  have c1 : ¬ (h : Int) > 8 := by omega
  have c2 : ¬ 8 < (h : Int) := by omega
  have hmm := @run_makeMap Tryz.prog
  go_enter Tryz.func50, Tryz.ntmps50
  go_wp2
  go_ret2
  have b1 := (Below.refl w.heap.size w).alloc (Nat.le_refl _) (.map #[] 0)
  have z1 := size_alloc w (.map #[] 0)
  have b2 := (Below.refl (w.heap.size + 1) (w.alloc (.map #[] 0))).alloc (by omega) (.cells #[Value.int .i64 (h : Int), .int .i64 0, .map (some w.heap.size)] 158)
  have r2 := heap_alloc_at (w.alloc (.map #[] 0)) (.cells #[Value.int .i64 (h : Int), .int .i64 0, .map (some w.heap.size)] 158) (w.heap.size + 1) z1
  have hF : ∀ k, Fb (w.heap.size + 1) w.heap.size [] k → w.heap.size ≤ k := fun k hk => by
    rcases hk with hk | hk | ⟨p, v, hm, _⟩
    · omega
    · omega
    · cases hm
  refine ⟨w.heap.size + 1, rfl, _, ⟨⟨w.heap.size, [], ⟨r2, (Mp.new w).heap (b2.block _ (by omega)), by omega, fun p v hm => (by cases hm), fun p _ => ?_, fun p v p' v' k hm => (by cases hm)⟩, rfl⟩, fun x hx => (by cases hx), h1, h8, fun k hk => Nat.le_trans hT (hF k hk), by simp⟩, hF, b1.trans (b2.mono (by omega))⟩
  unfold Til.rf
  split
  · apply List.eq_nil_of_length_eq_zero
    rw [Til.row_len]
    simp [Til.cn]
  · rfl
set_option maxRecDepth 100000 in
theorem tNew_bad (h : Int) (h1 : h < 1 ∨ 8 < h) (w : World) : Calls Tryz.prog 50 #[.int .i64 h] w fun r w' => r = .returned (.tuple #[.pointer none, .int .i64 70]) ∧ w' = w := by
  by_cases hc : h < 1
  · go_enter Tryz.func50, Tryz.ntmps50
    go_wp2
    go_ret2
    exact ⟨rfl, rfl⟩
  · have c1 : h > 8 := by omega
    go_enter Tryz.func50, Tryz.ntmps50
    go_wp2
    go_ret2
    exact ⟨rfl, rfl⟩
set_option maxRecDepth 100000 in
theorem tAdd_bad (q : Nat) (x : List UInt8) (hx : x.length ≠ 32) (w : World) : Calls Tryz.prog 51 #[.pointer (some ⟨q, 0, none⟩), sv x] w fun r w' => r = .returned (.int .i64 71) ∧ w' = w := by
  have hs := sv_size x
  have c0 : (((ByteArray.mk x.toArray).size : Int) != 32) = true := by rw [hs]; simp; omega
  show Calls _ _ #[_, .string ⟨x.toArray⟩] _ _
  go_enter Tryz.func51, Tryz.ntmps51
  go_wp2
  go_ret
  exact ⟨rfl, rfl⟩
set_option maxRecDepth 100000 in
set_option maxHeartbeats 1000000 in
theorem tAdd_any {w : World} {q h : Nat} {L : List (List UInt8)} {F : Nat → Prop} (t : TrL w q h L F) (x : List UInt8) (hx : x.length = 32) (hn : L.length < 1048576) (Z : Tb w) : Calls Tryz.prog 51 #[.pointer (some ⟨q, 0, none⟩), sv x] w fun r w' => r = .returned (.int .i64 0) ∧ ∃ F', TrL w' q h (L ++ [x]) F' ∧ Mov F w w' F' := by
  have hs := sv_size x
  have c0 : (((ByteArray.mk x.toArray).size : Int) != 32) = false := by rw [hs, hx]; rfl
  have hsx : Tree.Hs (L ++ [x]) := fun y hy => by
    rcases List.mem_append.1 hy with hy | hy
    · exact t.hs y hy
    · rw [List.mem_singleton.1 hy]; exact hx
  have i1 := tHeightL t
  obtain ⟨⟨b, es, t1, rfl⟩, _, g1, g8, glow, _⟩ := t
  have G := tgrow_any t1 rfl (by omega) g8 x Z glow
  have q1 := t1.c1
  obtain ⟨n, hL⟩ : ∃ n, L.length = n := ⟨_, rfl⟩
  rw [hL] at hn G q1
  have c1 : ((h : Int) == 0) = false := by simp; omega
  have c2 : ((n : Int) == 1048576) = false := by simp; omega
  have hT := Z.lt
  clear t1 Z hs
  rw [show sv x = Value.string ⟨x.toArray⟩ from rfl] at G ⊢
  go_enter Tryz.func51, Tryz.ntmps51
  go_wp2_with (first
    | (go_at_call 87; refine i1.mono ?_; rintro r w1 ⟨rfl, rfl⟩)
    | (go_at_call 88; refine G.mono ?_; rintro r w2 ⟨rfl, es2, t2, m2⟩))
  go_ret
  refine ⟨rfl, _, ⟨⟨b, es2, ?_, rfl⟩, hsx, g1, g8, (m2.below hT glow).2, ?_⟩, m2⟩
  · have e : (L ++ [x]).length = n + 1 := by rw [List.length_append, hL]; rfl
    rw [e]; exact t2
  · rw [List.length_append, hL]; simp; omega
end Go.Proofs.YtblmaokonhdjaaaGreatDoor

namespace Go.Proofs.YtblmaokonhdjaaaGreatDoor
open Go.RowKit
end Go.Proofs.YtblmaokonhdjaaaGreatDoor

namespace Go.Proofs.YtblmaokonhdjaaaGreatDoor
open Go.RowKit
set_option maxRecDepth 100000 in
set_option maxHeartbeats 2000000 in
/-- the hash of 2^l leaves from a place on -/
theorem perfect_any {q h : Nat} {L : List (List UInt8)} {F : Nat → Prop} : ∀ (l : Nat) (w : World) (_ : TrL w q h L F) (b0 : Nat) (_ : l ≤ 40) (_ : b0 + 2 ^ l ≤ L.length) (_ : Tb w),
    Calls Tryz.prog 143 #[.pointer (some ⟨q, 0, none⟩), .int .i64 (b0 : Int), .int .i64 (l : Int)] w fun r w' => r = .returned (sv (Tree.root (Til.sg L b0 (b0 + 2 ^ l)))) ∧ Below w.heap.size w w' := by
  intro l
  induction l with
  | zero =>
    intro w t b0 hl hb Z
    have c0 := low_i64 b0 0 1 (by have := t.n20; omega) (by omega) rfl
    rw [Nat.mod_one] at c0
    obtain ⟨⟨b, es, t1, rfl⟩, _, _, g8, _, n20⟩ := t
    have i1 := thash_any t1 g8 0 b0 (by omega) (by omega) (x := Til.hs L 0 b0) (by rw [Til.rf_nat, Til.row_at (by unfold Til.cn; rw [Nat.pow_zero, Nat.div_one]; omega)])
    have e1 : Til.hs L 0 b0 = Tree.root (Til.sg L b0 (b0 + 2 ^ 0)) := by unfold Til.hs; rw [Nat.pow_zero, Nat.mul_one, Nat.mul_one]
    rw [e1] at i1
    generalize Tree.root (Til.sg L b0 (b0 + 2 ^ 0)) = R at *
    have c1 : ((1 : Nat) : Int) - 1 = 0 := rfl
    rw [c1] at c0
    rw [show ((0 : Nat) : Int) = 0 from rfl] at *
    have c2 : IntKind.i64.wrap 1 = 1 := by decide
    have c3 : IntKind.i64.wrap 0 = 0 := by decide
    clear t1
    go_enter Tryz.func143, Tryz.ntmps143
    go_wp2_with (go_at_call 137; refine i1.mono ?_; rintro r w2 ⟨rfl, hw2⟩)
    go_ret
    exact ⟨rfl, hw2⟩
  | succ l ih =>
    intro w t b0 hl hb Z
    obtain ⟨P, hP⟩ : ∃ P, P = 2 ^ (l + 1) := ⟨_, rfl⟩
    obtain ⟨Q, hQ⟩ : ∃ Q, Q = 2 ^ l := ⟨_, rfl⟩
    have hPQ : P = 2 * Q := by rw [hP, hQ, Nat.pow_succ]; omega
    have hq0 : 0 < Q := by rw [hQ]; exact Nat.two_pow_pos l
    have n20 := t.n20
    have hb' := hb
    rw [← hP] at hb'
    have s0 : (2 : Int) ^ (l + 1) = (P : Int) := by rw [hP]; simp
    have s1 : (2 : Int) ^ l = (Q : Int) := by rw [hQ]; simp
    have s2 : IntKind.i64.wrap (P : Int) = (P : Int) := wrap_small _ (by omega) (by omega)
    have s3 : IntKind.i64.wrap ((P : Int) - 1) = (P : Int) - 1 := wrap_small _ (by omega) (by omega)
    have s4 := low_i64 b0 (l + 1) P (by omega) (by omega) hP
    have s5 : IntKind.i64.wrap (Q : Int) = (Q : Int) := wrap_small _ (by omega) (by omega)
    obtain ⟨b2, hb2⟩ : ∃ b2 : Nat, b0 + Q = b2 := ⟨_, rfl⟩
    have s6 : IntKind.i64.wrap ((b0 : Int) + (Q : Int)) = (b2 : Int) := by rw [wrap_small _ (by omega) (by omega)]; omega
    obtain ⟨l1, hl1⟩ : ∃ l1 : Nat, l + 1 = l1 := ⟨_, rfl⟩
    have s7 : IntKind.i64.wrap ((l1 : Int) - 1) = (l : Int) := by rw [wrap_small _ (by omega) (by omega)]; omega
    have k0 : (0 : Int) ≤ (l1 : Int) := by omega
    have k1 : (l1 : Int) ≤ 64 := by omega
    have k2 : (0 : Int) ≤ (l : Int) := by omega
    have k3 : (l : Int) ≤ 64 := by omega
    by_cases ha : b0 % P = 0
    · have e1 : Til.hs L (l + 1) (b0 / P) = Tree.root (Til.sg L b0 (b0 + 2 ^ (l + 1))) := by
        have h1 : b0 / P * P = b0 := by have := Nat.div_add_mod b0 P; rw [ha, Nat.add_zero, Nat.mul_comm] at this; exact this
        unfold Til.hs
        rw [← hP, Nat.add_mul, Nat.one_mul, h1]
      have hlt : b0 / P < Til.cn L.length (l + 1) := by
        unfold Til.cn
        rw [← hP, Nat.lt_div_iff_mul_lt (by omega)]
        have h1 : b0 / P * P = b0 := by have := Nat.div_add_mod b0 P; rw [ha, Nat.add_zero, Nat.mul_comm] at this; exact this
        rw [h1]; omega
      have hle := Nat.div_le_self b0 P
      obtain ⟨⟨b, es, t1, rfl⟩, _, _, g8, _, _⟩ := t
      have i1 := thash_any t1 g8 (l + 1) (b0 / P) (by omega) (by omega) (x := Til.hs L (l + 1) (b0 / P)) (by rw [Til.rf_nat, Til.row_at hlt])
      rw [e1] at i1
      have s8 : (b0 : Int) / (P : Int) = ((b0 / P : Nat) : Int) := by simp
      generalize Tree.root (Til.sg L b0 (b0 + 2 ^ (l + 1))) = R at *
      generalize b0 / P = b1 at *
      rw [ha] at s4
      rw [show ((0 : Nat) : Int) = 0 from rfl] at s4
      rw [hl1] at i1 s0 ⊢
      clear t1 Z ih hb2 hP hQ hPQ hb hb' hl1 hlt hle hq0 ha e1 s1 s5 s6 s7 hl n20 k2 k3
      go_enter Tryz.func143, Tryz.ntmps143
      go_wp2_with (go_at_call 137; refine i1.mono ?_; rintro r w2 ⟨rfl, hw2⟩)
      go_ret
      exact ⟨rfl, hw2⟩
    · have e1 := Til.root_two (L := L) (b := b0) (e := b0 + 2 ^ (l + 1)) (a := l) (by omega) (by rw [← hP, ← hQ]; omega) (by rw [← hP, ← hQ]; omega)
      have J1 := fun w' (bb : Below w.heap.size w w') => ih w' (t.below bb) b0 (by omega) (by rw [← hQ]; omega) (Z.below bb Z.lt)
      have J2 := fun w' (bb : Below w.heap.size w w') => ih w' (t.below bb) (b0 + Q) (by omega) (by rw [← hQ]; omega) (Z.below bb Z.lt)
      have e2 : b0 + Q + 2 ^ l = b0 + 2 ^ (l + 1) := by rw [← hP, ← hQ]; omega
      rw [e2] at J2
      rw [← hQ] at J1 e1
      obtain ⟨x, hx⟩ : ∃ x, Tree.root (Til.sg L b0 (b0 + Q)) = x := ⟨_, rfl⟩
      obtain ⟨y, hy⟩ : ∃ y, Tree.root (Til.sg L (b0 + Q) (b0 + 2 ^ (l + 1))) = y := ⟨_, rfl⟩
      rw [hx] at J1 e1
      rw [hy] at J2 e1
      rw [hb2] at J2
      generalize Tree.root (Til.sg L b0 (b0 + 2 ^ (l + 1))) = R at *
      have hnd : Hid (Tree.nd x y = R) := hid e1.symm
      have s9 : ((b0 % P : Nat) : Int) ≠ 0 := by omega
      generalize ((b0 % P : Nat) : Int) = rm at *
      have s10 : (rm == 0) = false := by simpa using s9
      have JN := fun w' (bb : Below w.heap.size w w') => tnode_any hnd w' (Z.below bb Z.lt).t
      have hd : Hid (Below w.heap.size w w.drew) := hid (Below.refl _ w).drew
      rw [hl1] at s0 ⊢
      clear t Z ih e1 hx hy e2 hb2 hP hQ hPQ hb hb' hl1 hq0 ha hl n20 s9
      go_enter Tryz.func143, Tryz.ntmps143
      go_wp2
      go_region_held3 (fun _ => True) (trivial) (first
        | (go_at_call 143; (with_reducible refine (J1 _ hd.out).mono ?_); rintro r w9 ⟨rfl, hw9⟩; have h9 := hid (hd.out.trans (hw9.mono hd.out.size)))
        | (go_at_call 143; (with_reducible refine (J2 _ h9.out).mono ?_); rintro r w10 ⟨rfl, hw10⟩; have h10 := hid (h9.out.trans (hw10.mono h9.out.size)))
        | (go_at_call 138; (with_reducible refine (JN _ h10.out).mono ?_); rintro r w11 ⟨rfl, hw11⟩; have h11 := hid (h10.out.trans (hw11.mono h10.out.size))))
      all_goals go_wp2
      all_goals go_ret
      all_goals exact ⟨rfl, h11.out⟩
end Go.Proofs.YtblmaokonhdjaaaGreatDoor
