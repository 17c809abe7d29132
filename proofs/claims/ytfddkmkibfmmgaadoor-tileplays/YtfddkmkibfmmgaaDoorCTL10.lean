import Derived.Test.YtfddkmkibfmmgaaDoorCTL8
import Derived.Carry
namespace Go.Proofs.YtfddkmkibfmmgaaDoor
open Go.RowKit
namespace Til
open Tree
theorem more_rf (L : List T) (h : Nat) (cnt : Nat → Nat) (l : Nat) : more (rf L h cnt) ((l : Int), ((cnt l / 2 ^ h : Nat) : Int)) (hs L l (cnt l)) = rf L h (up cnt l) := by
  funext p
  by_cases hp : p = ((l : Int), ((cnt l / 2 ^ h : Nat) : Int))
  · subst hp
    rw [more_same, rf_up_same]
  · rw [more_other hp, rf_up_other L h cnt l hp]
theorem gc_at (n k : Nat) : gc n k k = cn n k := by unfold gc; rw [if_neg (by omega)]
theorem gc_be (n k : Nat) : gc n (k + 1) k = cn (n + 1) k := by unfold gc; rw [if_pos (by omega)]
/-- what comes of two neighbours, as a leaf is taken -/
theorem grow_step {L : List T} {n k : Nat} (hL : L.length = n + 1) (hd : 2 ^ (k + 1) ∣ n + 1) : 1 ≤ cn n k ∧ cn (n + 1) k = cn n k + 1 ∧ hs L (k + 1) (cn n (k + 1)) = nd (hs L k (cn n k - 1)) (hs L k (cn n k)) := by
  have hd0 : 2 ^ k ∣ n + 1 := Nat.dvd_trans (Nat.pow_dvd_pow 2 (by omega)) hd
  have h1 := cn_more hd0
  have h2 := cn_more hd
  have hp := Nat.two_pow_pos k
  have e1 : cn (n + 1) k = 2 * cn (n + 1) (k + 1) := by
    unfold cn
    obtain ⟨c, hc⟩ := hd
    rw [hc, Nat.mul_div_cancel_left _ (Nat.two_pow_pos (k + 1)), Nat.pow_succ, Nat.mul_assoc, Nat.mul_div_cancel_left _ hp]
  refine ⟨by omega, h1, ?_⟩
  rw [hs_node (by have := cn_le (n + 1) (k + 1); rw [h2] at this; omega), show 2 * cn n (k + 1) = cn n k - 1 by omega, show cn n k - 1 + 1 = cn n k by omega]
theorem gc_row {L : List T} {h n k i : Nat} (hi : i < cn (n + 1) k) : (rf L h (gc n (k + 1)) ((k : Int), ((i / 2 ^ h : Nat) : Int)))[i % 2 ^ h]? = some (hs L k i) := by
  rw [rf_nat, gc_be]
  exact row_at hi
theorem rf_len (L : List T) (h : Nat) (hh : h ≤ 8) (cnt : Nat → Nat) (p : Int × Int) : (rf L h cnt p).length ≤ 2000000 := by
  have hp2 : 2 ^ h ≤ 256 := Nat.pow_le_pow_right (n := 2) (by omega) hh
  unfold rf
  split
  · rw [row_len]; omega
  · simp
theorem ctz_dvd {x : Nat} (h0 : x ≠ 0) (hx : x < 18446744073709551616) : ∃ c, Go.Lib.ctz 64 x = c ∧ c < 64 ∧ (∀ k, k ≤ c → 2 ^ k ∣ x) ∧ ¬ 2 ^ (c + 1) ∣ x := by
  have e1 : Go.Lib.ctz 64 x = Go.Lib.ctzFrom 64 x := by unfold Go.Lib.ctz; rw [if_neg h0]
  obtain ⟨m, hm, hc⟩ := Go.Lib.ctzFrom_spec 64 x (by omega) hx
  rw [e1]
  generalize Go.Lib.ctzFrom 64 x = c at *
  refine ⟨c, rfl, hc, fun k hk => ?_, fun ⟨d, hd⟩ => ?_⟩
  · rw [hm]
    exact Nat.dvd_trans (Nat.pow_dvd_pow 2 hk) (Nat.dvd_mul_right _ _)
  · rw [hm, Nat.pow_succ, Nat.mul_assoc] at hd
    have := Nat.eq_of_mul_eq_mul_left (Nat.two_pow_pos c) hd
    omega
end Til
theorem tnode_any {l r m : List UInt8} (h : Hid (Tree.nd l r = m)) (w : World) (T : Tabs w) :
    Calls Tryd.prog 65 #[sv l, sv r] w fun e w' => e = .returned (sv m) ∧ Below w.heap.size w w' := by
  obtain ⟨c, hc⟩ : ∃ c, Hid (nodeOf l r = (m, c)) := ⟨(nodeOf l r).2, by unfold Hid; rw [← h.out, ← nodeOf_nd]⟩
  go_enter Tryd.func65, Tryd.ntmps65
  go_wp2_with (go_at_call 12; refine (node_at hc w T).mono ?_; rintro e w1 ⟨rfl, hw1⟩)
  go_ret
  exact ⟨rfl, hw1⟩
theorem Mov.trans {F F' F'' : Nat → Prop} {w w1 w2 : World} (h : Mov F w w1 F') (k : Mov F' w1 w2 F'') : Mov F w w2 F'' := by
  refine ⟨h.keep.trans k.keep fun j hj e => ?_, fun j hj => ?_⟩
  · rcases h.new j e with e | e
    · exact e
    · omega
  · rcases k.new j hj with e | e
    · exact h.new j e
    · exact .inr (Nat.le_trans h.keep.size e)
theorem Mov.ofBelow {F : Nat → Prop} {w w' : World} (h : Below w.heap.size w w') : Mov F w w' F := ⟨Keep.ofBelow h, fun _ e => .inl e⟩
/-- t.size++ -/
theorem Tr.sized {w : World} {q b h s : Nat} {es : List ((Int × Int) × Value)} {R : Int × Int → List (List UInt8)} (t : Tr w q b h s es R) (s' : Nat) : Tr (w.setCell ⟨q, 1, none⟩ (.int .i64 (s' : Int))) q b h s' es R ∧ Mov (Fb q b es) w (w.setCell ⟨q, 1, none⟩ (.int .i64 (s' : Int))) (Fb q b es) := by
  have k1 := Keep.ofSet (S := fun k => k = q) w q 1 (.int .i64 (s' : Int)) rfl
  have e : ∀ k, k < w.heap.size → k ≠ q → (w.setCell ⟨q, 1, none⟩ (.int .i64 (s' : Int))).heap[k]? = w.heap[k]? := fun k hk hne => k1.block k hk hne
  refine ⟨⟨heap_setCell_same w q 1 _ _ _ t.row, t.mp.heap (e b t.mp.lt (Ne.symm t.qb)), t.qb, fun p v hm => ⟨?_, (t.el p v hm).2⟩, t.no, t.apart⟩, ⟨k1.mono fun k _ e => .inl e, fun _ e => .inl e⟩⟩
  exact (t.el p v hm).1.kept k1.size fun g hg => e g ((t.el p v hm).1.ltS g hg) ((t.el p v hm).2 g hg).1
theorem Tr.tabs {w w' : World} {F F' : Nat → Prop} (T : Tabs w) (hm : Mov F w w' F') (hF : ∀ k, F k → 4 ≤ k) : Tabs w' := T.below (hm.below T.lt hF).1 (Nat.le_refl _)
end Go.Proofs.YtfddkmkibfmmgaaDoor

namespace Go.Proofs.YtfddkmkibfmmgaaDoor
open Go.RowKit
theorem keep_lvl {w : World} {q b h n k : Nat} {es : List ((Int × Int) × Value)} {L : List (List UInt8)} (t : Tr w q b h (n + 1) es (Til.rf L h (Til.gc n k))) (hh : h ≤ 8) (hk : k ≤ 60) (hn : n < 4611686018427387903) (hd : 2 ^ k ∣ n + 1) {x : List UInt8} (hx : Til.hs L k (Til.cn n k) = x) :
    Calls Tryd.prog 63 #[.pointer (some ⟨q, 0, none⟩), .int .i64 (k : Int), sv x] w fun r w' => r = .returned (.tuple #[]) ∧ ∃ es', Tr w' q b h (n + 1) es' (Til.rf L h (Til.gc n (k + 1))) ∧ Mov (Fb q b es) w w' (Fb q b es') := by
  have h1 := tkeep_any t hh k (Til.cn n k) hk (by omega) (Til.cn_more hd) x (Til.rf_len L h hh _ _)
  have h2 := Til.more_rf L h (Til.gc n k) k
  rw [Til.gc_at, hx, Til.gc_up hd] at h2
  rw [h2] at h1
  exact h1
set_option maxRecDepth 100000 in
set_option maxHeartbeats 4000000 in
theorem tgrow_any {w : World} {q b h n : Nat} {es : List ((Int × Int) × Value)} {L : List (List UInt8)} (t : Tr w q b h n es (Til.rf L h (Til.cn n))) (hL : L.length = n) (hn : n < 1099511627776) (hh : h ≤ 8) (x : List UInt8) (Z : Tb w) (hF : ∀ k, Fb q b es k → 4 ≤ k) :
    Calls Tryd.prog 39 #[.pointer (some ⟨q, 0, none⟩), sv x] w fun r w' => r = .returned (.tuple #[]) ∧ ∃ es', Tr w' q b h (n + 1) es' (Til.rf (L ++ [x]) h (Til.cn (n + 1))) ∧ Mov (Fb q b es) w w' (Fb q b es') := by
  have R0 : Til.rf L h (Til.cn n) = Til.rf (L ++ [x]) h (Til.gc n 0) := by
    rw [Til.gc_zero]
    exact (funext fun p => Til.rf_append (fun l => by rw [hL]; exact Til.cn_le n l) p).symm
  rw [R0] at t
  have hx0 : Til.hs (L ++ [x]) 0 (Til.cn n 0) = x := by
    have : Til.cn n 0 = n := by unfold Til.cn; rw [Nat.pow_zero, Nat.div_one]
    rw [this, Til.hs_leaf (by rw [List.length_append, hL]; simp)]
    simp [← hL]
  have hL' : (L ++ [x]).length = n + 1 := by rw [List.length_append, hL]; rfl
  obtain ⟨t1, m1⟩ := t.sized (n + 1)
  have K0 := keep_lvl t1 hh (k := 0) (by omega) (by omega) (by rw [Nat.pow_zero]; exact Nat.one_dvd _) hx0
  rw [show ((0 : Nat) : Int) = 0 from rfl] at K0
  have HX0 := hid hx0
  generalize hLx : L ++ [x] = L' at *
  have q1 := t.c1
  have f1 := t.f1
  obtain ⟨n1, hn1⟩ : ∃ n1 : Nat, n + 1 = n1 := ⟨_, rfl⟩
  have w1e : IntKind.i64.wrap ((n : Int) + 1) = (n1 : Int) := by rw [wrap_small _ (by omega) (by omega)]; omega
  obtain ⟨c, hc, hc64, hdv, hnd⟩ := Til.ctz_dvd (x := n1) (by omega) (by omega)
  have u1 : IntKind.u64.wrap (n1 : Int) = (n1 : Int) := by rw [IntKind.wrap_u64]; omega
  have tz := fun w' (Z : Tb w') => tz_any n1 (by omega) w' Z.z
  rw [hc] at tz
  have hqlt : q < w.heap.size := t.lt q (.inl rfl)
  have M1 := hid m1
  have HN1 := hid hn1
  have HL' := hid hL'
  have HF := hid hF
  have HZ := hid Z
  rw [hn1] at t1 K0 M1
  obtain ⟨w1, hw1⟩ : ∃ w1, w.setCell ⟨q, 1, none⟩ (.int .i64 (n1 : Int)) = w1 := ⟨_, rfl⟩
  rw [hw1] at t1 K0 M1
  have hc40 : c ≤ 40 := by
    have h2 := Nat.le_of_dvd (by omega) (hdv c (Nat.le_refl _))
    have h3 : 2 ^ c < 2 ^ 41 := by omega
    have := (Nat.pow_lt_pow_iff_right (a := 2) (by omega)).1 h3
    omega
  clear t hF Z m1 hL' R0 hx0 hLx hc
  have T1 := hid t1
  clear t1
  go_enter Tryd.func39, Tryd.ntmps39
  go_wp2_with (go_at_call 63; fail)
  refine K0.mono ?_
  rintro e w2 ⟨rfl, es2, t2, m2⟩
  have M2 := hid (M1.out.trans m2)
  have T2 := hid t2
  have Z2 := hid (HZ.out.below (M2.out.below HZ.out.lt HF.out).1 (Nat.le_refl _))
  have q2 := t2.c1
  clear m2 t2 K0 M1 T1
  go_wp2_with (go_at_call 64; refine (tz _ Z2.out).mono ?_; rintro e w3 ⟨rfl, rfl⟩)
  obtain ⟨w2, rfl⟩ : ∃ w2, w2 = w3 := ⟨_, rfl⟩
  clear q2 tz hw1
  go_loopw [24, 4] (fun i hv w' => ∃ (k : Nat) (es' : List ((Int × Int) × Value)) (y : List UInt8), i = .int .i64 (k : Int) ∧ k ≤ c ∧ hv = sv y ∧ Hid (Til.hs L' k (Til.cn n k) = y) ∧ Hid (Tr w' q b h n1 es' (Til.rf L' h (Til.gc n (k + 1)))) ∧ Hid (Mov (Fb q b es) w w' (Fb q b es'))) (fun i _ _ => c - (intOf i).toNat)
  case atStart => exact ⟨0, es2, x, rfl, by omega, rfl, HX0, T2, M2⟩
  case round =>
    clear T2 M2 Z2 HX0
    obtain ⟨k, es', y, rfl, hk, rfl, hy, hT, hM⟩ := hrel
    by_cases hkc : k < c
    · have c0 : (k : Int) < (c : Int) := by omega
      obtain ⟨g1, g2, g3⟩ := Til.grow_step (L := L') (n := n) (k := k) HL'.out (by rw [HN1.out]; exact hdv (k + 1) (by omega))
      rw [HN1.out] at g2
      have g4 := Til.gc_row (L := L') (h := h) (n := n) (k := k) (i := Til.cn n k - 1) (by rw [HN1.out, g2]; omega)
      have Zr := hid (HZ.out.below (hM.out.below HZ.out.lt HF.out).1 (Nat.le_refl _))
      have q1 := hT.out.c1
      have hck : Til.cn n k ≤ n := Nat.div_le_self _ _
      obtain ⟨ck, hck2⟩ : ∃ ck, Til.cn n k = ck + 1 := ⟨Til.cn n k - 1, by omega⟩
      rw [hck2, Nat.add_sub_cancel] at g4
      have hl := thash_any hT.out hh k ck (by omega) (by omega) g4
      have s1 : (n1 : Int) / 2 ^ k = (ck : Int) + 2 := by
        have h1 : ((n1 / 2 ^ k : Nat) : Int) = (ck : Int) + 2 := by
          have : n1 / 2 ^ k = ck + 2 := by have := g2; unfold Til.cn at this hck2; omega
          rw [this]; simp
        rw [← h1]; simp
      have s2 : (ck : Int) + 2 - 2 = (ck : Int) := by omega
      have s3 : IntKind.i64.wrap (ck : Int) = (ck : Int) := wrap_small _ (by omega) (by omega)
      have l0 : (0 : Int) ≤ (k : Int) := by omega
      have l1 : (k : Int) ≤ 64 := by omega
      have l2 : IntKind.i64.wrap ((k : Int) + 1) = ((k + 1 : Nat) : Int) := by rw [wrap_small _ (by omega) (by omega)]; omega
      rw [hck2, Nat.add_sub_cancel] at g3
      obtain ⟨lh, hlh⟩ : ∃ lh, Hid (Til.hs L' k ck = lh) := ⟨_, rfl⟩
      have hy2 : Til.hs L' k (ck + 1) = y := by rw [← hck2]; exact hy.out
      rw [hlh.out, hy2] at g3
      rw [hlh.out] at hl
      obtain ⟨y', hy'⟩ : ∃ y', Hid (Tree.nd lh y = y') := ⟨_, rfl⟩
      rw [hy'.out] at g3
      have HY' := hid g3
      clear g1 g2 g3 g4 hck hy hy2 hck2 hlh
      go_wp2_with (go_at_call 35; fail)
      refine hl.mono ?_
      rintro e w4 ⟨rfl, hw4⟩
      have Z4 := hid (Zr.out.below hw4 Zr.out.lt)
      have T4 := hT.out.below hw4
      have N4 := tnode_any hy' w4 Z4.out.t
      clear hl q1
      go_wp2_with (go_at_call 65; fail)
      refine N4.mono ?_
      rintro e w5 ⟨rfl, hw5⟩
      have b5 := hw4.trans (hw5.mono hw4.size)
      have T5 := hT.out.below b5
      rw [← HN1.out] at T5
      have K5 := keep_lvl T5 hh (k := k + 1) (by omega) (by omega) (by rw [HN1.out]; exact hdv (k + 1) (by omega)) HY'.out
      rw [HN1.out] at K5
      have M5 := hid (hM.out.trans (Mov.ofBelow (F := Fb q b es') b5))
      clear N4 hw4 hw5 b5 T4 T5 hT hM Zr Z4
      go_wp2_with (go_at_call 63; fail)
      refine K5.mono ?_
      rintro e w6 ⟨rfl, es6, t6, m6⟩
      have M6 := hid (M5.out.trans m6)
      have T6 := hid t6
      clear K5 M5 m6 t6
      go_wp2
      exact ⟨⟨k + 1, es6, y', by go_num, by omega, rfl, HY', T6, M6⟩, by simp [intOf]; omega⟩
    · obtain rfl : k = c := by omega
      have c0 : ¬ (k : Int) < (k : Int) := by omega
      go_wp2
      go_end0
      refine ⟨rfl, es', ?_, hM.out⟩
      have h1 := hT.out
      rw [Til.gc_end (by rw [HN1.out]; exact hnd), HN1.out] at h1
      exact h1
end Go.Proofs.YtfddkmkibfmmgaaDoor

namespace Go.Proofs.YtfddkmkibfmmgaaDoor
open Go.RowKit
/-- a tree of these leaves, and its blocks -/
structure TrL (w : World) (q h : Nat) (L : List (List UInt8)) (F : Nat → Prop) : Prop where
  ex : ∃ b es, Tr w q b h L.length es (Til.rf L h (Til.cn L.length)) ∧ F = Fb q b es
  hs : Tree.Hs L
  h1 : 1 ≤ h
  h8 : h ≤ 8
  low : ∀ k, F k → 4 ≤ k
  n20 : L.length ≤ 1048576
theorem TrL.keep {w w' : World} {q h : Nat} {L : List (List UInt8)} {F S : Nat → Prop} (t : TrL w q h L F) (hk : Keep S w w') (hd : ∀ k, F k → ¬ S k) : TrL w' q h L F := by
  obtain ⟨⟨b, es, t1, rfl⟩, h2, h3, h4, h5, h6⟩ := t
  exact ⟨⟨b, es, t1.keep hk hd, rfl⟩, h2, h3, h4, h5, h6⟩
theorem TrL.below {w w' : World} {q h : Nat} {L : List (List UInt8)} {F : Nat → Prop} (t : TrL w q h L F) (hb : Below w.heap.size w w') : TrL w' q h L F := by
  obtain ⟨⟨b, es, t1, rfl⟩, h2, h3, h4, h5, h6⟩ := t
  exact ⟨⟨b, es, t1.below hb, rfl⟩, h2, h3, h4, h5, h6⟩
theorem TrL.lt {w : World} {q h : Nat} {L : List (List UInt8)} {F : Nat → Prop} (t : TrL w q h L F) : ∀ k, F k → k < w.heap.size := by
  obtain ⟨⟨b, es, t1, rfl⟩, h2, h3, h4, h5, h6⟩ := t
  exact t1.lt
theorem TrL.mov {w w' : World} {q h : Nat} {L : List (List UInt8)} {F G G' : Nat → Prop} (t : TrL w q h L F) (hm : Mov G w w' G') (hd : ∀ k, F k → ¬ G k) : TrL w' q h L F ∧ ∀ k, F k → ¬ G' k :=
  ⟨t.keep hm.keep hd, fun k hk e => by
    rcases hm.new k e with e | e
    · exact hd k hk e
    · have := t.lt k hk; omega⟩
theorem tSizeL {w : World} {q h : Nat} {L : List (List UInt8)} {F : Nat → Prop} (t : TrL w q h L F) : Calls Tryd.prog 10 #[.pointer (some ⟨q, 0, none⟩)] w fun r w' => r = .returned (.int .i64 (L.length : Int)) ∧ w' = w := by
  obtain ⟨⟨b, es, t1, rfl⟩, h2, h3, h4, h5, h6⟩ := t
  exact tSize_any t1
theorem tHeightL {w : World} {q h : Nat} {L : List (List UInt8)} {F : Nat → Prop} (t : TrL w q h L F) : Calls Tryd.prog 9 #[.pointer (some ⟨q, 0, none⟩)] w fun r w' => r = .returned (.int .i64 (h : Int)) ∧ w' = w := by
  obtain ⟨⟨b, es, t1, rfl⟩, h2, h3, h4, h5, h6⟩ := t
  exact tHeight_any t1
set_option maxRecDepth 100000 in
theorem tNew_any (h : Nat) (h1 : 1 ≤ h) (h8 : h ≤ 8) (w : World) (hT : 4 ≤ w.heap.size) : Calls Tryd.prog 27 #[.int .i64 (h : Int)] w fun r w' => ∃ q F, r = .returned (.tuple #[.pointer (some ⟨q, 0, none⟩), .int .i64 0]) ∧ TrL w' q h [] F ∧ (∀ k, F k → w.heap.size ≤ k) ∧ Below w.heap.size w w' := by
  have c0 : ¬ (h : Int) < 1 := by omega
  have c1 : ¬ (h : Int) > 8 := by omega
  have c2 : ¬ 8 < (h : Int) := by omega
  have hmm := @run_makeMap Tryd.prog
  go_enter Tryd.func27, Tryd.ntmps27
  go_wp2
  go_ret2
  have b1 := (Below.refl w.heap.size w).alloc (Nat.le_refl _) (.map #[] 0)
  have z1 := size_alloc w (.map #[] 0)
  have b2 := (Below.refl (w.heap.size + 1) (w.alloc (.map #[] 0))).alloc (by omega) (.cells #[Value.int .i64 (h : Int), .int .i64 0, .map (some w.heap.size)] 73)
  have r2 := heap_alloc_at (w.alloc (.map #[] 0)) (.cells #[Value.int .i64 (h : Int), .int .i64 0, .map (some w.heap.size)] 73) (w.heap.size + 1) z1
  have hF : ∀ k, Fb (w.heap.size + 1) w.heap.size [] k → w.heap.size ≤ k := fun k hk => by
    rcases hk with hk | hk | ⟨p, v, hm, _⟩
    · omega
    · omega
    · cases hm
  refine ⟨w.heap.size + 1, rfl, _, ⟨⟨w.heap.size, [], ⟨r2, (Mp.new w).heap (b2.block _ (by omega)), by omega, fun p v hm => (by cases hm), fun p _ => ?_, fun p v p' v' k hm => (by cases hm)⟩, rfl⟩, fun x hx => (by cases hx), h1, h8, fun k hk => Nat.le_trans hT (hF k hk), by simp⟩, hF, b1.trans (b2.mono (by omega))⟩
  unfold Til.rf
  split
  · apply List.eq_nil_of_length_eq_zero
    rw [Til.row_len]
    simp [Til.cn]
  · rfl
set_option maxRecDepth 100000 in
theorem tNew_bad (h : Int) (h1 : h < 1 ∨ 8 < h) (w : World) : Calls Tryd.prog 27 #[.int .i64 h] w fun r w' => r = .returned (.tuple #[.pointer none, .int .i64 70]) ∧ w' = w := by
  by_cases hc : h < 1
  · go_enter Tryd.func27, Tryd.ntmps27
    go_wp2
    go_ret2
    exact ⟨rfl, rfl⟩
  · have c1 : h > 8 := by omega
    go_enter Tryd.func27, Tryd.ntmps27
    go_wp2
    go_ret2
    exact ⟨rfl, rfl⟩
set_option maxRecDepth 100000 in
theorem tAdd_bad (q : Nat) (x : List UInt8) (hx : x.length ≠ 32) (w : World) : Calls Tryd.prog 17 #[.pointer (some ⟨q, 0, none⟩), sv x] w fun r w' => r = .returned (.int .i64 71) ∧ w' = w := by
  have hs := sv_size x
  have c0 : (((ByteArray.mk x.toArray).size : Int) != 32) = true := by rw [hs]; simp; omega
  show Calls _ _ #[_, .string ⟨x.toArray⟩] _ _
  go_enter Tryd.func17, Tryd.ntmps17
  go_wp2
  go_ret
  exact ⟨rfl, rfl⟩
set_option maxRecDepth 100000 in
set_option maxHeartbeats 1000000 in
theorem tAdd_any {w : World} {q h : Nat} {L : List (List UInt8)} {F : Nat → Prop} (t : TrL w q h L F) (x : List UInt8) (hx : x.length = 32) (hn : L.length < 1048576) (Z : Tb w) : Calls Tryd.prog 17 #[.pointer (some ⟨q, 0, none⟩), sv x] w fun r w' => r = .returned (.int .i64 0) ∧ ∃ F', TrL w' q h (L ++ [x]) F' ∧ Mov F w w' F' := by
  have hs := sv_size x
  have c0 : (((ByteArray.mk x.toArray).size : Int) != 32) = false := by rw [hs, hx]; rfl
  have hsx : Tree.Hs (L ++ [x]) := fun y hy => by
    rcases List.mem_append.1 hy with hy | hy
    · exact t.hs y hy
    · rw [List.mem_singleton.1 hy]; exact hx
  have i1 := tHeightL t
  obtain ⟨⟨b, es, t1, rfl⟩, _, g1, g8, glow, _⟩ := t
  have G := tgrow_any t1 rfl (by omega) g8 x Z glow
  have q1 := t1.c1
  obtain ⟨n, hL⟩ : ∃ n, L.length = n := ⟨_, rfl⟩
  rw [hL] at hn G q1
  have c1 : ((h : Int) == 0) = false := by simp; omega
  have c2 : ((n : Int) == 1048576) = false := by simp; omega
  have hT := Z.lt
  clear t1 Z hs
  rw [show sv x = Value.string ⟨x.toArray⟩ from rfl] at G ⊢
  go_enter Tryd.func17, Tryd.ntmps17
  go_wp2_with (first
    | (go_at_call 9; refine i1.mono ?_; rintro r w1 ⟨rfl, rfl⟩)
    | (go_at_call 39; refine G.mono ?_; rintro r w2 ⟨rfl, es2, t2, m2⟩))
  go_ret
  refine ⟨rfl, _, ⟨⟨b, es2, ?_, rfl⟩, hsx, g1, g8, (m2.below hT glow).2, ?_⟩, m2⟩
  · have e : (L ++ [x]).length = n + 1 := by rw [List.length_append, hL]; rfl
    rw [e]; exact t2
  · rw [List.length_append, hL]; simp; omega
end Go.Proofs.YtfddkmkibfmmgaaDoor

namespace Go.Proofs.YtfddkmkibfmmgaaDoor
open Go.RowKit
set_option maxRecDepth 100000 in
set_option maxHeartbeats 2000000 in
theorem isComplete_nat {w : World} {q h : Nat} {L : List (List UInt8)} {F : Nat → Prop} (t : TrL w q h L F) (l i : Nat) (hl : l ≤ 64) (c : Bool) (hc : decide (i < L.length / 2 ^ l) = c) :
    Calls Tryd.prog 34 #[.pointer (some ⟨q, 0, none⟩), .agg #[.int .i64 (l : Int), .int .i64 (i : Int)]] w fun r w' => r = .returned (.bool c) ∧ Below w.heap.size w w' := by
  obtain ⟨w1, hw1⟩ : ∃ w1, w.alloc (.cells #[Value.int .i64 (l : Int), .int .i64 (i : Int)] 31) = w1 := ⟨_, rfl⟩
  have b1 := (Below.refl w.heap.size w).alloc (Nat.le_refl _) (.cells #[Value.int .i64 (l : Int), .int .i64 (i : Int)] 31)
  have r1 := heap_alloc_new w (.cells #[Value.int .i64 (l : Int), .int .i64 (i : Int)] 31)
  rw [hw1] at b1 r1
  have S0 : w1.cell? ⟨w.heap.size, 0, none⟩ = some (.int .i64 (l : Int)) ∧ w1.cell? ⟨w.heap.size, 1, none⟩ = some (.int .i64 (i : Int)) := ⟨by rw [cell_of_row _ _ _ _ _ _ r1]; rfl, by rw [cell_of_row _ _ _ _ _ _ r1]; rfl⟩
  have T1 := t.below b1
  have i1 := tSizeL (T1.below (Below.refl w1.heap.size w1).drew)
  have B1 := hid b1
  obtain ⟨n, hn⟩ : ∃ n, L.length = n := ⟨_, rfl⟩
  rw [hn] at i1 hc
  have c0 : (0 : Int) ≤ (l : Int) := by omega
  have c1 : (0 : Int) ≤ (i : Int) := by omega
  have c2 : (l : Int) ≤ 64 := by omega
  have s1 : (n : Int) / 2 ^ l = ((n / 2 ^ l : Nat) : Int) := by simp
  generalize n / 2 ^ l = m at *
  have c3 : decide ((i : Int) < (m : Int)) = c := by rw [← hc]; exact decide_eq_decide.2 (by omega)
  have HC := hid hc
  clear t T1 b1 r1 hc
  go_enter Tryd.func34, Tryd.ntmps34
  go_wp2
  go_region_held3 (fun w' => w'.cell? ⟨w.heap.size, 0, none⟩ = some (.int .i64 (l : Int)) ∧ w'.cell? ⟨w.heap.size, 1, none⟩ = some (.int .i64 (i : Int))) (exact S0) ((go_at_call 10; refine i1.mono ?_; rintro r w9 ⟨rfl, rfl⟩))
  go_wp2
  go_ret
  exact ⟨by rw [← HC.out]; rfl, B1.out.drew⟩
set_option maxRecDepth 100000 in
set_option maxHeartbeats 2000000 in
theorem tHash_ok {w : World} {q h : Nat} {L : List (List UInt8)} {F : Nat → Prop} (t : TrL w q h L F) (l i : Nat) (hl : l ≤ 64) (hi : i < L.length / 2 ^ l) {x : List UInt8} (hx : Til.hs L l i = x) :
    Calls Tryd.prog 11 #[.pointer (some ⟨q, 0, none⟩), .agg #[.int .i64 (l : Int), .int .i64 (i : Int)]] w fun r w' => r = .returned (.tuple #[sv x, .int .i64 0]) ∧ Below w.heap.size w w' := by
  obtain ⟨w1, hw1⟩ : ∃ w1, w.alloc (.cells #[Value.int .i64 (l : Int), .int .i64 (i : Int)] 31) = w1 := ⟨_, rfl⟩
  have b1 := (Below.refl w.heap.size w).alloc (Nat.le_refl _) (.cells #[Value.int .i64 (l : Int), .int .i64 (i : Int)] 31)
  have r1 := heap_alloc_new w (.cells #[Value.int .i64 (l : Int), .int .i64 (i : Int)] 31)
  rw [hw1] at b1 r1
  have c0 : w1.cell? ⟨w.heap.size, 0, none⟩ = some (.int .i64 (l : Int)) := by rw [cell_of_row _ _ _ _ _ _ r1]; rfl
  have c1 : w1.cell? ⟨w.heap.size, 1, none⟩ = some (.int .i64 (i : Int)) := by rw [cell_of_row _ _ _ _ _ _ r1]; rfl
  have T1 := t.below b1
  have i1 := isComplete_nat T1 l i hl true (by simpa using hi)
  have hil : i < 4611686018427387904 := by have := Nat.div_le_self L.length (2 ^ l); have := t.n20; omega
  obtain ⟨⟨b, es, t1, rfl⟩, _, _, g8, _, _⟩ := T1
  have i2 := fun w' (bb : Below w1.heap.size w1 w') => thash_any (t1.below bb) g8 l i (by omega) hil (x := x) (by rw [Til.rf_nat, Til.row_at (by exact hi), hx])
  have B1 := hid b1
  have hlt : w.heap.size < w1.heap.size := lt_of_heap r1
  clear t t1 b1 r1 hi hil
  go_enter Tryd.func11, Tryd.ntmps11
  go_wp2_with (go_at_call 34; fail)
  refine i1.mono ?_
  rintro r w2 ⟨rfl, hw2⟩
  have d0 := (hw2.cell (p := ⟨w.heap.size, 0, none⟩) hlt).trans c0
  have d1 := (hw2.cell (p := ⟨w.heap.size, 1, none⟩) hlt).trans c1
  have i3 := i2 w2 hw2
  clear i1 i2 c0 c1
  go_wp2_with (go_at_call 35; refine i3.mono ?_; rintro r w3 ⟨rfl, hw3⟩)
  go_ret2
  exact ⟨rfl, B1.out.trans ((hw2.trans (hw3.mono hw2.size)).mono B1.out.size)⟩
set_option maxRecDepth 100000 in
set_option maxHeartbeats 2000000 in
theorem tHash_none {w : World} {q h : Nat} {L : List (List UInt8)} {F : Nat → Prop} (t : TrL w q h L F) (l i : Nat) (hl : l ≤ 64) (hi : ¬ i < L.length / 2 ^ l) :
    Calls Tryd.prog 11 #[.pointer (some ⟨q, 0, none⟩), .agg #[.int .i64 (l : Int), .int .i64 (i : Int)]] w fun r w' => r = .returned (.tuple #[.string ⟨#[]⟩, .int .i64 72]) ∧ Below w.heap.size w w' := by
  obtain ⟨w1, hw1⟩ : ∃ w1, w.alloc (.cells #[Value.int .i64 (l : Int), .int .i64 (i : Int)] 31) = w1 := ⟨_, rfl⟩
  have b1 := (Below.refl w.heap.size w).alloc (Nat.le_refl _) (.cells #[Value.int .i64 (l : Int), .int .i64 (i : Int)] 31)
  have r1 := heap_alloc_new w (.cells #[Value.int .i64 (l : Int), .int .i64 (i : Int)] 31)
  rw [hw1] at b1 r1
  have c0 : w1.cell? ⟨w.heap.size, 0, none⟩ = some (.int .i64 (l : Int)) := by rw [cell_of_row _ _ _ _ _ _ r1]; rfl
  have c1 : w1.cell? ⟨w.heap.size, 1, none⟩ = some (.int .i64 (i : Int)) := by rw [cell_of_row _ _ _ _ _ _ r1]; rfl
  have i1 := isComplete_nat (t.below b1) l i hl false (by simpa using hi)
  have B1 := hid b1
  clear t b1 r1 hi
  go_enter Tryd.func11, Tryd.ntmps11
  go_wp2_with (go_at_call 34; refine i1.mono ?_; rintro r w2 ⟨rfl, hw2⟩)
  go_ret2
  exact ⟨rfl, B1.out.trans (hw2.mono B1.out.size)⟩
end Go.Proofs.YtfddkmkibfmmgaaDoor
