import Derived.Test.YtkamjpjmdibfgaaPkKS7
/- Layer 15, the law: play, the other kinds; play_any -/
namespace Go.Proofs.Ytkamjpjmdibfgaa
open Go.RowKit Go.Maps
namespace Kc
set_option maxRecDepth 1000000 in
set_option maxHeartbeats 8000000 in
theorem play_keys {w : World} {a : Nat} {g : Option Nat} {x : Nat} {v : Value} {B c : Nat} {L : List En} {f m o : Nat} (h : Pr w a g x v B c L f m o) (hc : c ≤ 1000) (O : Bool) (N : Int) (k y : List UInt8) :
    Calls Try.prog 8 #[.agg #[.pointer (some ⟨a, 0, none⟩), .pointer (some ⟨x, 0, none⟩)], .agg #[.bool O, .int .i64 6, .int .i64 N, .string ⟨k.toArray⟩, .string ⟨y.toArray⟩]] w fun r w' => r = .returned (.bool true) ∧ Pw w a g x v B L (c + 1) w' := by
  obtain ⟨w1, hw1⟩ : ∃ w1, w.alloc (.cells #[.pointer (some ⟨a, 0, none⟩), .pointer (some ⟨x, 0, none⟩)] 33) = w1 := ⟨_, rfl⟩
  obtain ⟨q, hq⟩ : ∃ q, w.heap.size = q := ⟨_, rfl⟩
  obtain ⟨w2, hw2⟩ : ∃ w2, w1.alloc (.cells #[.bool O, .int .i64 6, .int .i64 N, .string ⟨k.toArray⟩, .string ⟨y.toArray⟩] 35) = w2 := ⟨_, rfl⟩
  obtain ⟨p, hp⟩ : ∃ p, w1.heap.size = p := ⟨_, rfl⟩
  have s1 : p = q + 1 := by rw [← hp, ← hw1, size_alloc, hq]
  have b1 : Below w.heap.size w w1 := by rw [← hw1]; exact (Below.refl _ _).alloc (Nat.le_refl _) _
  have b12 : Below w1.heap.size w1 w2 := by rw [← hw2]; exact (Below.refl _ _).alloc (Nat.le_refl _) _
  have b2 : Below w.heap.size w w2 := b1.trans (b12.mono b1.size)
  have V2 : Pv w2 q p a x O 6 N ⟨k.toArray⟩ ⟨y.toArray⟩ := by
    refine ⟨?_, ?_⟩
    · rw [b12.block q (by omega), ← hw1, ← hq]; exact heap_alloc_new w _
    · rw [← hw2, ← hp]; exact heap_alloc_new w1 _
  have P2 := h.below b2
  have nq : ¬ Fw a g L x v q := fun e => by have := h.lt q e; omega
  have np : ¬ Fw a g L x v p := fun e => by have := h.lt p e; omega
  have VK : Hid (∀ w', Keep (Fw a g L x v) w2 w' → Pv w' q p a x O 6 N ⟨k.toArray⟩ ⟨y.toArray⟩) := fun w' hk => V2.keep hk nq np
  have BK : Hid (∀ w', Pw w2 a g x v B L (c + 1) w' → Pw w a g x v B L (c + 1) w') := fun w' hw => Pw.trans (keep_below b2) (fun _ h => .inl h) hw
  have hb0 := P2.ch.cb
  have i1 := pkeys_any P2.ch P2.rf (by omega)
  have PR := hid (Pw.refl P2)
  obtain ⟨x0, x1, _kk, kn, ky, kv⟩ := V2.cs
  have HW1 := hid hw1
  have HW2 := hid hw2
  have HQ := hid hq
  have HP := hid s1
  have HC := hid hc
  clear P2 hb0
  clear hw1 hw2 hq hp s1 b1 b12 b2 V2 nq np h hc
  generalize hKB : (ByteArray.mk k.toArray) = KB at *
  generalize hYB : (ByteArray.mk y.toArray) = YB at *
  clear hKB hYB
  go_enter Try.func8, Try.ntmps8
  go_upto_region 1 with fail
  rw [HW1.out, HQ.out, ← HP.out, HW2.out]
  go_upto_region 32 with (go_at_call 9; (with_reducible refine i1.mono ?_); rintro r w4 ⟨rfl, b4⟩; have PE := hid ((PR.out.below b4).mono (Nat.le_succ c)); clear i1 b4)
  clear x0 x1 kn ky kv
  obtain ⟨g', v', L', f', m', o', R1, R2, R3⟩ := PE.out
  have hb := R1.ch.cb
  have hbu := R1.ch.bu
  have htt := R1.ch.tt
  have hc := HC.out
  have VE := VK.out _ R2
  have j := play_end R1.ch R1.rf (by omega) (by omega) (by omega) (by omega) VE.r1
  clear hb hbu htt hc VE 
  refine wp_normal (j _ _ _ _ _ _ _ _ _ _ _ _ _ _ _ _ _ _ _ _ _ _ _ _ _ _ _ _ _ _ _ _ _ _ _ _ _ _ _ _ _ _ _ _ _ _ _ _ _ _ _ _ _ _ _ _ _ _ _ _ _ _ _ _ _ _ _ _ _ _ _ _ _ _ _ _ _ _ _ _ _ _ _ _ _ _ _ _ _ _ _ _ _ _ _ _ _ _ _ _ _ _ _ _ _ _ _ _ _ _ _ _ _ _ _ _ _ _ _ _ _ _ _ _ _ _ _ _ _ _ _ _ _ _ _ _ _ _ _ _ _ _ _ _ _ _ _ _ _ _ _ _ _ _ _ _ _ _ _ _ _ _ _ _ _ _ _ _ _ _ _ _ ?_)
  intro _ _ _ _ _ _ _ _ _ _ _ _ _ _ _ _ _ _ _ wz bz
  have PZ := hid (BK.out _ (PE.out.below bz))
  go_wp2
  go_ret
  exact ⟨rfl, PZ.out⟩
set_option maxRecDepth 1000000 in
set_option maxHeartbeats 8000000 in
theorem play_none {w : World} {a : Nat} {g : Option Nat} {x : Nat} {v : Value} {B c : Nat} {L : List En} {f m o : Nat} (h : Pr w a g x v B c L f m o) (hc : c ≤ 1000) (O : Bool) (N : Int) (k y : List UInt8) (K : Int) (h1 : ¬ K = 1) (h2 : ¬ K = 2) (h3 : ¬ K = 3) (h4 : ¬ K = 4) (h5 : ¬ K = 5) (h6 : ¬ K = 6) (h7 : ¬ K = 7) (h8 : ¬ K = 8) :
    Calls Try.prog 8 #[.agg #[.pointer (some ⟨a, 0, none⟩), .pointer (some ⟨x, 0, none⟩)], .agg #[.bool O, .int .i64 K, .int .i64 N, .string ⟨k.toArray⟩, .string ⟨y.toArray⟩]] w fun r w' => r = .returned (.bool true) ∧ Pw w a g x v B L (c + 1) w' := by
  obtain ⟨w1, hw1⟩ : ∃ w1, w.alloc (.cells #[.pointer (some ⟨a, 0, none⟩), .pointer (some ⟨x, 0, none⟩)] 33) = w1 := ⟨_, rfl⟩
  obtain ⟨q, hq⟩ : ∃ q, w.heap.size = q := ⟨_, rfl⟩
  obtain ⟨w2, hw2⟩ : ∃ w2, w1.alloc (.cells #[.bool O, .int .i64 K, .int .i64 N, .string ⟨k.toArray⟩, .string ⟨y.toArray⟩] 35) = w2 := ⟨_, rfl⟩
  obtain ⟨p, hp⟩ : ∃ p, w1.heap.size = p := ⟨_, rfl⟩
  have s1 : p = q + 1 := by rw [← hp, ← hw1, size_alloc, hq]
  have b1 : Below w.heap.size w w1 := by rw [← hw1]; exact (Below.refl _ _).alloc (Nat.le_refl _) _
  have b12 : Below w1.heap.size w1 w2 := by rw [← hw2]; exact (Below.refl _ _).alloc (Nat.le_refl _) _
  have b2 : Below w.heap.size w w2 := b1.trans (b12.mono b1.size)
  have V2 : Pv w2 q p a x O K N ⟨k.toArray⟩ ⟨y.toArray⟩ := by
    refine ⟨?_, ?_⟩
    · rw [b12.block q (by omega), ← hw1, ← hq]; exact heap_alloc_new w _
    · rw [← hw2, ← hp]; exact heap_alloc_new w1 _
  have P2 := h.below b2
  have nq : ¬ Fw a g L x v q := fun e => by have := h.lt q e; omega
  have np : ¬ Fw a g L x v p := fun e => by have := h.lt p e; omega
  have VK : Hid (∀ w', Keep (Fw a g L x v) w2 w' → Pv w' q p a x O K N ⟨k.toArray⟩ ⟨y.toArray⟩) := fun w' hk => V2.keep hk nq np
  have BK : Hid (∀ w', Pw w2 a g x v B L (c + 1) w' → Pw w a g x v B L (c + 1) w') := fun w' hw => Pw.trans (keep_below b2) (fun _ h => .inl h) hw
  have PE := hid ((Pw.refl P2).mono (Nat.le_succ c))
  have g1 : decide (K = 1) = false := decide_eq_false h1
  have g2 : decide (K = 2) = false := decide_eq_false h2
  have g3 : decide (K = 3) = false := decide_eq_false h3
  have g4 : decide (K = 4) = false := decide_eq_false h4
  have g5 : decide (K = 5) = false := decide_eq_false h5
  have g6 : decide (K = 6) = false := decide_eq_false h6
  have g7 : decide (K = 7) = false := decide_eq_false h7
  have g8 : decide (K = 8) = false := decide_eq_false h8
  obtain ⟨x0, x1, _kk, kn, ky, kv⟩ := V2.cs
  have HW1 := hid hw1
  have HW2 := hid hw2
  have HQ := hid hq
  have HP := hid s1
  have HC := hid hc
  clear P2
  clear hw1 hw2 hq hp s1 b1 b12 b2 V2 nq np h hc
  generalize hKB : (ByteArray.mk k.toArray) = KB at *
  generalize hYB : (ByteArray.mk y.toArray) = YB at *
  clear hKB hYB
  go_enter Try.func8, Try.ntmps8
  go_upto_region 1 with fail
  rw [HW1.out, HQ.out, ← HP.out, HW2.out]
  go_upto_region 32 with fail
  clear x0 x1 kn ky kv
  obtain ⟨g', v', L', f', m', o', R1, R2, R3⟩ := PE.out
  have hb := R1.ch.cb
  have hbu := R1.ch.bu
  have htt := R1.ch.tt
  have hc := HC.out
  have VE := VK.out _ R2
  have j := play_end R1.ch R1.rf (by omega) (by omega) (by omega) (by omega) VE.r1
  clear hb hbu htt hc VE 
  refine wp_normal (j _ _ _ _ _ _ _ _ _ _ _ _ _ _ _ _ _ _ _ _ _ _ _ _ _ _ _ _ _ _ _ _ _ _ _ _ _ _ _ _ _ _ _ _ _ _ _ _ _ _ _ _ _ _ _ _ _ _ _ _ _ _ _ _ _ _ _ _ _ _ _ _ _ _ _ _ _ _ _ _ _ _ _ _ _ _ _ _ _ _ _ _ _ _ _ _ _ _ _ _ _ _ _ _ _ _ _ _ _ _ _ _ _ _ _ _ _ _ _ _ _ _ _ _ _ _ _ _ _ _ _ _ _ _ _ _ _ _ _ _ _ _ _ _ _ _ _ _ _ _ _ _ _ _ _ _ _ _ _ _ _ _ _ _ _ _ _ _ _ _ _ _ ?_)
  intro _ _ _ _ _ _ _ _ _ _ _ _ _ _ _ _ _ _ _ wz bz
  have PZ := hid (BK.out _ (PE.out.below bz))
  go_wp2
  go_ret
  exact ⟨rfl, PZ.out⟩
set_option maxRecDepth 1000000 in
set_option maxHeartbeats 8000000 in
theorem play_long {w : World} {a : Nat} {g : Option Nat} {x : Nat} {v : Value} {B c : Nat} {L : List En} {f m o : Nat} (h : Pr w a g x v B c L f m o) (hc : c ≤ 1000) (O : Bool) (N : Int) (k y : List UInt8) (hN1 : -9223372036854775808 ≤ N) (hN2 : N ≤ 9223372036854775807) (hk : k.length ≤ 2305843009213693952) :
    Calls Try.prog 8 #[.agg #[.pointer (some ⟨a, 0, none⟩), .pointer (some ⟨x, 0, none⟩)], .agg #[.bool O, .int .i64 7, .int .i64 N, .string ⟨k.toArray⟩, .string ⟨y.toArray⟩]] w fun r w' => r = .returned (.bool true) ∧ Pw w a g x v B L (c + 1) w' := by
  obtain ⟨w1, hw1⟩ : ∃ w1, w.alloc (.cells #[.pointer (some ⟨a, 0, none⟩), .pointer (some ⟨x, 0, none⟩)] 33) = w1 := ⟨_, rfl⟩
  obtain ⟨q, hq⟩ : ∃ q, w.heap.size = q := ⟨_, rfl⟩
  obtain ⟨w2, hw2⟩ : ∃ w2, w1.alloc (.cells #[.bool O, .int .i64 7, .int .i64 N, .string ⟨k.toArray⟩, .string ⟨y.toArray⟩] 35) = w2 := ⟨_, rfl⟩
  obtain ⟨p, hp⟩ : ∃ p, w1.heap.size = p := ⟨_, rfl⟩
  have s1 : p = q + 1 := by rw [← hp, ← hw1, size_alloc, hq]
  have b1 : Below w.heap.size w w1 := by rw [← hw1]; exact (Below.refl _ _).alloc (Nat.le_refl _) _
  have b12 : Below w1.heap.size w1 w2 := by rw [← hw2]; exact (Below.refl _ _).alloc (Nat.le_refl _) _
  have b2 : Below w.heap.size w w2 := b1.trans (b12.mono b1.size)
  have V2 : Pv w2 q p a x O 7 N ⟨k.toArray⟩ ⟨y.toArray⟩ := by
    refine ⟨?_, ?_⟩
    · rw [b12.block q (by omega), ← hw1, ← hq]; exact heap_alloc_new w _
    · rw [← hw2, ← hp]; exact heap_alloc_new w1 _
  have P2 := h.below b2
  have nq : ¬ Fw a g L x v q := fun e => by have := h.lt q e; omega
  have np : ¬ Fw a g L x v p := fun e => by have := h.lt p e; omega
  have VK : Hid (∀ w', Keep (Fw a g L x v) w2 w' → Pv w' q p a x O 7 N ⟨k.toArray⟩ ⟨y.toArray⟩) := fun w' hk => V2.keep hk nq np
  have BK : Hid (∀ w', Pw w2 a g x v B L (c + 1) w' → Pw w a g x v B L (c + 1) w') := fun w' hw => Pw.trans (keep_below b2) (fun _ h => .inl h) hw
  have ip := pick15_any N 100 hN1 hN2 (by omega) (by omega) w2
  obtain ⟨n, hn⟩ : ∃ n : Nat, pk N 100 = (n : Int) := ⟨(pk N 100).toNat, by have := pk_nonneg N 100 (by omega); omega⟩
  have hn1 : n < 100 := by have := pk_lt N 100 (by omega); omega
  rw [hn] at ip
  have mk := make_zero w2 n (by omega)
  have cv := conv_zero w2 n (by omega) _ rfl
  obtain ⟨w3, hw3⟩ : ∃ w3, w2.alloc (.cells (bv (List.replicate n 0)).toArray 5) = w3 := ⟨_, rfl⟩
  have b23 : Below w2.heap.size w2 w3 := by rw [← hw3]; exact (Below.refl _ _).alloc (Nat.le_refl _) _
  rw [hw3] at mk cv
  have P3 := P2.below b23
  obtain ⟨z, i1⟩ := put2 P3 (by omega) k (List.replicate n 0) hk (by rw [List.length_replicate]; omega)
  have B23 := hid b23
  obtain ⟨zx0, zx1, _, zn, zy, zv⟩ := (VK.out w3 (keep_below b23)).cs
  generalize hZB : (ByteArray.mk (List.replicate n 0).toArray) = ZB at *
  obtain ⟨x0, x1, _kk, kn, ky, kv⟩ := V2.cs
  have HW1 := hid hw1
  have HW2 := hid hw2
  have HQ := hid hq
  have HP := hid s1
  have HC := hid hc
  clear P2 P3 hk hN1 hN2 hn hn1 hw3 b23 hZB
  clear hw1 hw2 hq hp s1 b1 b12 b2 V2 nq np h hc
  generalize hKB : (ByteArray.mk k.toArray) = KB at *
  generalize hYB : (ByteArray.mk y.toArray) = YB at *
  clear hKB hYB
  go_enter Try.func8, Try.ntmps8
  go_upto_region 1 with fail
  rw [HW1.out, HQ.out, ← HP.out, HW2.out]
  go_upto_region 12 with (go_at_call 7; (with_reducible refine ip.mono ?_); rintro r w9 ⟨rfl, hw9⟩; replace hw9 := hw9.symm; subst hw9; clear ip)
  clear x0 x1 _kk kn ky kv mk cv
  go_upto_region 13 with (go_at_call 10; (with_reducible refine i1.mono ?_); rintro r w4 ⟨rfl, k3, i2⟩)
  obtain ⟨y0, y1, _, yn, yy, yv⟩ := (VK.out _ (keep_trans (keep_below B23.out) k3)).cs
  clear zx0 zx1 zn zy zv i1 k3
  go_upto_region 32 with (go_at_call 14; (with_reducible refine i2.mono ?_); rintro r w5 ⟨rfl, PE⟩; have PE := hid (Pw.trans (keep_below B23.out) (fun _ h => .inl h) PE); clear i2)
  clear y0 y1 yn yy yv
  obtain ⟨g', v', L', f', m', o', R1, R2, R3⟩ := PE.out
  have hb := R1.ch.cb
  have hbu := R1.ch.bu
  have htt := R1.ch.tt
  have hc := HC.out
  have VE := VK.out _ R2
  have j := play_end R1.ch R1.rf (by omega) (by omega) (by omega) (by omega) VE.r1
  clear hb hbu htt hc VE 
  refine wp_normal (j _ _ _ _ _ _ _ _ _ _ _ _ _ _ _ _ _ _ _ _ _ _ _ _ _ _ _ _ _ _ _ _ _ _ _ _ _ _ _ _ _ _ _ _ _ _ _ _ _ _ _ _ _ _ _ _ _ _ _ _ _ _ _ _ _ _ _ _ _ _ _ _ _ _ _ _ _ _ _ _ _ _ _ _ _ _ _ _ _ _ _ _ _ _ _ _ _ _ _ _ _ _ _ _ _ _ _ _ _ _ _ _ _ _ _ _ _ _ _ _ _ _ _ _ _ _ _ _ _ _ _ _ _ _ _ _ _ _ _ _ _ _ _ _ _ _ _ _ _ _ _ _ _ _ _ _ _ _ _ _ _ _ _ _ _ _ _ _ _ _ _ _ ?_)
  intro _ _ _ _ _ _ _ _ _ _ _ _ _ _ _ _ _ _ _ wz bz
  have PZ := hid (BK.out _ (PE.out.below bz))
  go_wp2
  go_ret
  exact ⟨rfl, PZ.out⟩
set_option maxRecDepth 1000000 in
set_option maxHeartbeats 8000000 in
theorem play_pins {w : World} {a : Nat} {g : Option Nat} {x : Nat} {v : Value} {B c : Nat} {L : List En} {f m o : Nat} (h : Pr w a g x v B c L f m o) (hc : c ≤ 1000) (O : Bool) (N : Int) (k y : List UInt8) (hk : k.length ≤ 2305843009213693952) :
    Calls Try.prog 8 #[.agg #[.pointer (some ⟨a, 0, none⟩), .pointer (some ⟨x, 0, none⟩)], .agg #[.bool O, .int .i64 8, .int .i64 N, .string ⟨k.toArray⟩, .string ⟨y.toArray⟩]] w fun r w' => r = .returned (.bool true) ∧ Pw w a g x v B L (c + 1) w' := by
  obtain ⟨w1, hw1⟩ : ∃ w1, w.alloc (.cells #[.pointer (some ⟨a, 0, none⟩), .pointer (some ⟨x, 0, none⟩)] 33) = w1 := ⟨_, rfl⟩
  obtain ⟨q, hq⟩ : ∃ q, w.heap.size = q := ⟨_, rfl⟩
  obtain ⟨w2, hw2⟩ : ∃ w2, w1.alloc (.cells #[.bool O, .int .i64 8, .int .i64 N, .string ⟨k.toArray⟩, .string ⟨y.toArray⟩] 35) = w2 := ⟨_, rfl⟩
  obtain ⟨p, hp⟩ : ∃ p, w1.heap.size = p := ⟨_, rfl⟩
  have s1 : p = q + 1 := by rw [← hp, ← hw1, size_alloc, hq]
  have b1 : Below w.heap.size w w1 := by rw [← hw1]; exact (Below.refl _ _).alloc (Nat.le_refl _) _
  have b12 : Below w1.heap.size w1 w2 := by rw [← hw2]; exact (Below.refl _ _).alloc (Nat.le_refl _) _
  have b2 : Below w.heap.size w w2 := b1.trans (b12.mono b1.size)
  have V2 : Pv w2 q p a x O 8 N ⟨k.toArray⟩ ⟨y.toArray⟩ := by
    refine ⟨?_, ?_⟩
    · rw [b12.block q (by omega), ← hw1, ← hq]; exact heap_alloc_new w _
    · rw [← hw2, ← hp]; exact heap_alloc_new w1 _
  have P2 := h.below b2
  have nq : ¬ Fw a g L x v q := fun e => by have := h.lt q e; omega
  have np : ¬ Fw a g L x v p := fun e => by have := h.lt p e; omega
  have VK : Hid (∀ w', Keep (Fw a g L x v) w2 w' → Pv w' q p a x O 8 N ⟨k.toArray⟩ ⟨y.toArray⟩) := fun w' hk => V2.keep hk nq np
  have BK : Hid (∀ w', Pw w2 a g x v B L (c + 1) w' → Pw w a g x v B L (c + 1) w') := fun w' hw => Pw.trans (keep_below b2) (fun _ h => .inl h) hw
  have i0 : Hid (∀ (w' : World) (g' : Option Nat) (v' : Value) (L' : List En) (f' m' o' : Nat), Pr w' a g' x v' B c L' f' m' o' → ∃ z, Calls Try.prog 17 #[.pointer (some ⟨a, 0, none⟩), .string ⟨k.toArray⟩] w' fun r w1 => r = .returned (.int .i64 z) ∧ Keep (Fw a g' L' x v') w' w1 ∧
      Calls Try.prog 18 #[.pointer (some ⟨x, 0, none⟩), .string ⟨k.toArray⟩] w1 fun r w2 => r = .returned (.int .i64 z) ∧ Pw w' a g' x v' B L' c w2) := fun w' g' v' L' f' m' o' hP => pin2 hP (by omega) k hk
  have PR := hid (Pw.refl P2)
  obtain ⟨x0, x1, _kk, kn, ky, kv⟩ := V2.cs
  have HW1 := hid hw1
  have HW2 := hid hw2
  have HQ := hid hq
  have HP := hid s1
  have HC := hid hc
  clear P2 hk
  clear hw1 hw2 hq hp s1 b1 b12 b2 V2 nq np h hc
  generalize hKB : (ByteArray.mk k.toArray) = KB at *
  generalize hYB : (ByteArray.mk y.toArray) = YB at *
  clear hKB hYB
  go_enter Try.func8, Try.ntmps8
  go_upto_region 1 with fail
  rw [HW1.out, HQ.out, ← HP.out, HW2.out]
  go_wp2
  go_loopw [5, 16] (fun ok i w' => ∃ j : Nat, j ≤ 65536 ∧ i = .int .i64 (j : Int) ∧ ok = .bool true ∧ Hid (Pw w2 a g x v B L c w')) (fun _ i _ => 65536 - (intOf i).toNat)
  case atStart => exact ⟨0, Nat.zero_le _, rfl, rfl, PR⟩
  case round =>
    obtain ⟨j, hj, rfl, rfl, PJ⟩ := hrel
    clear x0 x1 kn ky kv
    by_cases hj1 : j < 65536
    · obtain ⟨g', v', L', f', m', o', R1, R2, R3⟩ := PJ.out
      obtain ⟨z, i1⟩ := i0.out _ _ _ _ _ _ _ R1
      obtain ⟨x0, x1, _, kn, ky, kv⟩ := (VK.out _ R2).cs
      have K2 := hid R2
      have K3 := hid R3
      have y1 : (j : Int) < 65536 := by omega
      have hj' := hid hj1
      clear R1 R2 R3 PJ
      go_upto_region 28 with (go_at_call 17; (with_reducible refine i1.mono ?_); rintro r w3 ⟨rfl, k3, i2⟩)
      obtain ⟨y0, y1', _, yn, yy, yv⟩ := (VK.out _ (keep_up K2.out k3 fun i hi hT => (K3.out i hT).elim id fun e => absurd hi (by omega))).cs
      clear x0 x1 kn ky kv i1 k3
      go_wp2_with (go_at_call 18; (with_reducible refine i2.mono ?_); rintro r w4 ⟨rfl, PE⟩; have PE := hid (Pw.trans K2.out K3.out PE); clear i2)
      exact ⟨⟨j + 1, hj'.out, by go_num, rfl, PE⟩, by have := hj'.out; simp [RowKit.intOf]; omega⟩
    · obtain rfl : j = 65536 := by omega
      have y1 : ¬ ((65536 : Nat) : Int) < 65536 := by omega
      have PE := hid (PJ.out.mono (Nat.le_succ c))
      go_upto_region 32 with fail
      obtain ⟨g', v', L', f', m', o', R1, R2, R3⟩ := PE.out
      have hb := R1.ch.cb
      have hbu := R1.ch.bu
      have htt := R1.ch.tt
      have hc := HC.out
      have VE := VK.out _ R2
      have j := play_end R1.ch R1.rf (by omega) (by omega) (by omega) (by omega) VE.r1
      clear hb hbu htt hc VE 
      refine wp_normal (j _ _ _ _ _ _ _ _ _ _ _ _ _ _ _ _ _ _ _ _ _ _ _ _ _ _ _ _ _ _ _ _ _ _ _ _ _ _ _ _ _ _ _ _ _ _ _ _ _ _ _ _ _ _ _ _ _ _ _ _ _ _ _ _ _ _ _ _ _ _ _ _ _ _ _ _ _ _ _ _ _ _ _ _ _ _ _ _ _ _ _ _ _ _ _ _ _ _ _ _ _ _ _ _ _ _ _ _ _ _ _ _ _ _ _ _ _ _ _ _ _ _ _ _ _ _ _ _ _ _ _ _ _ _ _ _ _ _ _ _ _ _ _ _ _ _ _ _ _ _ _ _ _ _ _ _ _ _ _ _ _ _ _ _ _ _ _ _ _ _ _ _ ?_)
      intro _ _ _ _ _ _ _ _ _ _ _ _ _ _ _ _ _ _ _ wz bz
      have PZ := hid (BK.out _ (PE.out.below bz))
      go_wp2
      go_ret
      exact ⟨rfl, PZ.out⟩
/-- play, whatever is asked -/
theorem play_any {w : World} {a : Nat} {g : Option Nat} {x : Nat} {v : Value} {B c : Nat} {L : List En} {f m o : Nat} (h : Pr w a g x v B c L f m o) (hc : c ≤ 1000) (O : Bool) (K N : Int) (hN1 : -9223372036854775808 ≤ N) (hN2 : N ≤ 9223372036854775807) (k y : List UInt8) (hk : k.length ≤ 2305843009213693952) (hy : y.length ≤ 2305843009213693952) :
    Calls Try.prog 8 #[.agg #[.pointer (some ⟨a, 0, none⟩), .pointer (some ⟨x, 0, none⟩)], .agg #[.bool O, .int .i64 K, .int .i64 N, .string ⟨k.toArray⟩, .string ⟨y.toArray⟩]] w fun r w' => r = .returned (.bool true) ∧ Pw w a g x v B L (c + 1) w' := by
  by_cases h1 : K = 1
  · subst h1; exact play_get h hc O N k y hk
  by_cases h2 : K = 2
  · subst h2; exact play_put h hc O N k y hk hy
  by_cases h3 : K = 3
  · subst h3; exact play_drop h hc O N k y hk
  by_cases h4 : K = 4
  · subst h4; exact play_pin h hc O N k y hk
  by_cases h5 : K = 5
  · subst h5; exact play_unpin h hc O N k y hk
  by_cases h6 : K = 6
  · subst h6; exact play_keys h hc O N k y
  by_cases h7 : K = 7
  · subst h7; exact play_long h hc O N k y hN1 hN2 hk
  by_cases h8 : K = 8
  · subst h8; exact play_pins h hc O N k y hk
  exact play_none h hc O N k y K h1 h2 h3 h4 h5 h6 h7 h8
end Kc
end Go.Proofs.Ytkamjpjmdibfgaa
