import Derived.Test.YtkamjpjmdibfgaaPkKF3
import Derived.Test.YtkamjpjmdibfgaaPkKL2
/- Layer 15, the law: play, by kinds -/
namespace Go.Proofs.Ytkamjpjmdibfgaa
open Go.RowKit Go.Maps
namespace Kc
/-- what play's two variables are -/
structure Pv (w : World) (q p a x : Nat) (O : Bool) (K N : Int) (k y : ByteArray) : Prop where
  r1 : w.heap[q]? = some (.cells #[.pointer (some ⟨a, 0, none⟩), .pointer (some ⟨x, 0, none⟩)] 33 (0, 0))
  r2 : w.heap[p]? = some (.cells #[.bool O, .int .i64 K, .int .i64 N, .string k, .string y] 35 (0, 0))
theorem Pv.cs {w : World} {q p a x : Nat} {O : Bool} {K N : Int} {k y : ByteArray} (h : Pv w q p a x O K N k y) : w.cell? ⟨q, 0, none⟩ = some (.pointer (some ⟨a, 0, none⟩)) ∧ w.cell? ⟨q, 1, none⟩ = some (.pointer (some ⟨x, 0, none⟩)) ∧ w.cell? ⟨p, 1, none⟩ = some (.int .i64 K) ∧ w.cell? ⟨p, 2, none⟩ = some (.int .i64 N) ∧ w.cell? ⟨p, 3, none⟩ = some (.string k) ∧ w.cell? ⟨p, 4, none⟩ = some (.string y) := by
  refine ⟨?_, ?_, ?_, ?_, ?_, ?_⟩
  · rw [cell_of_row _ _ _ _ _ _ h.r1]; rfl
  · rw [cell_of_row _ _ _ _ _ _ h.r1]; rfl
  · rw [cell_of_row _ _ _ _ _ _ h.r2]; rfl
  · rw [cell_of_row _ _ _ _ _ _ h.r2]; rfl
  · rw [cell_of_row _ _ _ _ _ _ h.r2]; rfl
  · rw [cell_of_row _ _ _ _ _ _ h.r2]; rfl
theorem Pv.keep {S : Nat → Prop} {w w' : World} {q p a x : Nat} {O : Bool} {K N : Int} {k y : ByteArray} (h : Pv w q p a x O K N k y) (hk : Keep S w w') (h1 : ¬ S q) (h2 : ¬ S p) : Pv w' q p a x O K N k y :=
  ⟨(hk.block q (lt_of_heap h.r1) h1).trans h.r1, (hk.block p (lt_of_heap h.r2) h2).trans h.r2⟩
theorem Pw.kp {w w' : World} {a : Nat} {g : Option Nat} {x : Nat} {v : Value} {B c : Nat} {L : List En} (h : Pw w a g x v B L c w') : Keep (Fw a g L x v) w w' := by
  obtain ⟨_, _, _, _, _, _, _, h, _⟩ := h
  exact h
set_option maxRecDepth 1000000 in
set_option maxHeartbeats 8000000 in
theorem play_get {w : World} {a : Nat} {g : Option Nat} {x : Nat} {v : Value} {B c : Nat} {L : List En} {f m o : Nat} (h : Pr w a g x v B c L f m o) (hc : c ≤ 1000) (O : Bool) (N : Int) (k y : List UInt8) (hk : k.length ≤ 2305843009213693952) :
    Calls Try.prog 8 #[.agg #[.pointer (some ⟨a, 0, none⟩), .pointer (some ⟨x, 0, none⟩)], .agg #[.bool O, .int .i64 1, .int .i64 N, .string ⟨k.toArray⟩, .string ⟨y.toArray⟩]] w fun r w' => r = .returned (.bool true) ∧ Pw w a g x v B L (c + 1) w' := by
  obtain ⟨w1, hw1⟩ : ∃ w1, w.alloc (.cells #[.pointer (some ⟨a, 0, none⟩), .pointer (some ⟨x, 0, none⟩)] 33) = w1 := ⟨_, rfl⟩
  obtain ⟨q, hq⟩ : ∃ q, w.heap.size = q := ⟨_, rfl⟩
  obtain ⟨w2, hw2⟩ : ∃ w2, w1.alloc (.cells #[.bool O, .int .i64 1, .int .i64 N, .string ⟨k.toArray⟩, .string ⟨y.toArray⟩] 35) = w2 := ⟨_, rfl⟩
  obtain ⟨p, hp⟩ : ∃ p, w1.heap.size = p := ⟨_, rfl⟩
  have s1 : p = q + 1 := by rw [← hp, ← hw1, size_alloc, hq]
  have b1 : Below w.heap.size w w1 := by rw [← hw1]; exact (Below.refl _ _).alloc (Nat.le_refl _) _
  have b12 : Below w1.heap.size w1 w2 := by rw [← hw2]; exact (Below.refl _ _).alloc (Nat.le_refl _) _
  have b2 : Below w.heap.size w w2 := b1.trans (b12.mono b1.size)
  have V2 : Pv w2 q p a x O 1 N ⟨k.toArray⟩ ⟨y.toArray⟩ := by
    refine ⟨?_, ?_⟩
    · rw [b12.block q (by omega), ← hw1, ← hq]; exact heap_alloc_new w _
    · rw [← hw2, ← hp]; exact heap_alloc_new w1 _
  have P2 := h.below b2
  have nq : ¬ Fw a g L x v q := fun e => by have := h.lt q e; omega
  have np : ¬ Fw a g L x v p := fun e => by have := h.lt p e; omega
  have VK : Hid (∀ w', Keep (Fw a g L x v) w2 w' → Pv w' q p a x O 1 N ⟨k.toArray⟩ ⟨y.toArray⟩) := fun w' hk => V2.keep hk nq np
  have BK : Hid (∀ w', Pw w2 a g x v B L (c + 1) w' → Pw w a g x v B L (c + 1) w') := fun w' hw => Pw.trans (keep_below b2) (fun _ h => .inl h) hw
  obtain ⟨V, b, i1⟩ := get2 P2 (by omega) k hk
  obtain ⟨x0, x1, _kk, kn, ky, kv⟩ := V2.cs
  have HW1 := hid hw1
  have HW2 := hid hw2
  have HQ := hid hq
  have HP := hid s1
  have HC := hid hc
  clear P2 hk
  clear hw1 hw2 hq hp s1 b1 b12 b2 V2 nq np h hc
  generalize hKB : (ByteArray.mk k.toArray) = KB at *
  generalize hYB : (ByteArray.mk y.toArray) = YB at *
  clear hKB hYB
  go_enter Try.func8, Try.ntmps8
  go_upto_region 1 with fail
  rw [HW1.out, HQ.out, ← HP.out, HW2.out]
  go_upto_region 5 with (go_at_call 11; (with_reducible refine i1.mono ?_); rintro r w3 ⟨rfl, k3, i2⟩)
  obtain ⟨y0, y1, _, yn, yy, yv⟩ := (VK.out _ k3).cs
  clear x0 x1 _kk kn ky kv i1 k3
  have hVV : (V.toList == V.toList) = true := beq_self_eq_true _
  go_upto_region 32 with (go_at_call 13; (with_reducible refine i2.mono ?_); rintro r w4 ⟨rfl, PE⟩; have PE := hid PE; clear i2)
  clear y0 y1 yn yy yv
  obtain ⟨g', v', L', f', m', o', R1, R2, R3⟩ := PE.out
  have hb := R1.ch.cb
  have hbu := R1.ch.bu
  have htt := R1.ch.tt
  have hc := HC.out
  have VE := VK.out _ R2
  have j := play_end R1.ch R1.rf (by omega) (by omega) (by omega) (by omega) VE.r1
  clear hb hbu htt hc VE 
  refine wp_normal (j _ _ _ _ _ _ _ _ _ _ _ _ _ _ _ _ _ _ _ _ _ _ _ _ _ _ _ _ _ _ _ _ _ _ _ _ _ _ _ _ _ _ _ _ _ _ _ _ _ _ _ _ _ _ _ _ _ _ _ _ _ _ _ _ _ _ _ _ _ _ _ _ _ _ _ _ _ _ _ _ _ _ _ _ _ _ _ _ _ _ _ _ _ _ _ _ _ _ _ _ _ _ _ _ _ _ _ _ _ _ _ _ _ _ _ _ _ _ _ _ _ _ _ _ _ _ _ _ _ _ _ _ _ _ _ _ _ _ _ _ _ _ _ _ _ _ _ _ _ _ _ _ _ _ _ _ _ _ _ _ _ _ _ _ _ _ _ _ _ _ _ _ ?_)
  intro _ _ _ _ _ _ _ _ _ _ _ _ _ _ _ _ _ _ _ wz bz
  have PZ := hid (BK.out _ (PE.out.below bz))
  go_wp2
  go_ret
  exact ⟨rfl, PZ.out⟩
set_option maxRecDepth 1000000 in
set_option maxHeartbeats 8000000 in
theorem play_put {w : World} {a : Nat} {g : Option Nat} {x : Nat} {v : Value} {B c : Nat} {L : List En} {f m o : Nat} (h : Pr w a g x v B c L f m o) (hc : c ≤ 1000) (O : Bool) (N : Int) (k y : List UInt8) (hk : k.length ≤ 2305843009213693952) (hy : y.length ≤ 2305843009213693952) :
    Calls Try.prog 8 #[.agg #[.pointer (some ⟨a, 0, none⟩), .pointer (some ⟨x, 0, none⟩)], .agg #[.bool O, .int .i64 2, .int .i64 N, .string ⟨k.toArray⟩, .string ⟨y.toArray⟩]] w fun r w' => r = .returned (.bool true) ∧ Pw w a g x v B L (c + 1) w' := by
  obtain ⟨w1, hw1⟩ : ∃ w1, w.alloc (.cells #[.pointer (some ⟨a, 0, none⟩), .pointer (some ⟨x, 0, none⟩)] 33) = w1 := ⟨_, rfl⟩
  obtain ⟨q, hq⟩ : ∃ q, w.heap.size = q := ⟨_, rfl⟩
  obtain ⟨w2, hw2⟩ : ∃ w2, w1.alloc (.cells #[.bool O, .int .i64 2, .int .i64 N, .string ⟨k.toArray⟩, .string ⟨y.toArray⟩] 35) = w2 := ⟨_, rfl⟩
  obtain ⟨p, hp⟩ : ∃ p, w1.heap.size = p := ⟨_, rfl⟩
  have s1 : p = q + 1 := by rw [← hp, ← hw1, size_alloc, hq]
  have b1 : Below w.heap.size w w1 := by rw [← hw1]; exact (Below.refl _ _).alloc (Nat.le_refl _) _
  have b12 : Below w1.heap.size w1 w2 := by rw [← hw2]; exact (Below.refl _ _).alloc (Nat.le_refl _) _
  have b2 : Below w.heap.size w w2 := b1.trans (b12.mono b1.size)
  have V2 : Pv w2 q p a x O 2 N ⟨k.toArray⟩ ⟨y.toArray⟩ := by
    refine ⟨?_, ?_⟩
    · rw [b12.block q (by omega), ← hw1, ← hq]; exact heap_alloc_new w _
    · rw [← hw2, ← hp]; exact heap_alloc_new w1 _
  have P2 := h.below b2
  have nq : ¬ Fw a g L x v q := fun e => by have := h.lt q e; omega
  have np : ¬ Fw a g L x v p := fun e => by have := h.lt p e; omega
  have VK : Hid (∀ w', Keep (Fw a g L x v) w2 w' → Pv w' q p a x O 2 N ⟨k.toArray⟩ ⟨y.toArray⟩) := fun w' hk => V2.keep hk nq np
  have BK : Hid (∀ w', Pw w2 a g x v B L (c + 1) w' → Pw w a g x v B L (c + 1) w') := fun w' hw => Pw.trans (keep_below b2) (fun _ h => .inl h) hw
  obtain ⟨z, i1⟩ := put2 P2 (by omega) k y hk hy
  obtain ⟨x0, x1, _kk, kn, ky, kv⟩ := V2.cs
  have HW1 := hid hw1
  have HW2 := hid hw2
  have HQ := hid hq
  have HP := hid s1
  have HC := hid hc
  clear P2 hk hy
  clear hw1 hw2 hq hp s1 b1 b12 b2 V2 nq np h hc
  generalize hKB : (ByteArray.mk k.toArray) = KB at *
  generalize hYB : (ByteArray.mk y.toArray) = YB at *
  clear hKB hYB
  go_enter Try.func8, Try.ntmps8
  go_upto_region 1 with fail
  rw [HW1.out, HQ.out, ← HP.out, HW2.out]
  go_upto_region 9 with (go_at_call 10; (with_reducible refine i1.mono ?_); rintro r w3 ⟨rfl, k3, i2⟩)
  obtain ⟨y0, y1, _, yn, yy, yv⟩ := (VK.out _ k3).cs
  clear x0 x1 _kk kn ky kv i1 k3
  go_upto_region 32 with (go_at_call 14; (with_reducible refine i2.mono ?_); rintro r w4 ⟨rfl, PE⟩; have PE := hid PE; clear i2)
  clear y0 y1 yn yy yv
  obtain ⟨g', v', L', f', m', o', R1, R2, R3⟩ := PE.out
  have hb := R1.ch.cb
  have hbu := R1.ch.bu
  have htt := R1.ch.tt
  have hc := HC.out
  have VE := VK.out _ R2
  have j := play_end R1.ch R1.rf (by omega) (by omega) (by omega) (by omega) VE.r1
  clear hb hbu htt hc VE 
  refine wp_normal (j _ _ _ _ _ _ _ _ _ _ _ _ _ _ _ _ _ _ _ _ _ _ _ _ _ _ _ _ _ _ _ _ _ _ _ _ _ _ _ _ _ _ _ _ _ _ _ _ _ _ _ _ _ _ _ _ _ _ _ _ _ _ _ _ _ _ _ _ _ _ _ _ _ _ _ _ _ _ _ _ _ _ _ _ _ _ _ _ _ _ _ _ _ _ _ _ _ _ _ _ _ _ _ _ _ _ _ _ _ _ _ _ _ _ _ _ _ _ _ _ _ _ _ _ _ _ _ _ _ _ _ _ _ _ _ _ _ _ _ _ _ _ _ _ _ _ _ _ _ _ _ _ _ _ _ _ _ _ _ _ _ _ _ _ _ _ _ _ _ _ _ _ ?_)
  intro _ _ _ _ _ _ _ _ _ _ _ _ _ _ _ _ _ _ _ wz bz
  have PZ := hid (BK.out _ (PE.out.below bz))
  go_wp2
  go_ret
  exact ⟨rfl, PZ.out⟩
set_option maxRecDepth 1000000 in
set_option maxHeartbeats 8000000 in
theorem play_drop {w : World} {a : Nat} {g : Option Nat} {x : Nat} {v : Value} {B c : Nat} {L : List En} {f m o : Nat} (h : Pr w a g x v B c L f m o) (hc : c ≤ 1000) (O : Bool) (N : Int) (k y : List UInt8) (hk : k.length ≤ 2305843009213693952) :
    Calls Try.prog 8 #[.agg #[.pointer (some ⟨a, 0, none⟩), .pointer (some ⟨x, 0, none⟩)], .agg #[.bool O, .int .i64 3, .int .i64 N, .string ⟨k.toArray⟩, .string ⟨y.toArray⟩]] w fun r w' => r = .returned (.bool true) ∧ Pw w a g x v B L (c + 1) w' := by
  obtain ⟨w1, hw1⟩ : ∃ w1, w.alloc (.cells #[.pointer (some ⟨a, 0, none⟩), .pointer (some ⟨x, 0, none⟩)] 33) = w1 := ⟨_, rfl⟩
  obtain ⟨q, hq⟩ : ∃ q, w.heap.size = q := ⟨_, rfl⟩
  obtain ⟨w2, hw2⟩ : ∃ w2, w1.alloc (.cells #[.bool O, .int .i64 3, .int .i64 N, .string ⟨k.toArray⟩, .string ⟨y.toArray⟩] 35) = w2 := ⟨_, rfl⟩
  obtain ⟨p, hp⟩ : ∃ p, w1.heap.size = p := ⟨_, rfl⟩
  have s1 : p = q + 1 := by rw [← hp, ← hw1, size_alloc, hq]
  have b1 : Below w.heap.size w w1 := by rw [← hw1]; exact (Below.refl _ _).alloc (Nat.le_refl _) _
  have b12 : Below w1.heap.size w1 w2 := by rw [← hw2]; exact (Below.refl _ _).alloc (Nat.le_refl _) _
  have b2 : Below w.heap.size w w2 := b1.trans (b12.mono b1.size)
  have V2 : Pv w2 q p a x O 3 N ⟨k.toArray⟩ ⟨y.toArray⟩ := by
    refine ⟨?_, ?_⟩
    · rw [b12.block q (by omega), ← hw1, ← hq]; exact heap_alloc_new w _
    · rw [← hw2, ← hp]; exact heap_alloc_new w1 _
  have P2 := h.below b2
  have nq : ¬ Fw a g L x v q := fun e => by have := h.lt q e; omega
  have np : ¬ Fw a g L x v p := fun e => by have := h.lt p e; omega
  have VK : Hid (∀ w', Keep (Fw a g L x v) w2 w' → Pv w' q p a x O 3 N ⟨k.toArray⟩ ⟨y.toArray⟩) := fun w' hk => V2.keep hk nq np
  have BK : Hid (∀ w', Pw w2 a g x v B L (c + 1) w' → Pw w a g x v B L (c + 1) w') := fun w' hw => Pw.trans (keep_below b2) (fun _ h => .inl h) hw
  obtain ⟨z, i1⟩ := drop2 P2 (by omega) k hk
  obtain ⟨x0, x1, _kk, kn, ky, kv⟩ := V2.cs
  have HW1 := hid hw1
  have HW2 := hid hw2
  have HQ := hid hq
  have HP := hid s1
  have HC := hid hc
  clear P2 hk
  clear hw1 hw2 hq hp s1 b1 b12 b2 V2 nq np h hc
  generalize hKB : (ByteArray.mk k.toArray) = KB at *
  generalize hYB : (ByteArray.mk y.toArray) = YB at *
  clear hKB hYB
  go_enter Try.func8, Try.ntmps8
  go_upto_region 1 with fail
  rw [HW1.out, HQ.out, ← HP.out, HW2.out]
  go_upto_region 16 with (go_at_call 15; (with_reducible refine i1.mono ?_); rintro r w3 ⟨rfl, k3, i2⟩)
  obtain ⟨y0, y1, _, yn, yy, yv⟩ := (VK.out _ k3).cs
  clear x0 x1 _kk kn ky kv i1 k3
  go_upto_region 32 with (go_at_call 16; (with_reducible refine i2.mono ?_); rintro r w4 ⟨rfl, PE⟩; have PE := hid PE; clear i2)
  clear y0 y1 yn yy yv
  obtain ⟨g', v', L', f', m', o', R1, R2, R3⟩ := PE.out
  have hb := R1.ch.cb
  have hbu := R1.ch.bu
  have htt := R1.ch.tt
  have hc := HC.out
  have VE := VK.out _ R2
  have j := play_end R1.ch R1.rf (by omega) (by omega) (by omega) (by omega) VE.r1
  clear hb hbu htt hc VE 
  refine wp_normal (j _ _ _ _ _ _ _ _ _ _ _ _ _ _ _ _ _ _ _ _ _ _ _ _ _ _ _ _ _ _ _ _ _ _ _ _ _ _ _ _ _ _ _ _ _ _ _ _ _ _ _ _ _ _ _ _ _ _ _ _ _ _ _ _ _ _ _ _ _ _ _ _ _ _ _ _ _ _ _ _ _ _ _ _ _ _ _ _ _ _ _ _ _ _ _ _ _ _ _ _ _ _ _ _ _ _ _ _ _ _ _ _ _ _ _ _ _ _ _ _ _ _ _ _ _ _ _ _ _ _ _ _ _ _ _ _ _ _ _ _ _ _ _ _ _ _ _ _ _ _ _ _ _ _ _ _ _ _ _ _ _ _ _ _ _ _ _ _ _ _ _ _ ?_)
  intro _ _ _ _ _ _ _ _ _ _ _ _ _ _ _ _ _ _ _ wz bz
  have PZ := hid (BK.out _ (PE.out.below bz))
  go_wp2
  go_ret
  exact ⟨rfl, PZ.out⟩
set_option maxRecDepth 1000000 in
set_option maxHeartbeats 8000000 in
theorem play_pin {w : World} {a : Nat} {g : Option Nat} {x : Nat} {v : Value} {B c : Nat} {L : List En} {f m o : Nat} (h : Pr w a g x v B c L f m o) (hc : c ≤ 1000) (O : Bool) (N : Int) (k y : List UInt8) (hk : k.length ≤ 2305843009213693952) :
    Calls Try.prog 8 #[.agg #[.pointer (some ⟨a, 0, none⟩), .pointer (some ⟨x, 0, none⟩)], .agg #[.bool O, .int .i64 4, .int .i64 N, .string ⟨k.toArray⟩, .string ⟨y.toArray⟩]] w fun r w' => r = .returned (.bool true) ∧ Pw w a g x v B L (c + 1) w' := by
  obtain ⟨w1, hw1⟩ : ∃ w1, w.alloc (.cells #[.pointer (some ⟨a, 0, none⟩), .pointer (some ⟨x, 0, none⟩)] 33) = w1 := ⟨_, rfl⟩
  obtain ⟨q, hq⟩ : ∃ q, w.heap.size = q := ⟨_, rfl⟩
  obtain ⟨w2, hw2⟩ : ∃ w2, w1.alloc (.cells #[.bool O, .int .i64 4, .int .i64 N, .string ⟨k.toArray⟩, .string ⟨y.toArray⟩] 35) = w2 := ⟨_, rfl⟩
  obtain ⟨p, hp⟩ : ∃ p, w1.heap.size = p := ⟨_, rfl⟩
  have s1 : p = q + 1 := by rw [← hp, ← hw1, size_alloc, hq]
  have b1 : Below w.heap.size w w1 := by rw [← hw1]; exact (Below.refl _ _).alloc (Nat.le_refl _) _
  have b12 : Below w1.heap.size w1 w2 := by rw [← hw2]; exact (Below.refl _ _).alloc (Nat.le_refl _) _
  have b2 : Below w.heap.size w w2 := b1.trans (b12.mono b1.size)
  have V2 : Pv w2 q p a x O 4 N ⟨k.toArray⟩ ⟨y.toArray⟩ := by
    refine ⟨?_, ?_⟩
    · rw [b12.block q (by omega), ← hw1, ← hq]; exact heap_alloc_new w _
    · rw [← hw2, ← hp]; exact heap_alloc_new w1 _
  have P2 := h.below b2
  have nq : ¬ Fw a g L x v q := fun e => by have := h.lt q e; omega
  have np : ¬ Fw a g L x v p := fun e => by have := h.lt p e; omega
  have VK : Hid (∀ w', Keep (Fw a g L x v) w2 w' → Pv w' q p a x O 4 N ⟨k.toArray⟩ ⟨y.toArray⟩) := fun w' hk => V2.keep hk nq np
  have BK : Hid (∀ w', Pw w2 a g x v B L (c + 1) w' → Pw w a g x v B L (c + 1) w') := fun w' hw => Pw.trans (keep_below b2) (fun _ h => .inl h) hw
  obtain ⟨z, i1⟩ := pin2 P2 (by omega) k hk
  obtain ⟨x0, x1, _kk, kn, ky, kv⟩ := V2.cs
  have HW1 := hid hw1
  have HW2 := hid hw2
  have HQ := hid hq
  have HP := hid s1
  have HC := hid hc
  clear P2 hk
  clear hw1 hw2 hq hp s1 b1 b12 b2 V2 nq np h hc
  generalize hKB : (ByteArray.mk k.toArray) = KB at *
  generalize hYB : (ByteArray.mk y.toArray) = YB at *
  clear hKB hYB
  go_enter Try.func8, Try.ntmps8
  go_upto_region 1 with fail
  rw [HW1.out, HQ.out, ← HP.out, HW2.out]
  go_upto_region 19 with (go_at_call 17; (with_reducible refine i1.mono ?_); rintro r w3 ⟨rfl, k3, i2⟩)
  obtain ⟨y0, y1, _, yn, yy, yv⟩ := (VK.out _ k3).cs
  clear x0 x1 _kk kn ky kv i1 k3
  go_upto_region 32 with (go_at_call 18; (with_reducible refine i2.mono ?_); rintro r w4 ⟨rfl, PE⟩; have PE := hid (PE.mono (Nat.le_succ c)); clear i2)
  clear y0 y1 yn yy yv
  obtain ⟨g', v', L', f', m', o', R1, R2, R3⟩ := PE.out
  have hb := R1.ch.cb
  have hbu := R1.ch.bu
  have htt := R1.ch.tt
  have hc := HC.out
  have VE := VK.out _ R2
  have j := play_end R1.ch R1.rf (by omega) (by omega) (by omega) (by omega) VE.r1
  clear hb hbu htt hc VE 
  refine wp_normal (j _ _ _ _ _ _ _ _ _ _ _ _ _ _ _ _ _ _ _ _ _ _ _ _ _ _ _ _ _ _ _ _ _ _ _ _ _ _ _ _ _ _ _ _ _ _ _ _ _ _ _ _ _ _ _ _ _ _ _ _ _ _ _ _ _ _ _ _ _ _ _ _ _ _ _ _ _ _ _ _ _ _ _ _ _ _ _ _ _ _ _ _ _ _ _ _ _ _ _ _ _ _ _ _ _ _ _ _ _ _ _ _ _ _ _ _ _ _ _ _ _ _ _ _ _ _ _ _ _ _ _ _ _ _ _ _ _ _ _ _ _ _ _ _ _ _ _ _ _ _ _ _ _ _ _ _ _ _ _ _ _ _ _ _ _ _ _ _ _ _ _ _ ?_)
  intro _ _ _ _ _ _ _ _ _ _ _ _ _ _ _ _ _ _ _ wz bz
  have PZ := hid (BK.out _ (PE.out.below bz))
  go_wp2
  go_ret
  exact ⟨rfl, PZ.out⟩
set_option maxRecDepth 1000000 in
set_option maxHeartbeats 8000000 in
theorem play_unpin {w : World} {a : Nat} {g : Option Nat} {x : Nat} {v : Value} {B c : Nat} {L : List En} {f m o : Nat} (h : Pr w a g x v B c L f m o) (hc : c ≤ 1000) (O : Bool) (N : Int) (k y : List UInt8) (hk : k.length ≤ 2305843009213693952) :
    Calls Try.prog 8 #[.agg #[.pointer (some ⟨a, 0, none⟩), .pointer (some ⟨x, 0, none⟩)], .agg #[.bool O, .int .i64 5, .int .i64 N, .string ⟨k.toArray⟩, .string ⟨y.toArray⟩]] w fun r w' => r = .returned (.bool true) ∧ Pw w a g x v B L (c + 1) w' := by
  obtain ⟨w1, hw1⟩ : ∃ w1, w.alloc (.cells #[.pointer (some ⟨a, 0, none⟩), .pointer (some ⟨x, 0, none⟩)] 33) = w1 := ⟨_, rfl⟩
  obtain ⟨q, hq⟩ : ∃ q, w.heap.size = q := ⟨_, rfl⟩
  obtain ⟨w2, hw2⟩ : ∃ w2, w1.alloc (.cells #[.bool O, .int .i64 5, .int .i64 N, .string ⟨k.toArray⟩, .string ⟨y.toArray⟩] 35) = w2 := ⟨_, rfl⟩
  obtain ⟨p, hp⟩ : ∃ p, w1.heap.size = p := ⟨_, rfl⟩
  have s1 : p = q + 1 := by rw [← hp, ← hw1, size_alloc, hq]
  have b1 : Below w.heap.size w w1 := by rw [← hw1]; exact (Below.refl _ _).alloc (Nat.le_refl _) _
  have b12 : Below w1.heap.size w1 w2 := by rw [← hw2]; exact (Below.refl _ _).alloc (Nat.le_refl _) _
  have b2 : Below w.heap.size w w2 := b1.trans (b12.mono b1.size)
  have V2 : Pv w2 q p a x O 5 N ⟨k.toArray⟩ ⟨y.toArray⟩ := by
    refine ⟨?_, ?_⟩
    · rw [b12.block q (by omega), ← hw1, ← hq]; exact heap_alloc_new w _
    · rw [← hw2, ← hp]; exact heap_alloc_new w1 _
  have P2 := h.below b2
  have nq : ¬ Fw a g L x v q := fun e => by have := h.lt q e; omega
  have np : ¬ Fw a g L x v p := fun e => by have := h.lt p e; omega
  have VK : Hid (∀ w', Keep (Fw a g L x v) w2 w' → Pv w' q p a x O 5 N ⟨k.toArray⟩ ⟨y.toArray⟩) := fun w' hk => V2.keep hk nq np
  have BK : Hid (∀ w', Pw w2 a g x v B L (c + 1) w' → Pw w a g x v B L (c + 1) w') := fun w' hw => Pw.trans (keep_below b2) (fun _ h => .inl h) hw
  obtain ⟨z, i1⟩ := unpin2 P2 (by omega) k hk
  obtain ⟨x0, x1, _kk, kn, ky, kv⟩ := V2.cs
  have HW1 := hid hw1
  have HW2 := hid hw2
  have HQ := hid hq
  have HP := hid s1
  have HC := hid hc
  clear P2 hk
  clear hw1 hw2 hq hp s1 b1 b12 b2 V2 nq np h hc
  generalize hKB : (ByteArray.mk k.toArray) = KB at *
  generalize hYB : (ByteArray.mk y.toArray) = YB at *
  clear hKB hYB
  go_enter Try.func8, Try.ntmps8
  go_upto_region 1 with fail
  rw [HW1.out, HQ.out, ← HP.out, HW2.out]
  go_upto_region 22 with (go_at_call 19; (with_reducible refine i1.mono ?_); rintro r w3 ⟨rfl, k3, i2⟩)
  obtain ⟨y0, y1, _, yn, yy, yv⟩ := (VK.out _ k3).cs
  clear x0 x1 _kk kn ky kv i1 k3
  go_upto_region 32 with (go_at_call 20; (with_reducible refine i2.mono ?_); rintro r w4 ⟨rfl, PE⟩; have PE := hid PE; clear i2)
  clear y0 y1 yn yy yv
  obtain ⟨g', v', L', f', m', o', R1, R2, R3⟩ := PE.out
  have hb := R1.ch.cb
  have hbu := R1.ch.bu
  have htt := R1.ch.tt
  have hc := HC.out
  have VE := VK.out _ R2
  have j := play_end R1.ch R1.rf (by omega) (by omega) (by omega) (by omega) VE.r1
  clear hb hbu htt hc VE 
  refine wp_normal (j _ _ _ _ _ _ _ _ _ _ _ _ _ _ _ _ _ _ _ _ _ _ _ _ _ _ _ _ _ _ _ _ _ _ _ _ _ _ _ _ _ _ _ _ _ _ _ _ _ _ _ _ _ _ _ _ _ _ _ _ _ _ _ _ _ _ _ _ _ _ _ _ _ _ _ _ _ _ _ _ _ _ _ _ _ _ _ _ _ _ _ _ _ _ _ _ _ _ _ _ _ _ _ _ _ _ _ _ _ _ _ _ _ _ _ _ _ _ _ _ _ _ _ _ _ _ _ _ _ _ _ _ _ _ _ _ _ _ _ _ _ _ _ _ _ _ _ _ _ _ _ _ _ _ _ _ _ _ _ _ _ _ _ _ _ _ _ _ _ _ _ _ ?_)
  intro _ _ _ _ _ _ _ _ _ _ _ _ _ _ _ _ _ _ _ wz bz
  have PZ := hid (BK.out _ (PE.out.below bz))
  go_wp2
  go_ret
  exact ⟨rfl, PZ.out⟩
end Kc
end Go.Proofs.Ytkamjpjmdibfgaa
