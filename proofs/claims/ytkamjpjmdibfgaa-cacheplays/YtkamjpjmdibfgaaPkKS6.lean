import Derived.Test.YtkamjpjmdibfgaaPkKS4
import Derived.Test.YtkamjpjmdibfgaaPkKP13
import Derived.Test.YtkamjpjmdibfgaaPkKR10
/- Layer 15, the law: a pair of caches, the program's and the document's; each call of both -/
namespace Go.Proofs.Ytkamjpjmdibfgaa
open Go.RowKit Go.Maps
namespace Kc
/-- what a call has done; the counter is told -/
structure Oc (w : World) (a : Nat) (g : Option Nat) (B : Nat) (L : List En) (w' : World) (g' : Option Nat) (L' : List En) (c' f' m' o' : Nat) : Prop where
  ch : Ch w' a g' B c' L' f' m' o'
  kp : Keep (Fg a g L) w w'
  fg : ∀ k, Fg a g' L' k → Fg a g L k ∨ w.heap.size ≤ k
theorem Op.oc {w w' : World} {a : Nat} {g g' : Option Nat} {B c : Nat} {L L' : List En} {f' m' o' : Nat} (h : Op w a g B c L w' g' L' f' m' o') : Oc w a g B L w' g' L' (c + 1) f' m' o' := ⟨h.ch, h.kp, h.fg⟩
theorem oc_below {w w' : World} {a : Nat} {g : Option Nat} {B c : Nat} {L : List En} {f m o : Nat} (h : Ch w a g B c L f m o) (b : Below w.heap.size w w') : Oc w a g B L w' g L c f m o := ⟨h.below b, keep_below b, fun _ h => .inl h⟩
theorem oc_refl {w : World} {a : Nat} {g : Option Nat} {B c : Nat} {L : List En} {f m o : Nat} (h : Ch w a g B c L f m o) : Oc w a g B L w g L c f m o := oc_below h (Below.refl _ _)
theorem Oc.mono {w w' : World} {a : Nat} {g g' : Option Nat} {B c c' : Nat} {L L' : List En} {f' m' o' : Nat} (h : Oc w a g B L w' g' L' c f' m' o') (hc : c ≤ c') : Oc w a g B L w' g' L' c' f' m' o' := ⟨h.ch.mono hc, h.kp, h.fg⟩
theorem Pq.oc {w w' : World} {a : Nat} {g : Option Nat} {B c : Nat} {X Y : List En} {e : En} {f m o q : Nat} (h : Pq w a g B c X Y e f m o q w') : Oc w a g B (X ++ e :: Y) w' g (X ++ re e q :: Y) c f m o :=
  ⟨h.1, h.2, fun k hk => .inl (by
    unfold Fg Fp at *
    rw [List.map_append, List.map_cons] at *
    exact hk)⟩
set_option maxRecDepth 100000 in
set_option maxHeartbeats 2000000 in
theorem pin_oc {w : World} {a : Nat} {g : Option Nat} {B c : Nat} {L : List En} {f m o : Nat} (h : Ch w a g B c L f m o) (k : List UInt8) {e : En} (hf : fnd k L = some e) (hp : e.p < 65535) :
    Calls Try.prog 17 #[.pointer (some ⟨a, 0, none⟩), .string ⟨k.toArray⟩] w fun r w' => r = .returned (.int .i64 0) ∧ Oc w a g B L w' g (rp k (e.p + 1) L) c f m o := by
  have hpm := h.pm e (fnd_mem hf).1
  obtain ⟨X, Y, hL, hk, hr⟩ := rp_split hf (e.p + 1)
  rw [hr]
  subst hL hk
  have i1 := repin_ok h 1 (e.p + 1) (by omega) (by omega)
  clear h hf hr
  generalize (ByteArray.mk e.k.toArray) = K at *
  go_enter Try.func17, Try.ntmps17
  go_wp2_with (first
    | (go_at_call 30; refine (orNone_some _ _).mono ?_; rintro r w9 ⟨rfl, hw9⟩; replace hw9 := hw9.symm; subst hw9)
    | (go_at_call 43; refine i1.mono ?_; rintro r w1 ⟨rfl, P1⟩; have P1 := hid P1))
  go_ret
  exact ⟨rfl, P1.out.oc⟩
/-- the blocks of a pair -/
def Fw (a : Nat) (g : Option Nat) (L : List En) (x : Nat) (v : Value) (k : Nat) : Prop := Fg a g L k ∨ Fr x v k
/-- a pair -/
structure Pr (w : World) (a : Nat) (g : Option Nat) (x : Nat) (v : Value) (B c : Nat) (L : List En) (f m o : Nat) : Prop where
  ch : Ch w a g B c L f m o
  rf : Rf w x B v L f m o
  dj : ∀ k, Fg a g L k → ¬ Fr x v k
theorem Pr.lt {w : World} {a : Nat} {g : Option Nat} {x : Nat} {v : Value} {B c : Nat} {L : List En} {f m o : Nat} (h : Pr w a g x v B c L f m o) : ∀ k, Fw a g L x v k → k < w.heap.size := by
  rintro k (hk | hk)
  · exact fg_lt h.ch k hk
  · exact h.rf.lt k hk
theorem Pr.below {w w' : World} {a : Nat} {g : Option Nat} {x : Nat} {v : Value} {B c : Nat} {L : List En} {f m o : Nat} (h : Pr w a g x v B c L f m o) (b : Below w.heap.size w w') : Pr w' a g x v B c L f m o := ⟨h.ch.below b, h.rf.below b, h.dj⟩
theorem Pr.keep {S : Nat → Prop} {w w' : World} {a : Nat} {g : Option Nat} {x : Nat} {v : Value} {B c : Nat} {L : List En} {f m o : Nat} (h : Pr w a g x v B c L f m o) (k : Keep S w w') (hS : ∀ k, Fw a g L x v k → ¬ S k) : Pr w' a g x v B c L f m o := ⟨h.ch.keep k fun y hy => hS y (.inl hy), h.rf.keep k fun y hy => hS y (.inr hy), h.dj⟩
theorem Pr.mono {w : World} {a : Nat} {g : Option Nat} {x : Nat} {v : Value} {B c c' : Nat} {L : List En} {f m o : Nat} (h : Pr w a g x v B c L f m o) (hc : c ≤ c') : Pr w a g x v B c' L f m o := ⟨h.ch.mono hc, h.rf, h.dj⟩
/-- what a step has done with a pair -/
def Pw (w : World) (a : Nat) (g : Option Nat) (x : Nat) (v : Value) (B : Nat) (L : List En) (c' : Nat) (w' : World) : Prop :=
  ∃ g' v' L' f' m' o', Pr w' a g' x v' B c' L' f' m' o' ∧ Keep (Fw a g L x v) w w' ∧ ∀ k, Fw a g' L' x v' k → Fw a g L x v k ∨ w.heap.size ≤ k
theorem Pw.refl {w : World} {a : Nat} {g : Option Nat} {x : Nat} {v : Value} {B c : Nat} {L : List En} {f m o : Nat} (h : Pr w a g x v B c L f m o) : Pw w a g x v B L c w := ⟨g, v, L, f, m, o, h, keep_refl _ _, fun _ h => .inl h⟩
theorem Pw.below {w w' w'' : World} {a : Nat} {g : Option Nat} {x : Nat} {v : Value} {B c : Nat} {L : List En} (h : Pw w a g x v B L c w') (b : Below w'.heap.size w' w'') : Pw w a g x v B L c w'' := by
  obtain ⟨g', v', L', f', m', o', h1, h2, h3⟩ := h
  exact ⟨g', v', L', f', m', o', h1.below b, keep_trans h2 (keep_below b), h3⟩
theorem Pw.mono {w w' : World} {a : Nat} {g : Option Nat} {x : Nat} {v : Value} {B c c' : Nat} {L : List En} (h : Pw w a g x v B L c w') (hc : c ≤ c') : Pw w a g x v B L c' w' := by
  obtain ⟨g', v', L', f', m', o', h1, h2, h3⟩ := h
  exact ⟨g', v', L', f', m', o', h1.mono hc, h2, h3⟩
theorem Pw.trans {w w1 w2 : World} {a : Nat} {g g1 : Option Nat} {x : Nat} {v v1 : Value} {B c : Nat} {L L1 : List En} (h2 : Keep (Fw a g L x v) w w1) (h3 : ∀ k, Fw a g1 L1 x v1 k → Fw a g L x v k ∨ w.heap.size ≤ k) (h : Pw w1 a g1 x v1 B L1 c w2) : Pw w a g x v B L c w2 := by
  obtain ⟨g', v', L', f', m', o', k1, k2, k3⟩ := h
  refine ⟨g', v', L', f', m', o', k1, keep_up h2 k2 fun i hi hT => ?_, fun k hk => ?_⟩
  · rcases h3 i hT with h | h
    · exact h
    · omega
  · rcases k3 k hk with h | h
    · exact h3 k h
    · have := h2.size; exact .inr (by omega)
theorem Pr.mid {w w1 : World} {a : Nat} {g g' : Option Nat} {x : Nat} {v : Value} {B c c' : Nat} {L L' : List En} {f m o f' m' o' : Nat} (h : Pr w a g x v B c L f m o) (k : Oc w a g B L w1 g' L' c' f' m' o') : Rf w1 x B v L f m o :=
  h.rf.keep k.kp fun y hf hg => h.dj y hg hf
theorem Pr.both {w w1 w2 : World} {a : Nat} {g g' : Option Nat} {x : Nat} {v : Value} {B c c' : Nat} {L L' : List En} {f m o f' m' o' : Nat} (h : Pr w a g x v B c L f m o) (k : Oc w a g B L w1 g' L' c' f' m' o') (r : Ro w1 x B v w2 L' f' m' o') : Pw w a g x v B L c' w2 := by
  obtain ⟨⟨v', r1, r2⟩, r3⟩ := r
  have hs := k.kp.size
  have hne : ∀ y, Fg a g' L' y → ¬ Fr x v y := fun y hy hf => by
    rcases k.fg y hy with h1 | h1
    · exact h.dj y h1 hf
    · have := h.rf.lt y hf; omega
  refine ⟨g', v', L', f', m', o', ⟨k.ch.keep r3 hne, r1, fun y hy hf => ?_⟩, keep_trans (keep_mono k.kp fun _ h => .inl h) (keep_mono r3 fun _ h => .inr h), ?_⟩
  · rcases r2 y hf with h1 | h1
    · exact hne y hy h1
    · have := fg_lt k.ch y hy; omega
  · rintro y (hy | hy)
    · rcases k.fg y hy with h1 | h1
      · exact .inl (.inl h1)
      · exact .inr h1
    · rcases r2 y hy with h1 | h1
      · exact .inl (.inr h1)
      · exact .inr (by omega)
theorem Oc.ft {w w1 : World} {a : Nat} {g g' : Option Nat} {x : Nat} {v : Value} {B c' : Nat} {L L' : List En} {f' m' o' : Nat} (k : Oc w a g B L w1 g' L' c' f' m' o') : Keep (Fw a g L x v) w w1 := keep_mono k.kp fun _ h => .inl h
/-- Get of both -/
theorem get2 {w : World} {a : Nat} {g : Option Nat} {x : Nat} {v : Value} {B c : Nat} {L : List En} {f m o : Nat} (h : Pr w a g x v B c L f m o) (hc : c ≤ 1000000) (k : List UInt8) (hk : k.length ≤ 2305843009213693952) :
    ∃ V b, Calls Try.prog 11 #[.pointer (some ⟨a, 0, none⟩), .string ⟨k.toArray⟩] w fun r w1 => r = .returned (.tuple #[.string V, .bool b]) ∧ Keep (Fw a g L x v) w w1 ∧
      Calls Try.prog 13 #[.pointer (some ⟨x, 0, none⟩), .string ⟨k.toArray⟩] w1 fun r w2 => r = .returned (.tuple #[.string V, .bool b]) ∧ Pw w a g x v B L (c + 1) w2 := by
  have hb := h.ch.cb
  cases hf : fnd k L with
  | none =>
    refine ⟨⟨#[]⟩, false, (get_none' h.ch (by omega) k (by omega) hf).mono ?_⟩
    rintro r w1 ⟨rfl, P⟩
    refine ⟨rfl, P.oc.ft, (rget_none (h.mid P.oc) (by omega) (by omega) k hf).mono ?_⟩
    rintro r w2 ⟨rfl, R⟩
    exact ⟨rfl, h.both P.oc R⟩
  | some e =>
    refine ⟨⟨e.v.toArray⟩, true, (get_some' h.ch (by omega) k (by omega) hf).mono ?_⟩
    rintro r w1 ⟨rfl, P⟩
    refine ⟨rfl, P.oc.ft, (rget_some (h.mid P.oc) (by omega) (by omega) k hf).mono ?_⟩
    rintro r w2 ⟨rfl, R⟩
    exact ⟨rfl, h.both P.oc R⟩
/-- Put of both -/
theorem put2 {w : World} {a : Nat} {g : Option Nat} {x : Nat} {v : Value} {B c : Nat} {L : List En} {f m o : Nat} (h : Pr w a g x v B c L f m o) (hc : c ≤ 1000000) (k y : List UInt8) (hk : k.length ≤ 2305843009213693952) (hy : y.length ≤ 2305843009213693952) :
    ∃ z, Calls Try.prog 10 #[.pointer (some ⟨a, 0, none⟩), .string ⟨k.toArray⟩, .string ⟨y.toArray⟩] w fun r w1 => r = .returned (.int .i64 z) ∧ Keep (Fw a g L x v) w w1 ∧
      Calls Try.prog 14 #[.pointer (some ⟨x, 0, none⟩), .string ⟨k.toArray⟩, .string ⟨y.toArray⟩] w1 fun r w2 => r = .returned (.int .i64 z) ∧ Pw w a g x v B L (c + 1) w2 := by
  have hb := h.ch.cb
  have hbu := h.ch.bu
  have htt := h.ch.tt
  by_cases hB : k.length + y.length + pnd (wo k L) ≤ B
  · refine ⟨0, (put_ok' h.ch (by omega) k y hk hy hB).mono ?_⟩
    rintro r w1 ⟨rfl, b, g', o', P, E⟩
    refine ⟨rfl, P.oc.ft, ?_⟩
    cases hf : fnd k L with
    | none =>
      refine (rput_none_ok (h.mid P.oc) (by omega) (by omega) (by omega) (by omega) k y hk hy hf rfl hB).mono ?_
      rintro r w2 ⟨rfl, o2, R, E2⟩
      obtain rfl : o2 = o' := by omega
      refine ⟨rfl, h.both P.oc ?_⟩
      unfold putL pin
      rw [hf]
      exact R b
    | some e =>
      refine (rput_some_ok (h.mid P.oc) (by omega) (by omega) (by omega) (by omega) k y hk hy hf rfl hB).mono ?_
      rintro r w2 ⟨rfl, o2, R, E2⟩
      obtain rfl : o2 = o' := by omega
      refine ⟨rfl, h.both P.oc ?_⟩
      unfold putL pin
      rw [hf]
      exact R b
  · refine ⟨151, (put_long' h.ch k y hk hy (by omega)).mono ?_⟩
    rintro r w1 ⟨rfl, b1⟩
    have P := (oc_below h.ch b1).mono (Nat.le_succ c)
    refine ⟨rfl, P.ft, ?_⟩
    cases hf : fnd k L with
    | none =>
      refine (rput_none_long (h.mid P) (by omega) (by omega) (by omega) (by omega) k y hk hy hf rfl (by omega)).mono ?_
      rintro r w2 ⟨rfl, b2⟩
      exact ⟨rfl, h.both P (ro_below (h.mid P) b2)⟩
    | some e =>
      refine (rput_some_long (h.mid P) (by omega) (by omega) (by omega) (by omega) k y hk hy hf rfl (by omega)).mono ?_
      rintro r w2 ⟨rfl, b2⟩
      exact ⟨rfl, h.both P (ro_below (h.mid P) b2)⟩
/-- Drop of both -/
theorem drop2 {w : World} {a : Nat} {g : Option Nat} {x : Nat} {v : Value} {B c : Nat} {L : List En} {f m o : Nat} (h : Pr w a g x v B c L f m o) (hc : c ≤ 1000000) (k : List UInt8) (hk : k.length ≤ 2305843009213693952) :
    ∃ z, Calls Try.prog 15 #[.pointer (some ⟨a, 0, none⟩), .string ⟨k.toArray⟩] w fun r w1 => r = .returned (.int .i64 z) ∧ Keep (Fw a g L x v) w w1 ∧
      Calls Try.prog 16 #[.pointer (some ⟨x, 0, none⟩), .string ⟨k.toArray⟩] w1 fun r w2 => r = .returned (.int .i64 z) ∧ Pw w a g x v B L (c + 1) w2 := by
  have hb := h.ch.cb
  have P0 := (oc_refl h.ch).mono (Nat.le_succ c)
  cases hf : fnd k L with
  | none =>
    refine ⟨152, (drop_none h.ch k (by omega) hf).mono ?_⟩
    rintro r w1 ⟨rfl, rfl⟩
    refine ⟨rfl, P0.ft, (rdrop_none h.rf (by omega) k hf).mono ?_⟩
    rintro r w2 ⟨rfl, rfl⟩
    exact ⟨rfl, h.both P0 (ro_refl h.rf)⟩
  | some e =>
    by_cases hp : e.p = 0
    · refine ⟨0, (drop_ok h.ch (by omega) k hf hp).mono ?_⟩
      rintro r w1 ⟨rfl, P⟩
      refine ⟨rfl, P.oc.ft, (rdrop_ok (h.mid P.oc) (by omega) k hf hp).mono ?_⟩
      rintro r w2 ⟨rfl, R⟩
      exact ⟨rfl, h.both P.oc R⟩
    · refine ⟨153, (drop_bad h.ch k (by omega) hf (by omega)).mono ?_⟩
      rintro r w1 ⟨rfl, rfl⟩
      refine ⟨rfl, P0.ft, (rdrop_bad h.rf (by omega) k hf (by omega)).mono ?_⟩
      rintro r w2 ⟨rfl, rfl⟩
      exact ⟨rfl, h.both P0 (ro_refl h.rf)⟩
/-- Pin of both -/
theorem pin2 {w : World} {a : Nat} {g : Option Nat} {x : Nat} {v : Value} {B c : Nat} {L : List En} {f m o : Nat} (h : Pr w a g x v B c L f m o) (hc : c ≤ 1000000) (k : List UInt8) (hk : k.length ≤ 2305843009213693952) :
    ∃ z, Calls Try.prog 17 #[.pointer (some ⟨a, 0, none⟩), .string ⟨k.toArray⟩] w fun r w1 => r = .returned (.int .i64 z) ∧ Keep (Fw a g L x v) w w1 ∧
      Calls Try.prog 18 #[.pointer (some ⟨x, 0, none⟩), .string ⟨k.toArray⟩] w1 fun r w2 => r = .returned (.int .i64 z) ∧ Pw w a g x v B L c w2 := by
  have hb := h.ch.cb
  have P0 := oc_refl h.ch
  cases hf : fnd k L with
  | none =>
    refine ⟨152, (pin_none h.ch k (by omega) hf).mono ?_⟩
    rintro r w1 ⟨rfl, rfl⟩
    refine ⟨rfl, P0.ft, (rpin_none h.rf (by omega) k hf).mono ?_⟩
    rintro r w2 ⟨rfl, rfl⟩
    exact ⟨rfl, h.both P0 (ro_refl h.rf)⟩
  | some e =>
    have hpm := h.ch.pm e (fnd_mem hf).1
    by_cases hp : e.p = 65535
    · refine ⟨153, (pin_bad h.ch k (by omega) hf hp).mono ?_⟩
      rintro r w1 ⟨rfl, rfl⟩
      refine ⟨rfl, P0.ft, (rpin_bad h.rf (by omega) k hf hp).mono ?_⟩
      rintro r w2 ⟨rfl, rfl⟩
      exact ⟨rfl, h.both P0 (ro_refl h.rf)⟩
    · refine ⟨0, (pin_oc h.ch k hf (by omega)).mono ?_⟩
      rintro r w1 ⟨rfl, P⟩
      refine ⟨rfl, P.ft, (rpin_ok (h.mid P) (by omega) k hf (by omega) hpm).mono ?_⟩
      rintro r w2 ⟨rfl, R⟩
      exact ⟨rfl, h.both P R⟩
/-- Unpin of both -/
theorem unpin2 {w : World} {a : Nat} {g : Option Nat} {x : Nat} {v : Value} {B c : Nat} {L : List En} {f m o : Nat} (h : Pr w a g x v B c L f m o) (hc : c ≤ 1000000) (k : List UInt8) (hk : k.length ≤ 2305843009213693952) :
    ∃ z, Calls Try.prog 19 #[.pointer (some ⟨a, 0, none⟩), .string ⟨k.toArray⟩] w fun r w1 => r = .returned (.int .i64 z) ∧ Keep (Fw a g L x v) w w1 ∧
      Calls Try.prog 20 #[.pointer (some ⟨x, 0, none⟩), .string ⟨k.toArray⟩] w1 fun r w2 => r = .returned (.int .i64 z) ∧ Pw w a g x v B L (c + 1) w2 := by
  have hb := h.ch.cb
  have P0 := (oc_refl h.ch).mono (Nat.le_succ c)
  cases hf : fnd k L with
  | none =>
    refine ⟨152, (unpin_none h.ch k (by omega) hf).mono ?_⟩
    rintro r w1 ⟨rfl, rfl⟩
    refine ⟨rfl, P0.ft, (runpin_none h.rf (by omega) k hf).mono ?_⟩
    rintro r w2 ⟨rfl, rfl⟩
    exact ⟨rfl, h.both P0 (ro_refl h.rf)⟩
  | some e =>
    have hpm := h.ch.pm e (fnd_mem hf).1
    by_cases hp : e.p = 0
    · refine ⟨153, (unpin_bad h.ch k (by omega) hf hp).mono ?_⟩
      rintro r w1 ⟨rfl, rfl⟩
      refine ⟨rfl, P0.ft, (runpin_bad h.rf (by omega) k hf hp).mono ?_⟩
      rintro r w2 ⟨rfl, rfl⟩
      exact ⟨rfl, h.both P0 (ro_refl h.rf)⟩
    · refine ⟨0, (unpin_ok h.ch k hf (by omega)).mono ?_⟩
      rintro r w1 ⟨rfl, P⟩
      refine ⟨rfl, P.oc.ft, (runpin_ok (h.mid P.oc) (by omega) k hf (by omega) hpm).mono ?_⟩
      rintro r w2 ⟨rfl, R⟩
      exact ⟨rfl, h.both P.oc R⟩
end Kc
end Go.Proofs.Ytkamjpjmdibfgaa
