import Derived.Test.YtkamjpjmdibfgaaPkKR10
import Derived.Laws.FloatArith
import Derived.Test.YtkamjpjmdibfgaaPkKP8
import Derived.BigQuiet
/- Layer 15: the bits of a rate -/
namespace Go.Proofs.Ytkamjpjmdibfgaa
open Go.RowKit Go.Maps
namespace Kc
theorem cut_le (n : Nat) (h1 : 1 ≤ n) (h2 : n < 2 ^ 41) : Ieee.Toward.even.cut false (n <<< ((0 : Int) - ((n.log2 : Int) - 23)).toNat) (((n.log2 : Int) - 23) - 0).toNat ≤ 2 ^ 24 := by
  have hlt : n < 2 ^ (n.log2 + 1) := Nat.lt_log2_self
  have hl : n.log2 ≤ 40 := by
    have := (Nat.log2_lt (by omega)).2 h2
    omega
  have key : ∀ a d : Nat, a / (1 <<< min d (a.log2 + 2)) < 2 ^ 24 → Ieee.Toward.even.cut false a d ≤ 2 ^ 24 := by
    intro a d h
    unfold Ieee.Toward.cut
    dsimp only
    generalize a / (1 <<< min d (a.log2 + 2)) = x at *
    have : ∀ b : Bool, b.toNat ≤ 1 := fun b => by cases b <;> decide
    have := this (decide (1 <<< min d (a.log2 + 2) < 2 * (a % 1 <<< min d (a.log2 + 2))) || (1 <<< min d (a.log2 + 2) == 2 * (a % 1 <<< min d (a.log2 + 2)) && x % 2 == 1))
    omega
  obtain ⟨l, hL⟩ : ∃ l, n.log2 = l := ⟨_, rfl⟩
  rw [hL] at hlt hl ⊢
  by_cases c : l ≤ 23
  · have e1 : ((0 : Int) - ((l : Int) - 23)).toNat = 23 - l := by omega
    have e2 : (((l : Int) - 23) - 0).toNat = 0 := by omega
    rw [e1, e2]
    refine key _ _ ?_
    rw [Nat.zero_min, Nat.shiftLeft_zero, Nat.div_one, Nat.shiftLeft_eq]
    have : n * 2 ^ (23 - l) < 2 ^ (l + 1) * 2 ^ (23 - l) := Nat.mul_lt_mul_of_pos_right hlt (Nat.two_pow_pos _)
    rw [← Nat.pow_add] at this
    rwa [show l + 1 + (23 - l) = 24 by omega] at this
  · have e1 : ((0 : Int) - ((l : Int) - 23)).toNat = 0 := by omega
    have e2 : (((l : Int) - 23) - 0).toNat = l - 23 := by omega
    rw [e1, e2, Nat.shiftLeft_zero]
    refine key _ _ ?_
    rw [hL, Nat.min_eq_left (by omega), Nat.one_shiftLeft]
    refine Nat.div_lt_of_lt_mul ?_
    rw [← Nat.pow_add]
    rwa [show l - 23 + 24 = l + 1 by omega]
/-- a whole number that is not zero, and not too great, is a number that is not zero -/
theorem nearest_ok (n : Nat) (h1 : 1 ≤ n) (h2 : n < 2 ^ 41) : ∃ m p, Ieee.single.read (Ieee.single.nearest false n 0) = .number false m p ∧ m ≠ 0 := by
  have hc := cut_le n h1 h2
  have hl : n.log2 ≤ 40 := by
    have := (Nat.log2_lt (by omega)).2 h2
    omega
  obtain ⟨r, hr, r1, r2⟩ : ∃ r, Ieee.single.nearest false n 0 = r ∧ 8388608 ≤ r ∧ r < 255 * 8388608 := by
    refine ⟨_, rfl, ?_⟩
    unfold Ieee.Format.nearest
    rw [if_neg (by omega)]
    dsimp only
    have hlp : Ieee.single.leastPlace = -149 := by decide
    have hfb : Ieee.single.fractionBits = 23 := rfl
    have hbi : Ieee.single.binade = 8388608 := by decide
    have hir : Ieee.single.infRung = 255 * 8388608 := by decide
    rw [hlp, hfb, hbi, hir]
    have e1 : max ((0 : Int) + (n.log2 : Int) - ((23 : Nat) : Int)) (-149) = (n.log2 : Int) - 23 := by omega
    rw [e1]
    generalize Ieee.Toward.even.cut false (n <<< ((0 : Int) - ((n.log2 : Int) - 23)).toNat) (((n.log2 : Int) - 23) - 0).toNat = kept at *
    generalize n.log2 = l at *
    simp only [Ieee.Format.word, Bool.false_eq_true, if_false]
    have e2 : (((l : Int) - 23) - (-149)).toNat = l + 126 := by omega
    rw [e2]
    have : (l + 126) * 8388608 ≤ 166 * 8388608 := Nat.mul_le_mul_right _ (by omega)
    have : 126 * 8388608 ≤ (l + 126) * 8388608 := Nat.mul_le_mul_right _ (by omega)
    omega
  rw [hr]
  have hsw : Ieee.single.signWeight = 256 * 8388608 := by decide
  have hbi : Ieee.single.binade = 8388608 := by decide
  have hir : Ieee.single.infRung = 255 * 8388608 := by decide
  unfold Ieee.Format.read
  dsimp only
  rw [hsw, hbi, hir, Nat.div_eq_of_lt (by omega), Nat.mod_eq_of_lt (a := r) (by omega), if_neg (by omega), if_pos r2]
  exact ⟨_, _, rfl, by omega⟩
theorem nearest_nan (m : Nat) (p : Int) : (Ieee.single.read (Ieee.single.nearest false m p)).isNaN = false := by
  obtain ⟨r, hr, r1⟩ : ∃ r, Ieee.single.nearest false m p = r ∧ r ≤ 255 * 8388608 := by
    refine ⟨_, rfl, ?_⟩
    have hir : Ieee.single.infRung = 255 * 8388608 := by decide
    unfold Ieee.Format.nearest
    split
    · simp [Ieee.Format.word]
    · simp only [Ieee.Format.word, Bool.false_eq_true, if_false]
      rw [hir]
      exact Nat.min_le_right _ _
  rw [hr]
  have hsw : Ieee.single.signWeight = 256 * 8388608 := by decide
  have hbi : Ieee.single.binade = 8388608 := by decide
  have hir : Ieee.single.infRung = 255 * 8388608 := by decide
  unfold Ieee.Format.read
  dsimp only
  rw [hsw, hbi, hir, Nat.mod_eq_of_lt (a := r) (by omega)]
  split
  · rfl
  · split
    · rfl
    · rw [if_pos (by omega)]; rfl
theorem order_self {d : Ieee.Datum} (h : d.isNaN = false) : d.order d = some .eq := by
  cases d with
  | number s m i => simp [Ieee.Datum.order]
  | infinity s => simp [Ieee.Datum.order]
  | nan s t => cases h
/-- the rate of f found among f + m asked, its bits -/
theorem rate_bits (f s : Nat) (h1 : 1 ≤ s) (hf : f < 2 ^ 41) (hs : s < 2 ^ 41) : ∃ r, floatBits .quo .f32 (floatOfInt .f32 (f : Int)) (floatOfInt .f32 (s : Int)) = some r ∧ Ieee.single.order r r = some .eq := by
  have e : ∀ n : Nat, floatOfInt .f32 (n : Int) = Ieee.single.nearest false n 0 := fun n => by
    show Ieee.single.nearest (decide ((n : Int) < 0)) (n : Int).natAbs 0 = _
    rw [decide_eq_false (by omega)]
    rfl
  rw [e, e]
  show ∃ r, Ieee.single.div _ _ = some r ∧ _
  obtain ⟨ms, ps, hr, hm⟩ := nearest_ok s h1 hs
  obtain ⟨mf, pf, hrf⟩ : ∃ m p, Ieee.single.read (Ieee.single.nearest false f 0) = .number false m p := by
    by_cases c : f = 0
    · subst c
      exact ⟨0, -149, by decide⟩
    · obtain ⟨m, p, h, _⟩ := nearest_ok f (by omega) hf
      exact ⟨m, p, h⟩
  unfold Ieee.Format.div
  rw [hr, hrf]
  simp only [Ieee.Datum.quotient, if_neg hm, Option.map_some, Bool.xor_self]
  refine ⟨_, rfl, order_self ?_⟩
  exact nearest_nan _ _
end Kc
end Go.Proofs.Ytkamjpjmdibfgaa

/- Layer 15: Rate of both -/
namespace Go.Proofs.Ytkamjpjmdibfgaa
open Go.RowKit Go.Maps
namespace Kc
/-- the rate of f found and m missed -/
noncomputable def rt (f m : Nat) : Value := if f + m = 0 then .float .f32 0 else .float .f32 ((floatBits .quo .f32 (floatOfInt .f32 (f : Int)) (floatOfInt .f32 ((f + m : Nat) : Int))).getD 0)
theorem rt_zero {f m : Nat} (h : f + m = 0) : rt f m = .float .f32 0 := if_pos h
theorem rt_some {f m r : Nat} (h : f + m ≠ 0) (hr : floatBits .quo .f32 (floatOfInt .f32 (f : Int)) (floatOfInt .f32 ((f + m : Nat) : Int)) = some r) : rt f m = .float .f32 r := by rw [rt, if_neg h, hr]; rfl
/-- it is equal to itself -/
theorem rt_self (f m : Nat) (hf : f ≤ 1000000000000) (hm : m ≤ 1000000000000) : ∃ r, rt f m = .float .f32 r ∧ Ieee.single.order r r = some .eq := by
  by_cases c : f + m = 0
  · exact ⟨0, rt_zero c, by decide⟩
  · obtain ⟨r, hr, h⟩ := rate_bits f (f + m) (by omega) (by omega) (by omega)
    exact ⟨r, rt_some c hr, h⟩
set_option maxRecDepth 100000 in
set_option maxHeartbeats 4000000 in
theorem rate_any {w : World} {a : Nat} {g : Option Nat} {B c : Nat} {L : List En} {f m o : Nat} (h : Ch w a g B c L f m o) (hf : f ≤ 1000000000000) (hm : m ≤ 1000000000000) :
    Calls Try.prog 22 #[.pointer (some ⟨a, 0, none⟩)] w fun r w' => r = .returned (rt f m) ∧ Below w.heap.size w w' := by
  have iT := tally_any h
  unfold tal at iT
  generalize L.length = n4 at *
  generalize tot L = n5 at *
  generalize pnd L = n6 at *
  have e1 : IntKind.i64.wrap ((f : Int) + (m : Int)) = ((f + m : Nat) : Int) := by rw [IntKind.wrap_i64]; omega
  clear h
  by_cases c0 : f + m = 0
  · rw [rt_zero c0]
    obtain rfl : f = 0 := by omega
    obtain rfl : m = 0 := by omega
    clear e1 c0 hf hm
    go_enter Try.func22, Try.ntmps22
    go_wp2_with (go_at_call 12; (with_reducible refine iT.mono ?_); rintro r w1 ⟨rfl, b1⟩; have b1 := hid b1)
    go_ret
    exact ⟨rfl, b1.out.alloc b1.out.size _⟩
  · obtain ⟨r0, hr, _⟩ := rate_bits f (f + m) (by omega) (by omega) (by omega)
    rw [rt_some c0 hr]
    obtain ⟨s, hs⟩ : ∃ s, f + m = s := ⟨_, rfl⟩
    rw [hs] at hr e1 c0
    have z1 : ¬ (s : Int) = 0 := by omega
    have z2 : ((s : Int) == 0) = false := by rw [beq_eq_false_iff_ne]; exact z1
    have hop : ∀ t w, (binOp .quo t (.float .f32 (floatOfInt .f32 (f : Int))) (.float .f32 (floatOfInt .f32 (s : Int)))).run Try.prog w = .ok (.float .f32 r0) w := fun t w => run_float_arith w .quo t .f32 _ _ r0 hr
    clear hs hf hm c0 hr
    go_enter Try.func22, Try.ntmps22
    go_wp2_with (go_at_call 12; (with_reducible refine iT.mono ?_); rintro r w1 ⟨rfl, b1⟩; have b1 := hid b1)
    go_ret
    exact ⟨rfl, b1.out.alloc b1.out.size _⟩
set_option maxRecDepth 100000 in
set_option maxHeartbeats 4000000 in
theorem rrate_any {w : World} {a B : Nat} {v : Value} {L : List En} {f m o : Nat} (h : Rf w a B v L f m o) (hf : f ≤ 1000000000000) (hm : m ≤ 1000000000000) :
    Calls Try.prog 23 #[.pointer (some ⟨a, 0, none⟩)] w fun r w' => r = .returned (rt f m) ∧ Below w.heap.size w w' := by
  have c2 := h.cs.2.2.1
  have c3 := h.cs.2.2.2.1
  have e1 : IntKind.i64.wrap ((f : Int) + (m : Int)) = ((f + m : Nat) : Int) := by rw [IntKind.wrap_i64]; omega
  clear h
  by_cases c0 : f + m = 0
  · rw [rt_zero c0]
    obtain rfl : f = 0 := by omega
    obtain rfl : m = 0 := by omega
    clear e1 c0 hf hm
    go_enter Try.func23, Try.ntmps23
    go_wp2
    go_quiet (fail)
    go_wp2
    go_ret
    exact ⟨rfl, ⟨rfl, rfl, rfl, Nat.le_refl _, fun _ _ => rfl⟩⟩
  · obtain ⟨r0, hr, _⟩ := rate_bits f (f + m) (by omega) (by omega) (by omega)
    rw [rt_some c0 hr]
    obtain ⟨s, hs⟩ : ∃ s, f + m = s := ⟨_, rfl⟩
    rw [hs] at hr e1 c0
    have z1 : ¬ (s : Int) = 0 := by omega
    have z2 : ((s : Int) == 0) = false := by rw [beq_eq_false_iff_ne]; exact z1
    have hop : ∀ t w, (binOp .quo t (.float .f32 (floatOfInt .f32 (f : Int))) (.float .f32 (floatOfInt .f32 (s : Int)))).run Try.prog w = .ok (.float .f32 r0) w := fun t w => run_float_arith w .quo t .f32 _ _ r0 hr
    clear hs hf hm c0 hr
    go_enter Try.func23, Try.ntmps23
    go_wp2
    go_quiet (fail)
    go_wp2
    go_quiet (fail)
    go_wp2
    go_ret
    exact ⟨rfl, ⟨rfl, rfl, rfl, Nat.le_refl _, fun _ _ => rfl⟩⟩
end Kc
end Go.Proofs.Ytkamjpjmdibfgaa
