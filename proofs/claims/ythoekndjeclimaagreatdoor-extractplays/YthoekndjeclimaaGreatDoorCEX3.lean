import Derived.Test.YthoekndjeclimaaGreatDoorCEX1
import Derived.Test.YthoekndjeclimaaGreatDoorCEP13
/- which proofs begin with their first hash: those from a size that is no power of two -/
namespace Go.Proofs.YthoekndjeclimaaGreatDoor
namespace Tree
theorem St_zero : ∀ (f p l : Nat), p ≤ f → ((St p l).1 = 0 ↔ ∃ j, p + 1 = 2 ^ j)
  | f, p, l, hf => by
    by_cases h : p % 2 = 1
    · match f, hf with
      | 0, hf => omega
      | f + 1, hf =>
      rw [St_odd _ h, St_zero f (p / 2) (l / 2) (by omega)]
      constructor
      · rintro ⟨j, hj⟩
        exact ⟨j + 1, by rw [Nat.pow_succ]; omega⟩
      · rintro ⟨j, hj⟩
        match j, hj with
        | 0, hj => simp at hj; omega
        | j + 1, hj => exact ⟨j, by rw [Nat.pow_succ] at hj; omega⟩
    · rw [St_even _ h]
      constructor
      · intro e
        have e : p = 0 := e
        exact ⟨0, by simp; omega⟩
      · rintro ⟨j, hj⟩
        show p = 0
        match j, hj with
        | 0, hj => simp at hj; omega
        | j + 1, hj => rw [Nat.pow_succ] at hj; omega
/-- a size is a power of two: told by what it is made of -/
def pw (m : Nat) : Bool := [1, 2, 4, 8, 16, 32, 64, 128, 256, 512, 1024, 2048, 4096].contains m
theorem pw_iff {m : Nat} (h : m ≤ 4096) : pw m = true ↔ ∃ j, m = 2 ^ j := by
  constructor
  · intro h1
    have h2 : m ∈ [1, 2, 4, 8, 16, 32, 64, 128, 256, 512, 1024, 2048, 4096] := by simpa [pw] using h1
    simp only [List.mem_cons, List.not_mem_nil, or_false] at h2
    rcases h2 with rfl | rfl | rfl | rfl | rfl | rfl | rfl | rfl | rfl | rfl | rfl | rfl | rfl
    · exact ⟨0, rfl⟩
    · exact ⟨1, rfl⟩
    · exact ⟨2, rfl⟩
    · exact ⟨3, rfl⟩
    · exact ⟨4, rfl⟩
    · exact ⟨5, rfl⟩
    · exact ⟨6, rfl⟩
    · exact ⟨7, rfl⟩
    · exact ⟨8, rfl⟩
    · exact ⟨9, rfl⟩
    · exact ⟨10, rfl⟩
    · exact ⟨11, rfl⟩
    · exact ⟨12, rfl⟩
  · rintro ⟨j, rfl⟩
    have hj : j < 13 := by
      refine Nat.lt_of_not_le fun hle => ?_
      have := Nat.pow_le_pow_right (n := 2) (by decide) hle
      omega
    have : ∀ j : Fin 13, pw (2 ^ j.val) = true := by decide
    exact this ⟨j, hj⟩
theorem fl_pw {m n : Nat} (h1 : 1 ≤ m) (h2 : m < n) (h3 : m ≤ 4096) : fl m n true = !pw m := by
  have h := (PD_SU n m n (Nat.le_refl _) h1 h2).2
  unfold fl
  rw [h]
  have hz := St_zero (m - 1) (m - 1) (n - 1) (Nat.le_refl _)
  rw [show m - 1 + 1 = m by omega, ← pw_iff h3] at hz
  by_cases hp : pw m = true
  · rw [hp]
    have := hz.2 hp
    simp [this]
  · have hp' : pw m = false := by simpa using hp
    have : ¬ (St (m - 1) (n - 1)).1 = 0 := fun e => hp (hz.1 e)
    simp [hp', this]
end Tree
end Go.Proofs.YthoekndjeclimaaGreatDoor

namespace Go.Proofs.YthoekndjeclimaaGreatDoor
open Go.RowKit
set_option maxRecDepth 100000 in
set_option maxHeartbeats 800000 in
theorem ones64_any (m : Nat) (h : m ≤ 4096) (w : World) : Calls Tryz.prog 86 #[.int .u64 (m : Int)] w fun e w' => ∃ c : Int, e = .returned (.int .i64 c) ∧ w' = w ∧ (c == 1) = Tree.pw m := by
  go_enter Tryz.func86, Tryz.ntmps86
  go_wp2
  go_ret
  refine ⟨_, rfl, rfl, ?_⟩
  clear w
  revert h
  revert m
  decide +kernel
set_option maxRecDepth 100000 in
set_option maxHeartbeats 400000 in
theorem ones_any (m : Nat) (h : m ≤ 4096) (w : World) : Calls Tryz.prog 58 #[.int .u64 (m : Int)] w fun e w' => ∃ c : Int, e = .returned (.int .i64 c) ∧ w' = w ∧ (c == 1) = Tree.pw m := by
  have i1 := ones64_any m h w
  go_enter Tryz.func58, Tryz.ntmps58
  go_wp2_with (go_at_call 86; fail)
  refine i1.mono ?_
  rintro e w1 ⟨c, rfl, rfl, hc⟩
  go_wp2
  go_ret
  exact ⟨c, rfl, rfl, hc⟩
end Go.Proofs.YthoekndjeclimaaGreatDoor

namespace Go.Proofs.YthoekndjeclimaaGreatDoor
open Go.RowKit
theorem fvs_take : ∀ (l : List Tree.Fork) (k : Nat), fvs (l.take k) = (fvs l).take (k * 4)
  | [], k => by simp [fvs]
  | f :: l, 0 => by simp [fvs]
  | f :: l, k + 1 => by
    have h4 : (fcs f).length = 4 := rfl
    rw [List.take_succ_cons, fvs, fvs, fvs_take l k, List.take_append, h4, show (k + 1) * 4 - 4 = k * 4 by omega]
    congr 1
    exact (List.take_of_length_le (by omega)).symm
theorem cutE_take : ∀ (m : Nat) (l : List Tree.Fork) (k : Nat), k ≤ l.length → (∀ j f, j < k → l[j]? = some f → Tree.fkE f ≠ m) → (k = l.length ∨ ∃ f, l[k]? = some f ∧ Tree.fkE f = m) → Tree.cutE m l = l.take k
  | m, [], k, hk, _, _ => by simp at hk; subst hk; rfl
  | m, f :: l, 0, _, _, h => by
    rcases h with h | ⟨g, h1, h2⟩
    · simp at h
    · simp at h1
      subst h1
      rw [Tree.cutE_stop h2, List.take_zero]
  | m, f :: l, k + 1, hk, h, h' => by
    rw [Tree.cutE_go (h 0 f (by omega) rfl), List.take_succ_cons, cutE_take m l k (by simpa using hk) (fun j g hj hg => h (j + 1) g (by omega) (by simpa using hg)) (by
      rcases h' with h' | ⟨g, h1, h2⟩
      · exact .inl (by simpa using h')
      · exact .inr ⟨g, by simpa using h1, h2⟩)]
set_option maxRecDepth 100000 in
set_option maxHeartbeats 2000000 in
theorem proofForks_any (n m : Nat) (hn : n ≤ 1099511627776) (hm : 1 ≤ m) (hmn : m ≤ n) (w : World) :
    Calls Tryz.prog 59 #[.int .i64 (n : Int), .int .i64 (m : Int)] w fun e w' => ∃ v, e = .returned v ∧ Fks w' w.heap.size v (Tree.cutE m (Tree.fks n 0 n (m - 1))) ∧ Below w.heap.size w w' := by
  have hlen : (Tree.fks n 0 n (m - 1)).length ≤ 1000 := by rw [fks_length]; exact D_len hn (by omega)
  have i1 := pathForks_any n (m - 1) hn (by omega) hlen w
  obtain ⟨m', hm'⟩ : ∃ m', Hid (m - 1 = m') := ⟨_, rfl⟩
  rw [hm'.out] at i1 hlen ⊢
  obtain ⟨fk, hfk⟩ : ∃ fk, Tree.fks n 0 n m' = fk := ⟨_, rfl⟩
  rw [hfk] at i1 hlen ⊢
  clear hfk
  have e1 : (m : Int) - 1 = (m' : Int) := by have := hm'.out; omega
  have HL := hid hlen
  clear hlen
  go_enter Tryz.func59, Tryz.ntmps59
  go_wp2_with (go_at_call 24; fail)
  refine i1.mono ?_
  rintro e w1 ⟨v1, rfl, F1, b1⟩
  obtain ⟨a1, c1, rfl, k1, k2⟩ := F1.1.shape
  have HF := hid F1
  have HB := hid b1
  clear F1 b1 i1
  obtain ⟨nf, hnf⟩ : ∃ nf, Hid (fk.length = nf) := ⟨_, rfl⟩
  rw [hnf.out] at HF k1 HL ⊢
  have hl1 := HL.out
  go_wp2
  go_loopw [14] (fun i w' => ∃ k : Nat, i = .int .i64 (k : Int) ∧ k ≤ nf ∧ Hid (∀ j f, j < k → fk[j]? = some f → Tree.fkE f ≠ m) ∧ Hid (Below w1.heap.size w1 w')) (fun i _ => nf - (intOf i).toNat)
  case atStart => exact ⟨0, rfl, by omega, hid (fun j f hj => by omega), hid (Below.refl _ _)⟩
  case round =>
    obtain ⟨k, rfl, hk, hno, hb⟩ := hrel
    by_cases hkn : k < nf
    · have c0 : (k : Int) < (nf : Int) := by omega
      obtain ⟨f, hf⟩ : ∃ f, Hid (fk[k]? = some f) := ⟨_, List.getElem?_eq_getElem (by have := hnf.out; omega)⟩
      have HF2 := HF.out.below hb.out
      obtain ⟨z1, z2, z3, z4⟩ := fvs_get fk k f hf.out
      have HM := HF2.1
      rw [hnf.out] at HM
      obtain ⟨g, cc, ev, x0, hgl⟩ := HM.cell z1
      obtain ⟨g', cc', ev', x1, _⟩ := HM.cell z2
      obtain ⟨g'', cc'', ev'', x2, _⟩ := HM.cell z3
      obtain ⟨g3, cc3, ev3, x3, _⟩ := HM.cell z4
      injection ev with ea eb ec
      injection ev' with ea' eb' ec'
      injection ev'' with ea'' eb'' ec''
      injection ev3 with ea3 eb3 ec3
      subst ea
      injection ea' with ea'
      injection ea' with ea'
      injection ea'' with ea''
      injection ea'' with ea''
      injection ea3 with ea3
      injection ea3 with ea3
      subst ea' ea'' ea3
      rw [Nat.mul_comm 4 k] at x0 x1 x2 x3
      clear ec ec' ec'' ec3 eb eb' eb'' eb3 z1 z2 z3 z4 HM HF2
      have HB2 := hid (HB.out.trans (hb.out.mono HB.out.size))
      by_cases hq : Tree.fkE f = m
      · have q1 : ((Tree.fkE f : Int) == (m : Int)) = true := by rw [hq]; simp
        have q2 : (Tree.fkE f == m) = true := by rw [hq]; simp
        have hcut := cutE_take m fk k (by have := hnf.out; omega) hno.out (.inr ⟨f, hf.out, hq⟩)
        have HC : Hid (Fks wr w.heap.size (.slice (some ⟨g, 0, none⟩) k c1) (Tree.cutE m fk)) := by
          have h1 := (HF.out.below hb.out)
          have h2 := h1.1
          rw [hnf.out] at h2
          have h3 := h2.cut (show k ≤ nf by omega)
          rw [← fvs_take] at h3
          have h4 : (fk.take k).length = k := by rw [List.length_take]; have := hnf.out; omega
          unfold Hid
          rw [hcut]
          refine ⟨?_, h1.2⟩
          rw [h4]
          exact h3
        have m1 : (k : Int) ≤ (nf : Int) := by omega
        have m2 : (k : Int) ≤ (c1 : Int) := by omega
        clear hcut hf hno hq
        go_wp2
        go_ret
        exact ⟨_, rfl, HC.out.below ((Below.refl _ _).alloc (Nat.le_refl _) _), HB2.out.trans (((Below.refl _ _).alloc (Nat.le_refl _) _).mono HB2.out.size)⟩
      · have q1 : ((Tree.fkE f : Int) == (m : Int)) = false := beq_false_of_ne (by omega)
        have q2 : (Tree.fkE f == m) = false := beq_false_of_ne hq
        have hno' : Hid (∀ j f, j < k + 1 → fk[j]? = some f → Tree.fkE f ≠ m) := fun j f' hj hf' => by
          by_cases hjk : j < k
          · exact hno.out j f' hjk hf'
          · obtain rfl : j = k := by omega
            rw [hf.out] at hf'
            injection hf' with hf'
            rw [← hf']; exact hq
        clear hf hno hq
        go_wp2
        exact ⟨⟨k + 1, by go_num, by omega, hno', hid (hb.out.trans (((Below.refl _ _).alloc (Nat.le_refl _) _).mono hb.out.size))⟩, by simp [intOf]; omega⟩
    · obtain rfl : k = nf := by omega
      have c0 : ¬ (k : Int) < (k : Int) := by omega
      have hcut := cutE_take m fk k (by have := hnf.out; omega) hno.out (.inl hnf.out.symm)
      have HC : Hid (Fks wr w.heap.size (.slice a1 k c1) (Tree.cutE m fk)) := by
        unfold Hid
        rw [hcut, List.take_of_length_le (by have := hnf.out; omega)]
        exact HF.out.below hb.out
      have HB2 := hid (HB.out.trans (hb.out.mono HB.out.size))
      clear hcut hno
      go_wp2
      go_ret
      exact ⟨_, rfl, HC.out, HB2.out⟩
end Go.Proofs.YthoekndjeclimaaGreatDoor
