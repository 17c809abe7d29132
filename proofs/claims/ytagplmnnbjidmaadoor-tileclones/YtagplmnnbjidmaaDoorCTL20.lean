import Derived.Test.YtagplmnnbjidmaaDoorCTL16
import Derived.Deep.CutRange
import Derived.Test.YtagplmnnbjidmaaDoorCK3
import Derived.Test.YtagplmnnbjidmaaDoorCFR6
namespace Go.Proofs.YtagplmnnbjidmaaDoor
open Go.RowKit
set_option maxRecDepth 100000 in
set_option maxHeartbeats 4000000 in
theorem ttile_any {w : World} {q h : Nat} {L : List (List UInt8)} {F : Nat → Prop} (t : TrL w q h L F) (l i : Int) (hi1 : -9223372036854775808 ≤ i) (hi2 : i ≤ 9223372036854775807) :
    Calls Tryd.prog 37 #[.pointer (some ⟨q, 0, none⟩), .int .i64 l, .int .i64 i] w fun r w' => ∃ a cap, r = .returned (.slice a (tileO L h l i).length cap) ∧ At w' a (tileO L h l i) ∧ Below w.heap.size w w' := by
  have hL20 := t.n20
  have h8 := t.h8
  obtain ⟨⟨b, es, t1, rfl⟩, _, _, _, _, _⟩ := t
  obtain ⟨n, hn⟩ : ∃ n, L.length = n := ⟨_, rfl⟩
  obtain ⟨c, hc64, hcl, hlen⟩ := blen n (by omega) w
  have u1 : IntKind.u64.wrap (n : Int) = (n : Int) := by rw [IntKind.wrap_u64]; omega
  have q0 := t1.c0
  have q1 := t1.c1
  have q2 := t1.c2
  rw [hn] at q1
  by_cases h0 : l < 0
  · have hO : tileO L h l i = [] := by unfold tileO; rw [if_neg (by omega)]
    rw [hO]
    clear hcl hlen hO t1
    go_enter Tryd.func37, Tryd.ntmps37
    go_wp2
    go_ret
    exact ⟨none, 0, rfl, fun j p hp => by simp at hp, Below.refl _ _⟩
  · obtain ⟨l', rfl⟩ : ∃ l' : Nat, l = (l' : Int) := ⟨l.toNat, by omega⟩
    have h0' : ¬ (l' : Int) < 0 := by omega
    by_cases h1 : l' < c
    · have h1' : ¬ (l' : Int) ≥ (c : Int) := by omega
      have hO : tileO L h (l' : Int) i = Til.rf L h (Til.cn L.length) (((l' * h : Nat) : Int), i) := by
        unfold tileO
        rw [if_pos ⟨by omega, by rw [Int.toNat_natCast, hn]; exact (hcl l').2 h1⟩]
        rw [Int.natCast_mul]
      have hm : l' * h ≤ 64 * 8 := Nat.mul_le_mul (by omega) h8
      have s1 : IntKind.i64.wrap ((l' : Int) * (h : Int)) = ((l' * h : Nat) : Int) := by rw [← Int.natCast_mul]; exact wrap_small _ (by omega) (by omega)
      obtain ⟨m, hm2⟩ : ∃ m, l' * h = m := ⟨_, rfl⟩
      rw [hm2] at s1 hO hm
      obtain ⟨o3, _⟩ := t1.at ((m : Int), i)
      obtain ⟨a, cap, hv, hA, hln, hcp⟩ := o3.at
      have hlk := (t1.mp.heap (w' := w.drew) rfl).lookup (p := ((m : Int), i)) ⟨⟨by simp only; omega, by simp only; omega⟩, hi1, hi2⟩
      rw [hv] at hlk
      rw [hO]
      have HA := hid hA
      obtain ⟨k, hk⟩ : ∃ k, (Til.rf L h (Til.cn L.length) ((m : Int), i)).length = k := ⟨_, rfl⟩
      rw [hk] at hlk ⊢
      have hlk2 : (Instr.lookup 71 (.map (some b)) (.agg #[.int .i64 (m : Int), .int .i64 i]) false).run Tryd.prog w.drew = .ok (.slice a k cap) w.drew := hlk
      have S0 : w.cell? ⟨q, 2, none⟩ = some (.map (some b)) ∧ w.cell? ⟨q, 0, none⟩ = some (.int .i64 (h : Int)) := ⟨q2, q0⟩
      clear hcl hlk hv hA o3 hO hm2 t1 hk hm
      go_enter Tryd.func37, Tryd.ntmps37
      go_wp2_with (go_at_call 62; refine hlen.mono ?_; rintro e w0 ⟨rfl, h0⟩; have h0 := h0.symm; subst h0)
      go_region_held3 (fun w' => w'.cell? ⟨q, 2, none⟩ = some (.map (some b)) ∧ w'.cell? ⟨q, 0, none⟩ = some (.int .i64 (h : Int))) (exact S0) (fail)
      go_wp2
      go_ret
      exact ⟨a, cap, rfl, HA.out, (Below.refl _ _).drew⟩
    · have h1' : (l' : Int) ≥ (c : Int) := by omega
      have hO : tileO L h (l' : Int) i = [] := by
        unfold tileO
        rw [if_neg (fun x => h1 ((hcl l').1 (by have := x.2; rw [Int.toNat_natCast, hn] at this; exact this)))]
      rw [hO]
      clear hcl hO t1
      go_enter Tryd.func37, Tryd.ntmps37
      go_wp2_with (go_at_call 62; refine hlen.mono ?_; rintro e w0 ⟨rfl, h0⟩; have h0 := h0.symm; subst h0)
      go_ret
      exact ⟨none, 0, rfl, fun j p hp => by simp at hp, Below.refl _ _⟩
/-- what Tile answers: none, or a list of its own -/
def TileP (w : World) (l : List (List UInt8)) (r : Ending) (w' : World) : Prop :=
  Below w.heap.size w w' ∧ if l = [] then r = .returned (.tuple #[.slice none 0 0, .int .i64 72]) else ∃ g, w.heap.size ≤ g ∧ r = .returned (.tuple #[.slice (some ⟨g, 0, none⟩) l.length l.length, .int .i64 0]) ∧ Row w' g l
theorem tileO_len {w : World} {q h : Nat} {L : List (List UInt8)} {F : Nat → Prop} (t : TrL w q h L F) (l i : Int) : (tileO L h l i).length ≤ 2000000 := by
  unfold tileO
  split
  · exact Til.rf_len L h t.h8 _ _
  · simp
set_option maxRecDepth 100000 in
set_option maxHeartbeats 4000000 in
theorem tTile_any {w : World} {q h : Nat} {L : List (List UInt8)} {F : Nat → Prop} (t : TrL w q h L F) (l i : Int) (hi1 : -9223372036854775808 ≤ i) (hi2 : i ≤ 9223372036854775807) :
    Calls Tryd.prog 13 #[.pointer (some ⟨q, 0, none⟩), .int .i64 l, .int .i64 i] w (TileP w (tileO L h l i)) := by
  have i1 := ttile_any t l i hi1 hi2
  have hlen := tileO_len t l i
  generalize tileO L h l i = O at *
  obtain ⟨n, hn⟩ : ∃ n, O.length = n := ⟨_, rfl⟩
  rw [hn] at i1 hlen
  clear t
  by_cases hnil : O = []
  · subst hnil
    obtain rfl : n = 0 := by rw [← hn]; rfl
    go_enter Tryd.func13, Tryd.ntmps13
    go_wp2_with (first
      | (go_at_call 33; refine (tOrNone_any q w).mono ?_; rintro e w0 ⟨rfl, h0⟩; have h0 := h0.symm; subst h0)
      | (go_at_call 37; refine i1.mono ?_; rintro r w2 ⟨a, cap, rfl, hA, hw2⟩))
    go_ret2
    exact ⟨hw2, by rw [if_pos rfl]; rfl⟩
  · have hn0 : n ≠ 0 := fun e => hnil (List.eq_nil_of_length_eq_zero (by omega))
    have c0 : ((n : Int) == 0) = false := by simp; omega
    go_enter Tryd.func13, Tryd.ntmps13
    go_wp2_with (first
      | (go_at_call 33; refine (tOrNone_any q w).mono ?_; rintro e w0 ⟨rfl, h0⟩; have h0 := h0.symm; subst h0)
      | (go_at_call 37; fail))
    refine i1.mono ?_
    rintro r w2 ⟨a, cap, rfl, hA, hw2⟩
    have i2 := tcopied_any O a cap w2 (by omega) hA
    rw [hn] at i2
    clear i1 hA
    go_wp2_with (go_at_call 38; refine i2.mono ?_; rintro r w3 ⟨rfl, R3, hw3⟩)
    go_ret2
    refine ⟨hw2.trans (hw3.mono hw2.size), ?_⟩
    rw [if_neg hnil, hn]
    exact ⟨w2.heap.size, hw2.size, rfl, R3⟩
end Go.Proofs.YtagplmnnbjidmaaDoor

namespace Go.Proofs.YtagplmnnbjidmaaDoor
open Go.RowKit
/-- how many complete subtrees there are below level k -/
def Sm (n : Nat) : Nat → Nat
  | 0 => 0
  | k + 1 => Sm n k + n / 2 ^ k
theorem half_pow (n k : Nat) : n / 2 ^ (k + 1) = n / 2 ^ k / 2 := by rw [Nat.pow_succ, Nat.div_div_eq_div_mul]
theorem Sm_lt {n : Nat} (hn : 1 ≤ n) : ∀ k, Sm n (k + 1) + (if n / 2 ^ k = 0 then 1 else n / 2 ^ k) ≤ 2 * n
  | 0 => by
    rw [Sm, Sm, Nat.pow_zero, Nat.div_one]
    split <;> omega
  | k + 1 => by
    have ih := Sm_lt hn k
    rw [Sm, half_pow]
    generalize n / 2 ^ k = A at *
    split at ih <;> split <;> omega
theorem Sm_le (n k : Nat) : Sm n k ≤ 2 * n := by
  cases k with
  | zero => rw [Sm]; omega
  | succ k =>
    rcases Nat.eq_zero_or_pos n with h | h
    · subst h
      have : ∀ j, Sm 0 j = 0 := fun j => by
        induction j with
        | zero => rfl
        | succ j ih => rw [Sm, ih, Nat.zero_div]
      rw [this]; omega
    · have := Sm_lt h k
      generalize n / 2 ^ k = A at this
      split at this <;> omega
theorem Sm_less {n k : Nat} (hn : 1 ≤ n) : Sm n (k + 1) < 2 * n := by
  have := Sm_lt hn k
  generalize n / 2 ^ k = A at this
  split at this <;> omega
/-- a hash in its tile -/
theorem tileO_at {L : List (List UInt8)} {h l i : Nat} (hl : l % h = 0) (hi : i < L.length / 2 ^ l) : (tileO L h ((l / h : Nat) : Int) ((i / 2 ^ h : Nat) : Int))[i % 2 ^ h]? = some (Til.hs L l i) := by
  have e1 : l / h * h = l := by have := Nat.div_add_mod l h; rw [hl, Nat.add_zero, Nat.mul_comm] at this; exact this
  have h1 : 2 ^ l ≤ L.length := by
    rcases Nat.lt_or_ge L.length (2 ^ l) with h2 | h2
    · rw [Nat.div_eq_of_lt h2] at hi; omega
    · exact h2
  have h2 : 2 ^ (l / h) ≤ 2 ^ l := Nat.pow_le_pow_right (by omega) (Nat.div_le_self _ _)
  unfold tileO
  rw [if_pos ⟨Int.natCast_nonneg _, by rw [Int.toNat_natCast]; omega⟩, ← Int.natCast_mul, e1, Til.rf_nat]
  exact Til.row_at hi
theorem tTile_ok {w : World} {q h : Nat} {L : List (List UInt8)} {F : Nat → Prop} (t : TrL w q h L F) (l i j : Nat) {x : List UInt8} (hx : (tileO L h (l : Int) (i : Int))[j]? = some x) (hi2 : i ≤ 9223372036854775807) :
    Calls Tryd.prog 13 #[.pointer (some ⟨q, 0, none⟩), .int .i64 (l : Int), .int .i64 (i : Int)] w fun r w' => ∃ g n, r = .returned (.tuple #[.slice (some ⟨g, 0, none⟩) n n, .int .i64 0]) ∧ j < n ∧ n ≤ 2000000 ∧ w'.cell? ⟨g, j, none⟩ = some (sv x) ∧ Below w.heap.size w w' := by
  have hlen := tileO_len t (l : Int) (i : Int)
  refine (tTile_any t (l : Int) (i : Int) (by omega) (by omega)).mono ?_
  rintro r w' ⟨hb, h⟩
  rw [if_neg (fun e => by rw [e] at hx; simp at hx)] at h
  obtain ⟨g, _, rfl, R⟩ := h
  exact ⟨g, _, rfl, (List.getElem?_eq_some_iff.1 hx).1, hlen, R.cell hx, hb⟩
end Go.Proofs.YtagplmnnbjidmaaDoor

namespace Go.Proofs.YtagplmnnbjidmaaDoor
open Go.RowKit
set_option maxRecDepth 100000 in
set_option maxHeartbeats 8000000 in
theorem tiles_any (one two : Int) (cs : List Int) (a : Option Addr) (ca : Nat) (w : World) (h1 : -9223372036854775808 ≤ one ∧ one ≤ 9223372036854775807) (h2 : -9223372036854775808 ≤ two ∧ two ≤ 9223372036854775807) (hcs : cs.length ≤ 9223372036854775807) (hA : AtI w a cs) (Z : Tb w) :
    Calls Tryd.prog 3 #[.int .i64 one, .int .i64 two, .slice a cs.length ca] w fun e w' => e = .returned (.bool true) ∧ Below w.heap.size w w' := by
  have HZ := hid Z
  have HA := hid hA
  have hT := Z.lt
  clear Z hA
  go_enter Tryd.func3, Tryd.ntmps3
  go_wp2_with (go_at_call 7; fail)
  refine (tknown_any _ HZ.out).mono ?_
  rintro e w1 ⟨rfl, hw1⟩
  have B1 := hid hw1
  have i1 := tfilled_any one cs 600 (by omega) a ca w1 h1.1 h1.2 hcs (HA.out.below hw1 (Nat.le_refl _)) (HZ.out.below hw1 hT)
  rw [show ((600 : Nat) : Int) = 600 from rfl] at i1
  clear hw1
  go_wp2_with (go_at_call 8; fail)
  refine i1.mono ?_
  rintro e w2 ⟨qa, ha, Fa, rfl, hha, Ta, hFa, hw2⟩
  have B2 := hid (B1.out.trans (hw2.mono B1.out.size))
  have Ta := hid Ta
  have i2 := tfilled_any two cs 600 (by omega) a ca w2 h2.1 h2.2 hcs (HA.out.below B2.out (Nat.le_refl _)) (HZ.out.below B2.out hT)
  rw [show ((600 : Nat) : Int) = 600 from rfl] at i2
  clear i1 hw2 hFa hha
  go_wp2_with (go_at_call 8; fail)
  refine i2.mono ?_
  rintro e w3 ⟨qb, hb, Fb', rfl, hhb, Tb3, hFb, hw3⟩
  have B3 := hid (B2.out.trans (hw3.mono B2.out.size))
  have Ta := hid (Ta.out.below hw3)
  have Tb3 := hid Tb3
  have Z3 := hid (HZ.out.below B3.out hT)
  have hlen := nums_len cs 600
  have hLs := hid (nums_hs cs 600)
  clear i2 hw3 hFb hhb B2 B1 HA
  generalize nums cs 600 = L at *
  obtain ⟨n, hn⟩ : ∃ n, Hid (L.length = n) := ⟨_, rfl⟩
  rw [hn.out] at hlen
  have hn600 : n ≤ 600 := by omega
  clear hlen
  have i3 := tHeightL Ta.out
  have hh1 := Ta.out.h1
  have hh8 := Ta.out.h8
  go_wp2_with (go_at_call 9; refine i3.mono ?_; rintro e w0 ⟨rfl, h0⟩; have h0 := h0.symm; subst h0)
  clear i3
  go_loopw [12, 11] (fun lv mv w' => ∃ (l : Nat), l ≤ 11 ∧ lv = .int .i64 (l : Int) ∧ mv = .int .i64 ((Sm n l : Nat) : Int) ∧ Hid (Below w3.heap.size w3 w')) (fun lv _ _ => 11 - (intOf lv).toNat)
  case atStart => exact ⟨0, by omega, rfl, rfl, Below.refl _ _⟩
  case round =>
    obtain ⟨l, hl, rfl, rfl, hB⟩ := hrel
    have hS0 := Sm_le n l
    by_cases hl11 : l < 11
    · have c0 : (l : Int) < 11 := by omega
      have l0 : (0 : Int) ≤ (l : Int) := by omega
      have l1 : (l : Int) ≤ 64 := by omega
      obtain ⟨m, hm⟩ : ∃ m, Hid (n / 2 ^ l = m) := ⟨_, rfl⟩
      have sh : (n : Int) / 2 ^ l = (m : Int) := by rw [← hm.out]; simp
      have hS1 := Sm_le n (l + 1)
      rw [Sm, hm.out] at hS1
      obtain ⟨S, hS⟩ : ∃ S, Sm n l = S := ⟨_, rfl⟩
      have HS : Hid (Sm n (l + 1) = S + m) := by unfold Hid; rw [Sm, hm.out, hS]
      rw [hS] at hS0 hS1 ⊢
      clear hS
      have iS := fun w' (bb : Below w3.heap.size w3 w') => tSizeL (Ta.out.below bb)
      rw [hn.out] at iS
      go_wp2
      go_loopw [13, 11] (fun iv mv w' => ∃ (i : Nat), i ≤ m ∧ iv = .int .i64 (i : Int) ∧ mv = .int .i64 ((S + i : Nat) : Int) ∧ Hid (Below w3.heap.size w3 w')) (fun iv _ _ => m - (intOf iv).toNat)
      case atStart => exact ⟨0, by omega, rfl, rfl, hB⟩
      case round =>
        clear hB
        obtain ⟨i, hi, rfl, rfl, hB⟩ := hrel
        have iS0 := iS _ hB.out
        by_cases him : i < m
        · have c1 : (i : Int) < (m : Int) := by omega
          have hiL : i < L.length / 2 ^ l := by rw [hn.out, hm.out]; exact him
          obtain ⟨x, hx⟩ : ∃ x, Til.hs L l i = x := ⟨_, rfl⟩
          have lx : x.length = 32 := by rw [← hx]; exact Til.hs_hash hLs.out l i
          have iA := tHash_ok (Ta.out.below hB.out) l i (by omega) hiL hx
          have iB := fun w' (bb : Below w3.heap.size w3 w') => tHash_ok (Tb3.out.below bb) l i (by omega) hiL hx
          have HX := hid hx
          have HIL := hid hiL
          rw [svS x] at iA iB
          have rr1 : ((ByteArray.mk x.toArray).toList != (ByteArray.mk x.toArray).toList) = false := by simp
          clear hx hiL
          go_wp2_with (first
            | (go_at_call 10; refine iS0.mono ?_; rintro e w0 ⟨rfl, h0⟩; have h0 := h0.symm; subst h0)
            | (go_at_call 11; fail))
          refine iA.mono ?_
          rintro e w4 ⟨rfl, hw4⟩
          have B4 := hid (hB.out.trans (hw4.mono hB.out.size))
          have iB4 := iB _ B4.out
          clear iA iB hw4
          go_upto_if 87 with (go_at_call 11; fail)
          refine iB4.mono ?_
          rintro e w5 ⟨rfl, hw5⟩
          have B5 := hid (B4.out.trans (hw5.mono B4.out.size))
          clear iB4 hw5 B4
          go_upto_if 87 with (fail)
          go_cut [14] from 51 to 166 (fun v w' => v = .string ⟨x.toArray⟩ ∧ Hid (Below w3.heap.size w3 w'))
          case first =>
            by_cases hl0 : l = 0
            · have c2 : ¬ (l : Int) > 0 := by omega
              clear hl0
              go_wp2
              go_meet
              exact ⟨rfl, B5⟩
            · have c2 : (l : Int) > 0 := by omega
              obtain ⟨k, hk⟩ : ∃ k : Nat, l = k + 1 := ⟨l - 1, by omega⟩
              have hno := Til.hs_node (L := L) (l := k) (i := i) (by
                have h1 := HIL.out
                rw [hk] at h1
                have h2 := Nat.div_mul_le_self L.length (2 ^ (k + 1))
                have h3 : (i + 1) * 2 ^ (k + 1) ≤ L.length / 2 ^ (k + 1) * 2 ^ (k + 1) := Nat.mul_le_mul_right _ h1
                omega)
              have hxo := HX.out
              rw [hk] at hxo
              rw [hxo] at hno
              have hb2 : 2 * i + 1 < L.length / 2 ^ k := by
                have h1 := HIL.out
                rw [hk, half_pow] at h1
                omega
              obtain ⟨y, hy⟩ : ∃ y, Til.hs L k (2 * i) = y := ⟨_, rfl⟩
              obtain ⟨z, hz⟩ : ∃ z, Til.hs L k (2 * i + 1) = z := ⟨_, rfl⟩
              have ly : y.length = 32 := by rw [← hy]; exact Til.hs_hash hLs.out _ _
              have lz : z.length = 32 := by rw [← hz]; exact Til.hs_hash hLs.out _ _
              have hN2 : Hid (nodeOf y z = (x, 0)) := by
                unfold Hid nodeOf
                rw [hno, hy, hz]
                unfold Tree.nd
                rw [if_pos ⟨ly, lz⟩, if_pos ⟨ly, lz⟩]
              have iP := tHash_ok (Ta.out.below B5.out) k (2 * i) (by omega) (by omega) hy
              have iQ := fun w' (bb : Below w3.heap.size w3 w') => tHash_ok (Ta.out.below bb) k (2 * i + 1) (by omega) hb2 hz
              have hiL := HIL.out
              have hmn : L.length / 2 ^ l ≤ L.length := Nat.div_le_self _ _
              have s1 : IntKind.i64.wrap ((l : Int) - 1) = (k : Int) := by rw [wrap_small _ (by omega) (by omega)]; omega
              obtain ⟨i2, hi2⟩ : ∃ i2 : Nat, 2 * i = i2 := ⟨_, rfl⟩
              obtain ⟨i3, hi3⟩ : ∃ i3 : Nat, i2 + 1 = i3 := ⟨_, rfl⟩
              have hno2 := hn.out
              have s2 : IntKind.i64.wrap (2 * (i : Int)) = (i2 : Int) := by rw [wrap_small _ (by omega) (by omega)]; omega
              have s3 : IntKind.i64.wrap ((i2 : Int) + 1) = (i3 : Int) := by rw [wrap_small _ (by omega) (by omega)]; omega
              rw [hi2] at iP iQ
              rw [hi3] at iQ
              have iN := fun w' (bb : Below w3.heap.size w3 w') => node_at hN2 w' (Z3.out.below bb Z3.out.lt).t
              rw [svS y] at iP iN
              rw [svS z] at iQ iN
              rw [svS x] at iN
              clear hno hxo hb2 hy hz ly lz hN2 hiL hmn hi2 hi3 hk hl0 hno2
              go_wp2_with (go_at_call 11; fail)
              refine iP.mono ?_
              rintro e w6 ⟨rfl, hw6⟩
              have B6 := hid (B5.out.trans (hw6.mono B5.out.size))
              have iQ6 := iQ _ B6.out
              clear iP iQ hw6 B5
              go_wp2_with (go_at_call 11; fail)
              refine iQ6.mono ?_
              rintro e w7 ⟨rfl, hw7⟩
              have B7 := hid (B6.out.trans (hw7.mono B6.out.size))
              have iN7 := iN _ B7.out
              clear iQ6 iN hw7 B6
              go_wp2_with (go_at_call 12; fail)
              refine iN7.mono ?_
              rintro e w8 ⟨rfl, hw8⟩
              have B8 := hid (B7.out.trans (hw8.mono B7.out.size))
              clear iN7 hw8 B7
              go_wp2
              go_meet
              exact ⟨rfl, B8⟩
          case rest =>
            obtain ⟨rfl, B5⟩ := hcut
            obtain ⟨w5, rfl⟩ : ∃ w5, w5 = wc := ⟨_, rfl⟩
            have hh0 : ¬ (ha : Int) = 0 := by omega
            have hh0' : ¬ ha = 0 := by omega
            have hh0'' : ((ha : Int) == 0) = false := by simpa using hh0'
            have md : Int.tmod (l : Int) (ha : Int) = ((l % ha : Nat) : Int) := by rw [Int.tmod_eq_emod_of_nonneg (by omega)]; simp
            have hml : l % ha ≤ l := Nat.mod_le _ _
            have mw : IntKind.i64.wrap ((l % ha : Nat) : Int) = ((l % ha : Nat) : Int) := wrap_small _ (by omega) (by omega)
            obtain ⟨r, hr⟩ : ∃ r, Hid (l % ha = r) := ⟨_, rfl⟩
            rw [hr.out] at md mw
            clear hml
            go_upto_if 125 with (fail)
            go_cut [14] from 51 to 166 (fun v w' => v = .string ⟨x.toArray⟩ ∧ Hid (Below w3.heap.size w3 w'))
            case first =>
              by_cases hr0 : r = 0
              · subst hr0
                rw [show ((0 : Nat) : Int) = 0 from rfl] at md mw
                have hat := tileO_at (L := L) (h := ha) hr.out HIL.out
                rw [HX.out] at hat
                have hle := Nat.div_le_self l ha
                have hle2 := Nat.div_le_self i (2 ^ ha)
                have hiL := HIL.out
                have hmn : L.length / 2 ^ l ≤ L.length := Nat.div_le_self _ _
                have hno2 := hn.out
                have hdm := Nat.div_add_mod i (2 ^ ha)
                have iT := tTile_ok (Ta.out.below B5.out.drew) (l / ha) (i / 2 ^ ha) (i % 2 ^ ha) hat (by omega)
                have td : Int.tdiv (l : Int) (ha : Int) = ((l / ha : Nat) : Int) := by rw [Int.tdiv_eq_ediv_of_nonneg (by omega)]; simp
                have hp2 : 2 ^ ha ≤ 256 := Nat.pow_le_pow_right (n := 2) (by omega) hh8
                obtain ⟨P, hP⟩ : ∃ P, 2 ^ ha = P := ⟨_, rfl⟩
                have s0 : (2 : Int) ^ ha = (P : Int) := by rw [← hP]; simp
                have s1 : (i : Int) / (P : Int) = ((i / P : Nat) : Int) := by simp
                rw [hP] at iT hdm hle2 hp2
                generalize i / P = i1 at *
                generalize i % P = i2 at *
                generalize l / ha = l2 at *
                obtain ⟨G, hG⟩ : ∃ G, P * i1 = G := ⟨_, rfl⟩
                rw [hG] at hdm
                have s2 : IntKind.i64.wrap ((i1 : Int) * (P : Int)) = (G : Int) := by
                  have : (i1 : Int) * (P : Int) = (G : Int) := by rw [← hG, Int.natCast_mul, Int.mul_comm]
                  rw [this]; exact wrap_small _ (by omega) (by omega)
                have s3 : IntKind.i64.wrap ((i : Int) - (G : Int)) = (i2 : Int) := by rw [wrap_small _ (by omega) (by omega)]; omega
                have k0 : (0 : Int) ≤ (ha : Int) := by omega
                have k1 : (ha : Int) ≤ 64 := by omega
                have k2 : (0 : Int) ≤ (i2 : Int) := by omega
                have tw : IntKind.i64.wrap (l2 : Int) = (l2 : Int) := wrap_small _ (by omega) (by omega)
                clear hat hle hle2 hiL hmn hno2 hdm hp2 hP hG
                go_wp2
                go_region_held3 (fun _ => True) (trivial) ((go_at_call 13; refine iT.mono ?_; rintro e w6 ⟨g, nn, rfl, hj, hnn, hcell, hw6⟩))
                have j1 : ¬ (i2 : Int) ≥ (nn : Int) := by omega
                have j2 : (i2 : Int) < (nn : Int) := by omega
                have B6 := hid (B5.out.drew.trans (hw6.mono B5.out.size))
                rw [svS x] at hcell
                clear iT hw6 B5 hj
                go_wp2
                go_meet
                exact ⟨rfl, B6⟩
              · have e1 : ((r : Int) == 0) = false := by simp; omega
                clear hr0
                go_wp2
                go_meet
                exact ⟨rfl, B5⟩
            case rest =>
              obtain ⟨rfl, B6⟩ := hcut
              obtain ⟨w6, rfl⟩ : ∃ w6, w6 = wc := ⟨_, rfl⟩
              have s1 : IntKind.i64.wrap (((S + i : Nat) : Int) + 1) = ((S + (i + 1) : Nat) : Int) := by rw [wrap_small _ (by omega) (by omega)]; omega
              clear B5 md mw
              go_wp2
              exact ⟨⟨i + 1, by omega, by go_num, rfl, B6⟩, by simp [intOf]; omega⟩
        · obtain rfl : i = m := by omega
          have c1 : ¬ (i : Int) < (i : Int) := by omega
          have iH := fun w' (bb : Below w3.heap.size w3 w') => tHash_none (Ta.out.below bb) l i (by omega) (by rw [hn.out, hm.out]; omega)
          have iH0 := iH _ hB.out
          have iS1 := iS _ hB.out
          clear iH iS
          go_wp2_with (first
            | (go_at_call 10; refine iS0.mono ?_; rintro e w0 ⟨rfl, h0⟩; have h0 := h0.symm; subst h0)
            | (go_at_call 11; refine iH0.mono ?_; rintro e w4 ⟨rfl, hw4⟩))
          have B4 := hid (hB.out.trans (hw4.mono hB.out.size))
          exact ⟨⟨l + 1, by omega, by go_num, by rw [HS.out, Int.natCast_add], B4⟩, by simp [intOf]; omega⟩
    · obtain rfl : l = 11 := by omega
      have c0 : ¬ ((11 : Nat) : Int) < 11 := by omega
      have iS := fun w' (bb : Below w3.heap.size w3 w') => tSizeL (Ta.out.below bb)
      rw [hn.out] at iS
      have iS0 := iS _ hB.out
      have s1 : IntKind.i64.wrap (2 * (n : Int)) = 2 * (n : Int) := wrap_small _ (by omega) (by omega)
      have BB := hid (B3.out.trans (hB.out.mono B3.out.size))
      by_cases hn0 : n = 0
      · subst hn0
        have hS : Sm 0 11 = 0 := by decide
        rw [hS]
        go_wp2_with (go_at_call 10; refine iS0.mono ?_; rintro e w0 ⟨rfl, h0⟩; have h0 := h0.symm; subst h0)
        go_ret
        exact ⟨rfl, BB.out⟩
      · have hS := Sm_less (n := n) (k := 10) (by omega)
        generalize Sm n 11 = S at *
        have c2 : (S : Int) < 2 * (n : Int) := by omega
        go_wp2_with (go_at_call 10; refine iS0.mono ?_; rintro e w0 ⟨rfl, h0⟩; have h0 := h0.symm; subst h0)
        go_ret
        exact ⟨rfl, BB.out⟩
end Go.Proofs.YtagplmnnbjidmaaDoor

namespace Go.Proofs.YtagplmnnbjidmaaDoor
open Go.ChangeShapes Go.WideShapes Go.ChangeAt Go.RowKit
theorem gDB : Tryd.prog.globalNamed "math/bits.deBruijn64tab" = some 3 := by kernel_rfl
theorem gDBType : (Tryd.prog.globals[3]?).map (·.type) = some 104 := by kernel_rfl
theorem cells64b : Tryd.prog.cellsOf 104 = 64 := by kernel_rfl
theorem cells1b : Tryd.prog.cellsOf 5 = 1 := by kernel_rfl
def four : List (String × DataW Unit) := [("math/bits.deBruijn32tab", Rows.laid_math_bits_deBruijn32tab), ("math/bits.deBruijn64tab", Rows.laid_math_bits_deBruijn64tab), ("scrivener/digest.start", Rows.laid_scrivener_digest_start), ("scrivener/digest.rounds", Rows.laid_scrivener_digest_rounds)]
theorem tb_of {W : World} (h : laidMet Tryd.prog four W) : Tb W := by
  have h1 := laidMet.tail h
  have h2 : Lib.TabIs Tryd.prog W "math/bits.deBruijn64tab" .u8 (Lib.deBruijn64tab.map Int.ofNat) :=
    Lib.tabIs_of_head gDB gDBType Tryd.underlying104 Tryd.underlying5 cells1b cells64b (show laidMet Tryd.prog (("math/bits.deBruijn64tab", Lib.tabData .u8 (Lib.deBruijn64tab.map Int.ofNat)) :: _) W from h1)
  refine ⟨tabs_of (laidMet.tail h1) (block_lt_of_cell (h2.cell gDB 0 (by decide))), fun j hj => ?_⟩
  have := h2.cell gDB j (by rw [List.length_map]; exact hj)
  rw [this]
  simp [List.getD_eq_getElem?_getD]
  rw [List.getElem?_eq_getElem (show j < Lib.deBruijn64tab.length from hj)]; simp
/-- A WORLD FOR THE WITNESS: all four tables laid. -/
noncomputable def laidWorld5 (os : Os) : World :=
  { laidWorld os with
    heap := ((laidWorld os).heap.modify 2 (fillObj (Lib.deBruijn32tab.map fun n => Value.int .u8 (Int.ofNat n)).toArray)).modify 3 (fillObj (Lib.deBruijn64tab.map fun n => Value.int .u8 (Int.ofNat n)).toArray) }
end Go.Proofs.YtagplmnnbjidmaaDoor
