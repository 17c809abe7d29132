import Derived.Test.YtkiibcfjjplkaaaDoorCTL10
import Derived.Test.YtkiibcfjjplkaaaDoorCO44
import Derived.RangeFuncNested
import Derived.RangeFuncBound
import Derived.RangeFuncCalls
import Derived.RangeFuncLeaves
import Derived.Shelf.Abstract
import Derived.Shelf.RegionOpen
import Derived.WalkKit
import Derived.OwnWalkIn
import Derived.TacticsInMore
import Derived.LoopNIn
import Derived.LoopIn
namespace Go.Proofs.YtkiibcfjjplkaaaDoor
open Go.RowKit
theorem mod_up (n k : Nat) : n % 2 ^ (k + 1) = n % 2 ^ k + 2 ^ k * (n / 2 ^ k % 2) := Nat.mod_pow_succ
set_option maxRecDepth 100000 in
set_option maxHeartbeats 4000000 in
theorem tpart_any {w : World} {q h : Nat} {L : List (List UInt8)} {F : Nat → Prop} (t : TrL w q h L F) (b e : Nat) (hb : b < e) (he : e ≤ L.length) (Z : Tb w) :
    Calls Tryd.prog 42 #[.pointer (some ⟨q, 0, none⟩), .agg #[.int .i64 (b : Int), .int .i64 (e : Int)]] w fun r w' => r = .returned (sv (Tree.root (Til.sg L b e))) ∧ Below w.heap.size w w' := by
  obtain ⟨w1, hw1⟩ : ∃ w1, w.alloc (.cells #[Value.int .i64 (b : Int), .int .i64 (e : Int)] 38) = w1 := ⟨_, rfl⟩
  have b1 := (Below.refl w.heap.size w).alloc (Nat.le_refl _) (.cells #[Value.int .i64 (b : Int), .int .i64 (e : Int)] 38)
  have r1 := heap_alloc_new w (.cells #[Value.int .i64 (b : Int), .int .i64 (e : Int)] 38)
  rw [hw1] at b1 r1
  have S0 : w1.cell? ⟨w.heap.size, 0, none⟩ = some (.int .i64 (b : Int)) ∧ w1.cell? ⟨w.heap.size, 1, none⟩ = some (.int .i64 (e : Int)) := ⟨by rw [cell_of_row _ _ _ _ _ _ r1]; rfl, by rw [cell_of_row _ _ _ _ _ _ r1]; rfl⟩
  have C1 := hid S0.2
  have hlt : w.heap.size < w1.heap.size := lt_of_heap r1
  have T1 := hid (t.below b1)
  have Z1 := hid (Z.below b1 Z.lt)
  have B1 := hid b1
  have n20 := t.n20
  obtain ⟨n, hn⟩ : ∃ n : Nat, e - b = n := ⟨_, rfl⟩
  have e0 : IntKind.i64.wrap ((e : Int) - (b : Int)) = (n : Int) := by rw [wrap_small _ (by omega) (by omega)]; omega
  have e1 : IntKind.u64.wrap (n : Int) = (n : Int) := by rw [IntKind.wrap_u64]; omega
  obtain ⟨c, hc⟩ : ∃ c, n.log2 = c := ⟨_, rfl⟩
  have len := fun w' => lenU_nat n c (by omega) (by omega) hc w'
  have hcn : n < 2 ^ (c + 1) := by rw [← hc]; exact Nat.lt_log2_self
  have hc20 : c ≤ 20 := by
    have h2 : 2 ^ c ≤ n := by rw [← hc]; exact Nat.log2_self_le (by omega)
    have h3 : 2 ^ c < 2 ^ 21 := by omega
    have := (Nat.pow_lt_pow_iff_right (a := 2) (by omega)).1 h3
    omega
  obtain ⟨c1, hc1⟩ : ∃ c1 : Nat, c + 1 = c1 := ⟨_, rfl⟩
  have e2 : (c : Int) + 1 = (c1 : Int) := by omega
  have hc21 : c1 ≤ 21 := by omega
  rw [e2] at len
  have HCN : Hid (n % 2 ^ c1 = n) := by unfold Hid; rw [← hc1]; exact Nat.mod_eq_of_lt hcn
  have HN := hid hn
  clear t Z b1 r1 hc hcn e2
  go_enter Tryd.func42, Tryd.ntmps42
  go_wp2
  go_region_held3 (fun w' => w'.cell? ⟨w.heap.size, 0, none⟩ = some (.int .i64 (b : Int)) ∧ w'.cell? ⟨w.heap.size, 1, none⟩ = some (.int .i64 (e : Int))) (exact S0) (fail)
  clear S0
  go_wp2_with (go_at_call 59; refine (len _).mono ?_; rintro r w9 ⟨rfl, rfl⟩)
  obtain ⟨w2, hw2⟩ : ∃ w2, w1.drew = w2 := ⟨_, rfl⟩
  rw [hw2]
  have b2 := (Below.refl w1.heap.size w1).drew
  rw [hw2] at b2
  have T2 := hid (T1.out.below b2)
  have Z2 := hid (Z1.out.below b2 Z1.out.lt)
  have B2 := hid (B1.out.trans (b2.mono B1.out.size))
  have C2 := hid ((b2.cell (p := ⟨w.heap.size, 1, none⟩) hlt).trans C1.out)
  have hlt2 : w.heap.size < w2.heap.size := Nat.lt_of_lt_of_le hlt b2.size
  clear hw2 b2 T1 Z1 B1 C1 hlt len e0 e1 hc1
  go_loopw [21, 7, 6] (fun i hv ev w' => ∃ (k E : Nat) (x : List UInt8), i = .int .i64 (k : Int) ∧ k ≤ c1 ∧ hv = sv x ∧ ev = .int .i64 (E : Int) ∧ Hid (E + n % 2 ^ k = e) ∧ Hid (n % 2 ^ k ≠ 0 → Tree.root (Til.sg L E e) = x) ∧ Hid (Below w2.heap.size w2 w')) (fun i _ _ _ => c1 - (intOf i).toNat)
  case atStart => exact ⟨0, e, [], rfl, by omega, rfl, rfl, by unfold Hid; rw [Nat.pow_zero, Nat.mod_one]; rfl, fun h => absurd (by rw [Nat.pow_zero, Nat.mod_one]) h, hid (Below.refl _ _)⟩
  case round =>
    obtain ⟨k, E, x, rfl, hk, rfl, rfl, hE, hx, hB⟩ := hrel
    by_cases hkc : k < c1
    · have c0 : (k : Int) < (c1 : Int) := by omega
      have k0 : (0 : Int) ≤ (k : Int) := by omega
      have k1 : (k : Int) ≤ 64 := by omega
      have bt := bit_is (b := n) (k := k) (by have := HN.out; omega)
      have mu := mod_up n k
      have cE := (hB.out.cell (p := ⟨w.heap.size, 1, none⟩) hlt2).trans C2.out
      have hk1 : IntKind.i64.wrap ((k : Int) + 1) = ((k + 1 : Nat) : Int) := by rw [wrap_small _ (by omega) (by omega)]; omega
      by_cases hbit : n / 2 ^ k % 2 = 0
      · rw [hbit, show ((0 : Nat) : Int) = 0 from rfl] at bt
        rw [hbit, Nat.mul_zero, Nat.add_zero] at mu
        have hE' : Hid (E + n % 2 ^ (k + 1) = e) := by unfold Hid; rw [mu]; exact hE.out
        have hx' : Hid (n % 2 ^ (k + 1) ≠ 0 → Tree.root (Til.sg L E e) = x) := by unfold Hid; rw [mu]; exact hx.out
        clear mu hbit hE hx
        go_wp2
        exact ⟨⟨k + 1, E, x, by go_num, by omega, rfl, rfl, hE', hx', hB⟩, by simp [intOf]; omega⟩
      · have hb1 : n / 2 ^ k % 2 = 1 := by omega
        rw [hb1, show ((1 : Nat) : Int) = 1 from rfl] at bt
        rw [hb1, Nat.mul_one] at mu
        obtain ⟨P, hP⟩ : ∃ P, P = 2 ^ k := ⟨_, rfl⟩
        rw [← hP] at mu
        have hml : n % 2 ^ (k + 1) ≤ n := Nat.mod_le _ _
        have hp0 : 0 < P := by rw [hP]; exact Nat.two_pow_pos k
        have hmP : n % P < P := Nat.mod_lt _ hp0
        have hEo := hE.out
        rw [← hP] at hEo
        have hno := HN.out
        obtain ⟨G, hG⟩ : ∃ G : Nat, G + P = E := ⟨E - P, by omega⟩
        have s1 : (2 : Int) ^ k = (P : Int) := by rw [hP]; simp
        rw [s1] at bt
        have s2 : IntKind.i64.wrap (P : Int) = (P : Int) := wrap_small _ (by omega) (by omega)
        have s3 : IntKind.i64.wrap ((E : Int) - (P : Int)) = (G : Int) := by rw [wrap_small _ (by omega) (by omega)]; omega
        have PF := perfect_any k wr (T2.out.below hB.out) G (by omega) (by rw [← hP]; omega) (Z2.out.below hB.out Z2.out.lt)
        rw [← hP, hG] at PF
        have hE' : Hid (G + n % 2 ^ (k + 1) = e) := by unfold Hid; omega
        by_cases hm0 : n % P = 0
        · have q0 : ((E : Int) == (e : Int)) = true := by simp; omega
          have hEe : E = e := by omega
          rw [hEe] at PF
          obtain ⟨y, hy⟩ : ∃ y, Hid (Tree.root (Til.sg L G e) = y) := ⟨_, rfl⟩
          rw [hy.out] at PF
          have hx' : Hid (n % 2 ^ (k + 1) ≠ 0 → Tree.root (Til.sg L G e) = y) := fun _ => hy.out
          clear mu hP hml hp0 hmP hEo hno hG hbit hb1 hE hx hm0 hEe hy
          go_wp2_with (go_at_call 60; fail)
          refine PF.mono ?_
          rintro r w3 ⟨rfl, hw3⟩
          have cE3 := (hw3.cell (p := ⟨w.heap.size, 1, none⟩) (Nat.lt_of_lt_of_le hlt2 hB.out.size)).trans cE
          have B3 := hid (hB.out.trans (hw3.mono hB.out.size))
          clear PF hw3 cE
          go_wp2
          exact ⟨⟨k + 1, G, y, by go_num, by omega, rfl, rfl, hE', hx', B3⟩, by simp [intOf]; omega⟩
        · have q0 : ((E : Int) == (e : Int)) = false := by simp; omega
          have hxo := hx.out (by rw [← hP]; exact hm0)
          obtain ⟨y, hy⟩ : ∃ y, Hid (Tree.nd (Tree.root (Til.sg L G E)) x = y) := ⟨_, rfl⟩
          have rt := Til.root_two (L := L) (b := G) (e := e) (a := k) he (by rw [← hP]; omega) (by rw [← hP]; omega)
          rw [← hP, hG, hxo, hy.out] at rt
          have hx' : Hid (n % 2 ^ (k + 1) ≠ 0 → Tree.root (Til.sg L G e) = y) := fun _ => rt
          obtain ⟨z, hz⟩ : ∃ z, Tree.root (Til.sg L G E) = z := ⟨_, rfl⟩
          rw [hz] at PF hy
          clear mu hP hml hp0 hmP hEo hno hG hbit hb1 hE hx hm0 hxo rt hz
          go_wp2_with (go_at_call 60; fail)
          refine PF.mono ?_
          rintro r w3 ⟨rfl, hw3⟩
          have cE3 := (hw3.cell (p := ⟨w.heap.size, 1, none⟩) (Nat.lt_of_lt_of_le hlt2 hB.out.size)).trans cE
          have B3 := hid (hB.out.trans (hw3.mono hB.out.size))
          have N3 := tnode_any hy w3 (Z2.out.below B3.out Z2.out.lt).t
          clear PF hw3 cE
          go_wp2_with (go_at_call 61; fail)
          refine N3.mono ?_
          rintro r w4 ⟨rfl, hw4⟩
          have B4 := hid (B3.out.trans (hw4.mono B3.out.size))
          clear N3 hw4
          go_wp2
          exact ⟨⟨k + 1, G, y, by go_num, by omega, rfl, rfl, hE', hx', B4⟩, by simp [intOf]; omega⟩
    · obtain rfl : k = c1 := by omega
      have c0 : ¬ (k : Int) < (k : Int) := by omega
      have hEo := hE.out
      rw [HCN.out] at hEo
      have hno := HN.out
      obtain rfl : E = b := by omega
      have hxo := hx.out (by rw [HCN.out]; omega)
      subst hxo
      go_wp2
      go_ret
      exact ⟨rfl, B2.out.trans (hB.out.mono B2.out.size)⟩
end Go.Proofs.YtkiibcfjjplkaaaDoor

namespace Go.Proofs.YtkiibcfjjplkaaaDoor
open Go.RowKit
/-- may a span be? -/
def spB (n : Nat) (b e : Int) : Bool := decide (0 ≤ b ∧ b ≤ e ∧ e ≤ (n : Int))
set_option maxRecDepth 100000 in
set_option maxHeartbeats 2000000 in
theorem hasSpan_any {w : World} {q h : Nat} {L : List (List UInt8)} {F : Nat → Prop} (t : TrL w q h L F) (b e : Int) :
    Calls Tryd.prog 40 #[.pointer (some ⟨q, 0, none⟩), .agg #[.int .i64 b, .int .i64 e]] w fun r w' => r = .returned (.bool (spB L.length b e)) ∧ Below w.heap.size w w' := by
  obtain ⟨w1, hw1⟩ : ∃ w1, w.alloc (.cells #[Value.int .i64 b, .int .i64 e] 38) = w1 := ⟨_, rfl⟩
  have b1 := (Below.refl w.heap.size w).alloc (Nat.le_refl _) (.cells #[Value.int .i64 b, .int .i64 e] 38)
  have r1 := heap_alloc_new w (.cells #[Value.int .i64 b, .int .i64 e] 38)
  rw [hw1] at b1 r1
  have S0 : w1.cell? ⟨w.heap.size, 0, none⟩ = some (.int .i64 b) ∧ w1.cell? ⟨w.heap.size, 1, none⟩ = some (.int .i64 e) := ⟨by rw [cell_of_row _ _ _ _ _ _ r1]; rfl, by rw [cell_of_row _ _ _ _ _ _ r1]; rfl⟩
  have i1 := tSizeL ((t.below b1).below (Below.refl w1.heap.size w1).drew)
  have B1 := hid b1
  obtain ⟨n, hn⟩ : ∃ n, L.length = n := ⟨_, rfl⟩
  rw [hn] at i1 ⊢
  obtain ⟨c, hc⟩ : ∃ c, spB n b e = c := ⟨_, rfl⟩
  rw [hc]
  unfold spB at hc
  have HC := hid hc
  clear t b1 r1 hc
  by_cases h0 : 0 ≤ b
  · by_cases h1 : b ≤ e
    · have c3 : decide (e ≤ (n : Int)) = c := by rw [← HC.out]; exact decide_eq_decide.2 ⟨fun x => ⟨h0, h1, x⟩, fun x => x.2.2⟩
      go_enter Tryd.func40, Tryd.ntmps40
      go_wp2
      go_region_held3 (fun w' => w'.cell? ⟨w.heap.size, 0, none⟩ = some (.int .i64 b) ∧ w'.cell? ⟨w.heap.size, 1, none⟩ = some (.int .i64 e)) (exact S0) ((go_at_call 8; refine i1.mono ?_; rintro r w9 ⟨rfl, rfl⟩))
      go_wp2
      go_ret
      exact ⟨rfl, B1.out.drew⟩
    · have c3 : c = false := by rw [← HC.out]; exact decide_eq_false fun x => h1 x.2.1
      subst c3
      have y0 : decide (0 ≤ b) = true := decide_eq_true h0
      have y1 : decide (b ≤ e) = false := decide_eq_false h1
      clear h0 h1
      clear HC i1
      go_enter Tryd.func40, Tryd.ntmps40
      obtain ⟨s0, s1⟩ := S0
      go_wp2
      go_quiet (fail)
      go_wp2
      go_ret
      exact ⟨rfl, ⟨B1.out.os, B1.out.tape, B1.out.output, B1.out.size, B1.out.block⟩⟩
  · have c3 : c = false := by rw [← HC.out]; exact decide_eq_false fun x => h0 x.1
    subst c3
    have y0 : decide (0 ≤ b) = false := decide_eq_false h0
    clear h0
    clear HC i1
    go_enter Tryd.func40, Tryd.ntmps40
    obtain ⟨s0, s1⟩ := S0
    go_wp2
    go_quiet (fail)
    go_wp2
    go_ret
    exact ⟨rfl, ⟨B1.out.os, B1.out.tape, B1.out.output, B1.out.size, B1.out.block⟩⟩
/-- T4 -/
def tPartO (L : List (List UInt8)) (b e : Int) : List UInt8 × Int := if spB L.length b e = true then (Tree.root (Til.sg L b.toNat e.toNat), 0) else ([], 73)
set_option maxRecDepth 100000 in
set_option maxHeartbeats 2000000 in
theorem tPart_any {w : World} {q h : Nat} {L : List (List UInt8)} {F : Nat → Prop} (t : TrL w q h L F) (b e : Int) (Z : Tb w) {x : List UInt8} {z : Int} (hx : Hid (tPartO L b e = (x, z))) :
    Calls Tryd.prog 14 #[.pointer (some ⟨q, 0, none⟩), .agg #[.int .i64 b, .int .i64 e]] w fun r w' => r = .returned (.tuple #[sv x, .int .i64 z]) ∧ Below w.heap.size w w' := by
  obtain ⟨w1, hw1⟩ : ∃ w1, w.alloc (.cells #[Value.int .i64 b, .int .i64 e] 38) = w1 := ⟨_, rfl⟩
  have b1 := (Below.refl w.heap.size w).alloc (Nat.le_refl _) (.cells #[Value.int .i64 b, .int .i64 e] 38)
  have r1 := heap_alloc_new w (.cells #[Value.int .i64 b, .int .i64 e] 38)
  rw [hw1] at b1 r1
  have c0 : w1.cell? ⟨w.heap.size, 0, none⟩ = some (.int .i64 b) := by rw [cell_of_row _ _ _ _ _ _ r1]; rfl
  have c1 : w1.cell? ⟨w.heap.size, 1, none⟩ = some (.int .i64 e) := by rw [cell_of_row _ _ _ _ _ _ r1]; rfl
  have T1 := hid (t.below b1)
  have Z1 := hid (Z.below b1 Z.lt)
  have i1 := hasSpan_any T1.out b e
  have B1 := hid b1
  have hlt : w.heap.size < w1.heap.size := lt_of_heap r1
  have hxo := hx.out
  unfold tPartO at hxo
  obtain ⟨c, hc⟩ : ∃ c, spB L.length b e = c := ⟨_, rfl⟩
  rw [hc] at i1 hxo
  clear t Z b1 r1
  cases c
  · rw [if_neg (by simp)] at hxo
    injection hxo with h1 h2
    subst h1 h2
    go_enter Tryd.func14, Tryd.ntmps14
    go_wp2_with (go_at_call 40; refine i1.mono ?_; rintro r w2 ⟨rfl, hw2⟩)
    go_ret2
    exact ⟨rfl, B1.out.trans (hw2.mono B1.out.size)⟩
  · rw [if_pos rfl] at hxo
    injection hxo with h1 h2
    subst h2
    unfold spB at hc
    have hc := of_decide_eq_true hc
    obtain ⟨b', rfl⟩ : ∃ b' : Nat, b = (b' : Int) := ⟨b.toNat, by omega⟩
    obtain ⟨e', rfl⟩ : ∃ e' : Nat, e = (e' : Int) := ⟨e.toNat, by omega⟩
    rw [Int.toNat_natCast, Int.toNat_natCast] at h1
    by_cases hbe : b' = e'
    · subst hbe
      rw [Til.sg_nil, Tree.root_nil] at h1
      have k0 : ((b' : Int) == (b' : Int)) = true := by simp
      have i2 := fun w' (bb : Below w1.heap.size w1 w') => empty_any w' (Z1.out.below bb Z1.out.lt).t
      rw [h1] at i2
      clear hc h1 hx
      go_enter Tryd.func14, Tryd.ntmps14
      go_wp2_with (go_at_call 40; fail)
      refine i1.mono ?_
      rintro r w2 ⟨rfl, hw2⟩
      have d0 := (hw2.cell (p := ⟨w.heap.size, 0, none⟩) hlt).trans c0
      have d1 := (hw2.cell (p := ⟨w.heap.size, 1, none⟩) hlt).trans c1
      clear c0 c1
      go_wp2_with (go_at_call 41; refine (i2 _ hw2).mono ?_; rintro r w3 ⟨rfl, hw3⟩)
      go_ret2
      exact ⟨rfl, B1.out.trans ((hw2.trans (hw3.mono hw2.size)).mono B1.out.size)⟩
    · have k0 : ((b' : Int) == (e' : Int)) = false := by simp; omega
      have i2 := fun w' (bb : Below w1.heap.size w1 w') => tpart_any (T1.out.below bb) b' e' (by omega) (by omega) (Z1.out.below bb Z1.out.lt)
      rw [h1] at i2
      clear hc h1 hx hbe
      go_enter Tryd.func14, Tryd.ntmps14
      go_wp2_with (go_at_call 40; fail)
      refine i1.mono ?_
      rintro r w2 ⟨rfl, hw2⟩
      have d0 := (hw2.cell (p := ⟨w.heap.size, 0, none⟩) hlt).trans c0
      have d1 := (hw2.cell (p := ⟨w.heap.size, 1, none⟩) hlt).trans c1
      clear c0 c1
      go_wp2_with (go_at_call 42; refine (i2 _ hw2).mono ?_; rintro r w3 ⟨rfl, hw3⟩)
      go_ret2
      exact ⟨rfl, B1.out.trans ((hw2.trans (hw3.mono hw2.size)).mono B1.out.size)⟩
set_option maxRecDepth 100000 in
theorem tRoot_any {w : World} {q h : Nat} {L : List (List UInt8)} {F : Nat → Prop} (t : TrL w q h L F) (n : Int) (Z : Tb w) {x : List UInt8} {z : Int} (hx : Hid (tPartO L 0 n = (x, z))) :
    Calls Tryd.prog 19 #[.pointer (some ⟨q, 0, none⟩), .int .i64 n] w fun r w' => r = .returned (.tuple #[sv x, .int .i64 z]) ∧ Below w.heap.size w w' := by
  have i1 := tPart_any t 0 n Z hx
  go_enter Tryd.func19, Tryd.ntmps19
  go_wp2_with (go_at_call 14; refine i1.mono ?_; rintro r w2 ⟨rfl, hw2⟩)
  go_ret2
  exact ⟨rfl, hw2⟩
theorem tPartO_nat {L : List (List UInt8)} {b e : Nat} (hb : b ≤ e) (he : e ≤ L.length) : tPartO L (b : Int) (e : Int) = (Tree.root (Til.sg L b e), 0) := by
  unfold tPartO spB
  rw [if_pos (decide_eq_true ⟨by omega, by omega, by omega⟩), Int.toNat_natCast, Int.toNat_natCast]
theorem tPartO_all {L : List (List UInt8)} : tPartO L 0 (L.length : Int) = (Tree.root L, 0) := by
  have := tPartO_nat (L := L) (b := 0) (e := L.length) (by omega) (Nat.le_refl _)
  rwa [Til.sg_all] at this
end Go.Proofs.YtkiibcfjjplkaaaDoor

namespace Go.Proofs.YtkiibcfjjplkaaaDoor
open Go.RowKit
theorem Tb.mov {w w' : World} {F F' : Nat → Prop} (Z : Tb w) (hm : Mov F w w' F') (hF : ∀ k, F k → 4 ≤ k) : Tb w' := Z.below (hm.below Z.lt hF).1 (Nat.le_refl _)
end Go.Proofs.YtkiibcfjjplkaaaDoor

namespace Go.Proofs.YtkiibcfjjplkaaaDoor
open Go.RowKit

/-- blocks of F alone were touched; F' has what is new besides -/
structure Mvs (F : Nat → Prop) (w w' : World) (F' : Nat → Prop) : Prop where
  keep : Keep F w w'
  new : ∀ k, F' k → F k ∨ w.heap.size ≤ k
theorem Mvs.trans {F G H : Nat → Prop} {w w1 w2 : World} (h : Mvs F w w1 G) (k : Mvs G w1 w2 H) : Mvs F w w2 H := by
  refine ⟨h.keep.trans k.keep fun j hj hg => ?_, fun j hj => ?_⟩
  · rcases h.new j hg with e | e
    · exact e
    · omega
  · rcases k.new j hj with e | e
    · exact h.new j e
    · exact .inr (Nat.le_trans h.keep.size e)
theorem Mvs.refl (F : Nat → Prop) (w : World) : Mvs F w w F := ⟨Keep.refl F w, fun _ h => .inl h⟩
/-- what is said hangs on these blocks alone -/
structure Foot {α : Type} (J : (Nat → Prop) → List α → World → Prop) : Prop where
  keep : ∀ F pre W W' S, J F pre W → Keep S W W' → (∀ k, F k → ¬ S k) → J F pre W'
  lt : ∀ F pre W, J F pre W → ∀ k, F k → k < W.heap.size
theorem Keep.ofPut {S : Nat → Prop} (w : World) (l : Nat) (o : Obj) (hl : S l) : Keep S w (w.putObj l o) :=
  ⟨rfl, rfl, rfl, by rw [World.putObj_size]; exact Nat.le_refl _, fun k _ hs => World.putObj_heap_other (fun e => hs (e ▸ hl))⟩
/-- an iterator: it tells xs, one by one; C: blocks that it looks at and a round must not touch; Cw: those that it writes into -/
def IterC {α : Type} (P : Program) (gf : Nat) (lb : Array Value) (encs : α → Array Value) (xs : List α) (C Cw : Nat → Prop) (w : World) : Prop :=
  ∀ (n l : Nat) (J Jx : (Nat → Prop) → List α → World → Prop) (F : Nat → Prop) (W : World), Foot J → Foot Jx → Below w.heap.size w W → (∀ k, F k → ¬ C k) →
    (∀ (F : Nat → Prop) (pre : List α) (x : α) (rest : List α) (W1 : World), J F pre W1 → xs = pre ++ x :: rest → YieldAt Fence.wide (n - 1) P l (encs x) W1 fun e W' =>
      ∃ F', Mvs F W1 W' F' ∧ ((e = .returned (.bool true) ∧ J F' (pre ++ [x]) W') ∨ (e = .returned (.bool false) ∧ Jx F' (pre ++ [x]) W'))) →
    J F [] W →
    CallsIn Fence.wide n P gf (#[.func (.yield l) #[] #[]] ++ lb) W fun e W' => (∃ v, e = .returned v) ∧ ∃ F', Keep (fun k => F k ∨ Cw k) W W' ∧ (∀ k, F' k → F k ∨ W.heap.size ≤ k) ∧ (J F' xs W' ∨ ∃ pre, pre <+: xs ∧ Jx F' pre W')
/-- how a round's body may be left -/
def footPost {α : Type} (I : (Nat → Prop) → List α → World → Prop) (Ix : Code → (Nat → Prop) → List α → World → Prop) (F : Nat → Prop) (xs : List α) (W : World) : Exit → Act → World → Prop
  | .normal, _, W' => ∃ F', Mvs F W W' F' ∧ I F' xs W'
  | .ret, _, W' => ∃ F', Mvs F W W' F' ∧ Ix .ret F' xs W'
  | .exit id, _, W' => ∃ F', Mvs F W W' F' ∧ Ix (.exit id) F' xs W'
  | .goto t, _, W' => ∃ F', Mvs F W W' F' ∧ Ix (.goto t) F' xs W'
  | .panic _, _, _ => False
  | .outgrown, _, _ => False
/-- the world behind the loop, seen from ahead of it -/
structure Aft (F0 C : Nat → Prop) (w W : World) (F : Nat → Prop) (D : Nat) : Prop where
  keep : Keep (fun k => F0 k ∨ C k) w W
  new : ∀ k, F k → F0 k ∨ w.heap.size ≤ k
  mark : W.heap[D]? = some (.deferred (some []))
  hi : w.heap.size ≤ D
  out : ¬ F D
set_option maxHeartbeats 1000000 in
theorem range_foot {α : Type} {P : Program} {n : Nat} {g : Operand} {ps : Array Tmp} {assign body : Code} {Q : Exit → Act → World → Prop} {a : Act} {w : World}
    {gf : Nat} {lb : Array Value} (hg : a.eval g = .func (.func gf) #[] lb) (eg : ∀ args w, (callFunc gf args).run P w = .ok (.enter gf args) w)
    {encs : α → Array Value} {xs : List α} {C Cw : Nat → Prop} (hit : IterC P gf lb encs xs C Cw w) (hps : ∀ x, (encs x).size = ps.size)
    (I : (Nat → Prop) → List α → World → Prop) (Ix : Code → (Nat → Prop) → List α → World → Prop) (hI : Foot I) (hIx : ∀ c, Foot (Ix c))
    (F0 : Nat → Prop) (h0 : I F0 [] w) (hC : ∀ k, F0 k → ¬ C k) (hCl : ∀ k, C k → k < w.heap.size)
    (A : (Nat → Prop) → List α → α → Act → World → Prop) (hA : ∀ x a, Foot (fun F pre W => A F pre x a W))
    (hassign : ∀ (l : Nat) (F : Nat → Prop) (pre : List α) (x : α) (rest : List α) (W : World), I F pre W → xs = pre ++ x :: rest →
      assign.wpIn (Fence.wide.inRound l) (n - 1 - 1) P (Exit.then (fun a₁ W₁ => ∃ F₁, Mvs F W W₁ F₁ ∧ A F₁ pre x a₁ W₁) (fun _ _ _ => False)) { tmps := (ps.zip (encs x)).foldl (fun t (p, v) => t.setIfInBounds p v) a.tmps, defers := [] } W)
    (hbody : ∀ (l : Nat) (F : Nat → Prop) (pre : List α) (x : α) (rest : List α) (a₁ : Act) (W : World), A F pre x a₁ W → xs = pre ++ x :: rest →
      body.wpIn (Fence.wide.inRound l) (n - 1 - 1) P (footPost I Ix F (pre ++ [x]) W) a₁ W)
    (hdone : ∀ (D : Nat) (F : Nat → Prop) (W : World), I F xs W → Aft F0 Cw w W F D → Q .normal { a with defers := { target := .collected D, args := #[] } :: a.defers } W)
    (hstop : ∀ (D : Nat) (c : Code) (F : Nat → Prop) (pre : List α) (W : World), pre <+: xs → Ix c F pre W → Aft F0 Cw w W F D → c.wpIn Fence.wide n P Q { a with defers := { target := .collected D, args := #[] } :: a.defers } W) :
    (Code.rangeFunc g ps assign body).wpIn Fence.wide n P Q a w := by
  refine wpIn_rangeFunc ?_
  intro fn hfn
  obtain ⟨rec, hrec⟩ : ∃ rec : LoopState → Option Code → Loop, rec = fun st pe => { state := st, pending := pe, fn, tmps := a.tmps, params := ps, assign, body, defers := w.heap.size } := ⟨_, rfl⟩
  obtain ⟨W1, hW1⟩ : ∃ W1, (w.alloc (.deferred (some []))).alloc (.loop (rec .ready none)) = W1 := ⟨_, rfl⟩
  have hL1 : W1.heap[w.heap.size + 1]? = some (.loop (rec .ready none)) := by
    rw [← hW1]; have := World.alloc_heap_new (w.alloc (.deferred (some []))) (.loop (rec .ready none)); rwa [World.size_alloc] at this
  have hK1 : W1.heap[w.heap.size]? = some (.deferred (some [])) := by
    rw [← hW1]; exact (Below.heap_alloc _ _ _ (by simp)).trans (World.alloc_heap_new w _)
  have hb1 : Below w.heap.size w W1 := by
    rw [← hW1]; exact ((Below.refl _ w).alloc (Nat.le_refl _) _).alloc (by simp) _
  have hI1 : I F0 [] W1 := hI.keep _ _ _ _ (fun _ => False) h0 (Keep.ofBelow hb1) (fun _ _ e => e)
  have hsz1 : W1.heap.size = w.heap.size + 2 := by rw [← hW1]; simp
  refine ⟨w.heap.size + 1, [{ target := .collected w.heap.size, args := #[] }], W1, { target := .fn (.func gf) lb, args := #[.func (.yield (w.heap.size + 1)) #[] #[]] }, W1, gf,
    #[.func (.yield (w.heap.size + 1)) #[] #[]] ++ lb, W1, ?_, ?_, ?_, ?_, (fun h => by cases h), ?_⟩
  · rw [← hW1, hrec]; exact run_enterLoop_outer _ _ _ _ _
  · simp only [resolve, hg]
    simp [go_sem]
  · intro f' _; trivial
  · simp [invoke, go_sem, eg]
  · obtain ⟨L, hL⟩ : ∃ L, L = w.heap.size + 1 := ⟨_, rfl⟩
    obtain ⟨D, hD⟩ : ∃ D, D = w.heap.size := ⟨_, rfl⟩
    rw [← hL] at hL1
    rw [← hD] at hK1
    have hF0 : ∀ k, F0 k → k < w.heap.size := hI.lt _ _ _ h0
    refine (hit (n - 1) (w.heap.size + 1)
      (fun F pre W => F L ∧ F D ∧ W.heap[L]? = some (.loop (rec .ready none)) ∧ W.heap[D]? = some (.deferred (some [])) ∧ ∃ F1 : Nat → Prop, (∀ k, F1 k → F k) ∧ ¬ F1 L ∧ ¬ F1 D ∧ (∀ k, F k → F1 k ∨ k = L ∨ k = D) ∧ I F1 pre W)
      (fun F pre W => F L ∧ F D ∧ ∃ c, W.heap[L]? = some (.loop (rec .done (some c))) ∧ W.heap[D]? = some (.deferred (some [])) ∧ ∃ F1 : Nat → Prop, (∀ k, F1 k → F k) ∧ ¬ F1 L ∧ ¬ F1 D ∧ (∀ k, F k → F1 k ∨ k = L ∨ k = D) ∧ Ix c F1 pre W)
      (fun k => F0 k ∨ k = L ∨ k = D) W1 ?_ ?_ hb1 ?_ ?_ ?_).mono ?_
    · refine ⟨?_, ?_⟩
      · rintro F pre W W' S ⟨hl, hd, h1, h2, F1, h3, h4, h5, h6, h7⟩ hk hs
        exact ⟨hl, hd, (hk.block L (Array.getElem?_eq_some_iff.1 h1).1 (hs L hl)).trans h1, (hk.block D (Array.getElem?_eq_some_iff.1 h2).1 (hs D hd)).trans h2, F1, h3, h4, h5, h6, hI.keep _ _ _ _ _ h7 hk fun k hk' => hs k (h3 k hk')⟩
      · rintro F pre W ⟨hl, hd, h1, h2, F1, h3, h4, h5, h6, h7⟩ k hk
        rcases h6 k hk with e | rfl | rfl
        · exact hI.lt _ _ _ h7 k e
        · exact (Array.getElem?_eq_some_iff.1 h1).1
        · exact (Array.getElem?_eq_some_iff.1 h2).1
    · refine ⟨?_, ?_⟩
      · rintro F pre W W' S ⟨hl, hd, c, h1, h2, F1, h3, h4, h5, h6, h7⟩ hk hs
        exact ⟨hl, hd, c, (hk.block L (Array.getElem?_eq_some_iff.1 h1).1 (hs L hl)).trans h1, (hk.block D (Array.getElem?_eq_some_iff.1 h2).1 (hs D hd)).trans h2, F1, h3, h4, h5, h6, (hIx c).keep _ _ _ _ _ h7 hk fun k hk' => hs k (h3 k hk')⟩
      · rintro F pre W ⟨hl, hd, c, h1, h2, F1, h3, h4, h5, h6, h7⟩ k hk
        rcases h6 k hk with e | rfl | rfl
        · exact (hIx c).lt _ _ _ h7 k e
        · exact (Array.getElem?_eq_some_iff.1 h1).1
        · exact (Array.getElem?_eq_some_iff.1 h2).1
    · rintro k (e | rfl | rfl) hc
      · exact hC k e hc
      · have := hCl _ hc; omega
      · have := hCl _ hc; omega
    · -- one round
      rintro F pre x rest W ⟨hl, hd, h1, h2, F1, h3, h4, h5, h6, h7⟩ hx
      have hLlt : L < W.heap.size := (Array.getElem?_eq_some_iff.1 h1).1
      have hDlt : D < W.heap.size := (Array.getElem?_eq_some_iff.1 h2).1
      have hy := run_yield (P := P) (args := encs x) h1 (by rw [hrec]; exact hps x)
      rw [hrec] at hy
      refine ⟨fn, _, assign, body, by rw [← hL]; exact hy, roundIn_of_wpIn hfn (wpIn_mono (hassign _ F1 pre x rest W h7 hx) ?_)⟩
      rintro e a₁ W₁ hp
      cases e with
      | normal =>
        obtain ⟨F2, hm1, hA1⟩ := hp
        have nL2 : ¬ F2 L := fun e => by rcases hm1.new L e with e | e; exact h4 e; omega
        have nD2 : ¬ F2 D := fun e => by rcases hm1.new D e with e | e; exact h5 e; omega
        have g1 : W₁.heap[L]? = some (.loop (rec .ready none)) := (hm1.keep.block L hLlt h4).trans h1
        have g2 : W₁.heap[D]? = some (.deferred (some [])) := (hm1.keep.block D hDlt h5).trans h2
        have hLlt1 : L < W₁.heap.size := (Array.getElem?_eq_some_iff.1 g1).1
        have hDlt1 : D < W₁.heap.size := (Array.getElem?_eq_some_iff.1 g2).1
        refine ⟨W₁.putObj L (.loop { rec .ready none with state := .busy }), by rw [← hL]; exact run_beginRound g1 (by rw [hrec]), ?_⟩
        have q1 : (W₁.putObj L (.loop { rec .ready none with state := .busy })).heap[L]? = some (.loop { rec .ready none with state := .busy }) := World.putObj_heap_same hLlt1
        have q2 : (W₁.putObj L (.loop { rec .ready none with state := .busy })).heap[D]? = some (.deferred (some [])) := (World.putObj_heap_other (by omega)).trans g2
        have kp1 : Keep (fun k => k = L) W₁ (W₁.putObj L (.loop { rec .ready none with state := .busy })) := Keep.ofPut _ _ _ rfl
        have hA2 := (hA x a₁).keep _ _ _ _ _ hA1 kp1 (fun k hk e => nL2 (e ▸ hk))
        generalize hW2 : W₁.putObj L (.loop { rec .ready none with state := .busy }) = W₂ at *
        refine wpIn_mono (hbody _ F2 pre x rest a₁ W₂ hA2 hx) ?_
        have fin : ∀ (jump : Option Code) (W3 : World) (F3 : Nat → Prop), Mvs F2 W₂ W3 F3 →
            (Instr.endRound (w.heap.size + 1) jump).run P W3 = .ok (.bool jump.isNone) (W3.putObj L (.loop (rec (if jump.isNone then .ready else .done) jump))) ∧
            (W3.putObj L (.loop (rec (if jump.isNone then .ready else .done) jump))).heap[L]? = some (.loop (rec (if jump.isNone then .ready else .done) jump)) ∧
            (W3.putObj L (.loop (rec (if jump.isNone then .ready else .done) jump))).heap[D]? = some (.deferred (some [])) ∧ ¬ F3 L ∧ ¬ F3 D ∧
            Mvs F W (W3.putObj L (.loop (rec (if jump.isNone then .ready else .done) jump))) (fun k => F3 k ∨ k = L ∨ k = D) := fun jump W3 F3 hm => by
          have r1 := (hm.keep.block L (Array.getElem?_eq_some_iff.1 q1).1 nL2).trans q1
          have r2 := (hm.keep.block D (Array.getElem?_eq_some_iff.1 q2).1 nD2).trans q2
          have := run_endRound (P := P) jump r1
          rw [hrec] at this ⊢
          have nL3 : ¬ F3 L := fun e => by rcases hm.new L e with e | e; exact nL2 e; have := (Array.getElem?_eq_some_iff.1 q1).1; omega
          have nD3 : ¬ F3 D := fun e => by rcases hm.new D e with e | e; exact nD2 e; have := (Array.getElem?_eq_some_iff.1 q2).1; omega
          refine ⟨by rw [← hL]; exact this, World.putObj_heap_same (Array.getElem?_eq_some_iff.1 r1).1, (World.putObj_heap_other (by omega)).trans r2, nL3, nD3, ?_, ?_⟩
          · have e1 : Keep F W W₁ := hm1.keep.mono fun j _ hj => h3 j hj
            have e2 : Keep F W W₂ := e1.trans kp1 fun j _ hj => by rw [hj]; exact hl
            have e3 : Keep F W W3 := e2.trans hm.keep fun j hj hg => by
              rcases hm1.new j hg with e | e
              · exact h3 j e
              · omega
            exact e3.trans (Keep.ofPut (S := fun k => k = L) _ _ _ rfl) fun j _ hj => by rw [hj]; exact hl
          · rintro k (e | rfl | rfl)
            · have hs2 : W₁.heap.size ≤ W₂.heap.size := kp1.size
              have hs1 := hm1.keep.size
              rcases hm.new k e with e | e
              · rcases hm1.new k e with e | e
                · exact .inl (h3 k e)
                · exact .inr e
              · exact .inr (by omega)
            · exact .inl hl
            · exact .inl hd
        rintro e a3 W3 hp
        cases e with
        | normal =>
          obtain ⟨F3, hm, hi3⟩ := hp
          obtain ⟨hr, t1, t2, t3, t4, t5⟩ := fin none W3 F3 hm
          exact ⟨_, _, hr, _, t5, .inl ⟨rfl, .inr (.inl rfl), .inr (.inr rfl), t1, t2, F3, fun k hk => .inl hk, t3, t4, fun k hk => hk, hI.keep _ _ _ _ _ hi3 (Keep.ofPut (S := fun k => k = L) _ _ _ rfl) (fun k hk e => t3 (e ▸ hk))⟩⟩
        | ret =>
          obtain ⟨F3, hm, hi3⟩ := hp
          obtain ⟨hr, t1, t2, t3, t4, t5⟩ := fin (some .ret) W3 F3 hm
          exact ⟨_, _, hr, _, t5, .inr ⟨rfl, .inr (.inl rfl), .inr (.inr rfl), _, t1, t2, F3, fun k hk => .inl hk, t3, t4, fun k hk => hk, (hIx _).keep _ _ _ _ _ hi3 (Keep.ofPut (S := fun k => k = L) _ _ _ rfl) (fun k hk e => t3 (e ▸ hk))⟩⟩
        | exit id =>
          obtain ⟨F3, hm, hi3⟩ := hp
          obtain ⟨hr, t1, t2, t3, t4, t5⟩ := fin (some (.exit id)) W3 F3 hm
          exact ⟨_, _, hr, _, t5, .inr ⟨rfl, .inr (.inl rfl), .inr (.inr rfl), _, t1, t2, F3, fun k hk => .inl hk, t3, t4, fun k hk => hk, (hIx _).keep _ _ _ _ _ hi3 (Keep.ofPut (S := fun k => k = L) _ _ _ rfl) (fun k hk e => t3 (e ▸ hk))⟩⟩
        | goto t =>
          obtain ⟨F3, hm, hi3⟩ := hp
          obtain ⟨hr, t1, t2, t3, t4, t5⟩ := fin (some (.goto t)) W3 F3 hm
          exact ⟨_, _, hr, _, t5, .inr ⟨rfl, .inr (.inl rfl), .inr (.inr rfl), _, t1, t2, F3, fun k hk => .inl hk, t3, t4, fun k hk => hk, (hIx _).keep _ _ _ _ _ hi3 (Keep.ofPut (S := fun k => k = L) _ _ _ rfl) (fun k hk e => t3 (e ▸ hk))⟩⟩
        | panic ch => exact hp.elim
        | outgrown => exact hp.elim
      | exit id => exact hp.elim
      | goto t => exact hp.elim
      | ret => exact hp.elim
      | panic ch => exact hp.elim
      | outgrown => exact hp.elim
    · exact ⟨.inr (.inl rfl), .inr (.inr rfl), hL1, hK1, F0, fun k hk => .inl hk, fun e => by have := hF0 _ e; omega, fun e => by have := hF0 _ e; omega, fun k hk => hk, hI1⟩
    · -- behind the iterator
      rintro e W2 ⟨⟨v, rfl⟩, F', hk, hn, hj⟩
      have aft : ∀ (o : Obj) (F1 : Nat → Prop), (∀ k, F1 k → F' k) → ¬ F1 L → ¬ F1 D → W2.heap[D]? = some (.deferred (some [])) → Aft F0 Cw w (W2.putObj L o) F1 D := fun o F1 h3 h4 h5 h2 => by
        refine ⟨?_, fun k hk' => ?_, (World.putObj_heap_other (by omega)).trans h2, by omega, h5⟩
        · have e1 : Keep (fun k => F0 k ∨ Cw k) w W1 := Keep.ofBelow hb1
          have e2 : Keep (fun k => F0 k ∨ Cw k) w W2 := e1.trans hk fun j hj hg => by
            rcases hg with (e | rfl | rfl) | e
            · exact .inl e
            · omega
            · omega
            · exact .inr e
          exact e2.trans (Keep.ofPut (S := fun k => k = L) _ _ _ rfl) fun j hj he => by rw [he] at hj; omega
        · rcases hn k (h3 k hk') with (e | rfl | rfl) | e
          · exact .inl e
          · exact absurd hk' h4
          · exact absurd hk' h5
          · exact .inr (by omega)
      rcases hj with ⟨hl, hd, h1, h2, F1, h3, h4, h5, h6, h7⟩ | ⟨pre, hpre, hl, hd, c, h1, h2, F1, h3, h4, h5, h6, h7⟩
      · refine ⟨none, W2.putObj L (.loop { rec .ready none with state := .exhausted }), by rw [← hL]; have := run_endLoop (P := P) h1 (by rw [hrec]; simp); rw [hrec] at this ⊢; exact this, ?_⟩
        rw [← hD]
        exact hdone D F1 _ (hI.keep _ _ _ _ _ h7 (Keep.ofPut (S := fun k => k = L) _ _ _ rfl) (fun k hk e => h4 (e ▸ hk))) (aft _ F1 h3 h4 h5 h2)
      · refine ⟨some c, W2.putObj L (.loop { rec .done (some c) with state := .exhausted }), by rw [← hL]; have := run_endLoop (P := P) h1 (by rw [hrec]; simp); rw [hrec] at this ⊢; exact this, ?_⟩
        rw [← hD]
        exact hstop D c F1 pre _ hpre ((hIx c).keep _ _ _ _ _ h7 (Keep.ofPut (S := fun k => k = L) _ _ _ rfl) (fun k hk e => h4 (e ▸ hk))) (aft _ F1 h3 h4 h5 h2)
end Go.Proofs.YtkiibcfjjplkaaaDoor
