import Derived.Test.YthoakchdlidemaaDoorPkTL10
import Derived.Test.YthoakchdlidemaaDoorPkPM3
import Derived.Test.YthoakchdlidemaaDoorPkFN6
namespace Go.Proofs.YthoakchdlidemaaDoor
open Go.RowKit
theorem mod_up (n k : Nat) : n % 2 ^ (k + 1) = n % 2 ^ k + 2 ^ k * (n / 2 ^ k % 2) := Nat.mod_pow_succ
set_option maxRecDepth 100000 in
set_option maxHeartbeats 4000000 in
theorem tpart_any {w : World} {q h : Nat} {L : List (List UInt8)} {F : Nat → Prop} (t : TrL w q h L F) (b e : Nat) (hb : b < e) (he : e ≤ L.length) (Z : Tb w) :
    Calls Tryd.prog 71 #[.pointer (some ⟨q, 0, none⟩), .agg #[.int .i64 (b : Int), .int .i64 (e : Int)]] w fun r w' => r = .returned (sv (Tree.root (Til.sg L b e))) ∧ Below w.heap.size w w' := by
  obtain ⟨w1, hw1⟩ : ∃ w1, w.alloc (.cells #[Value.int .i64 (b : Int), .int .i64 (e : Int)] 29) = w1 := ⟨_, rfl⟩
  have b1 := (Below.refl w.heap.size w).alloc (Nat.le_refl _) (.cells #[Value.int .i64 (b : Int), .int .i64 (e : Int)] 29)
  have r1 := heap_alloc_new w (.cells #[Value.int .i64 (b : Int), .int .i64 (e : Int)] 29)
  rw [hw1] at b1 r1
  have S0 : w1.cell? ⟨w.heap.size, 0, none⟩ = some (.int .i64 (b : Int)) ∧ w1.cell? ⟨w.heap.size, 1, none⟩ = some (.int .i64 (e : Int)) := ⟨by rw [cell_of_row _ _ _ _ _ _ r1]; rfl, by rw [cell_of_row _ _ _ _ _ _ r1]; rfl⟩
  have C1 := hid S0.2
  have hlt : w.heap.size < w1.heap.size := lt_of_heap r1
  have T1 := hid (t.below b1)
  have Z1 := hid (Z.below b1 Z.lt)
  have B1 := hid b1
  have n20 := t.n20
  obtain ⟨n, hn⟩ : ∃ n : Nat, e - b = n := ⟨_, rfl⟩
  have e0 : IntKind.i64.wrap ((e : Int) - (b : Int)) = (n : Int) := by rw [wrap_small _ (by omega) (by omega)]; omega
  have e1 : IntKind.u64.wrap (n : Int) = (n : Int) := by rw [IntKind.wrap_u64]; omega
  obtain ⟨c, hc⟩ : ∃ c, n.log2 = c := ⟨_, rfl⟩
  have len := fun w' => lenU_nat n c (by omega) (by omega) hc w'
  have hcn : n < 2 ^ (c + 1) := by rw [← hc]; exact Nat.lt_log2_self
  have hc20 : c ≤ 20 := by
    have h2 : 2 ^ c ≤ n := by rw [← hc]; exact Nat.log2_self_le (by omega)
    have h3 : 2 ^ c < 2 ^ 21 := by omega
    have := (Nat.pow_lt_pow_iff_right (a := 2) (by omega)).1 h3
    omega
  obtain ⟨c1, hc1⟩ : ∃ c1 : Nat, c + 1 = c1 := ⟨_, rfl⟩
  have e2 : (c : Int) + 1 = (c1 : Int) := by omega
  have hc21 : c1 ≤ 21 := by omega
  rw [e2] at len
  have HCN : Hid (n % 2 ^ c1 = n) := by unfold Hid; rw [← hc1]; exact Nat.mod_eq_of_lt hcn
  have HN := hid hn
  clear t Z b1 r1 hc hcn e2
  go_enter Tryd.func71, Tryd.ntmps71
  go_wp2
  go_region_held3 (fun w' => w'.cell? ⟨w.heap.size, 0, none⟩ = some (.int .i64 (b : Int)) ∧ w'.cell? ⟨w.heap.size, 1, none⟩ = some (.int .i64 (e : Int))) (exact S0) (fail)
  clear S0
  go_wp2_with (go_at_call 58; refine (len _).mono ?_; rintro r w9 ⟨rfl, rfl⟩)
  obtain ⟨w2, hw2⟩ : ∃ w2, w1.drew = w2 := ⟨_, rfl⟩
  rw [hw2]
  have b2 := (Below.refl w1.heap.size w1).drew
  rw [hw2] at b2
  have T2 := hid (T1.out.below b2)
  have Z2 := hid (Z1.out.below b2 Z1.out.lt)
  have B2 := hid (B1.out.trans (b2.mono B1.out.size))
  have C2 := hid ((b2.cell (p := ⟨w.heap.size, 1, none⟩) hlt).trans C1.out)
  have hlt2 : w.heap.size < w2.heap.size := Nat.lt_of_lt_of_le hlt b2.size
  clear hw2 b2 T1 Z1 B1 C1 hlt len e0 e1 hc1
  go_loopw [21, 7, 6] (fun i hv ev w' => ∃ (k E : Nat) (x : List UInt8), i = .int .i64 (k : Int) ∧ k ≤ c1 ∧ hv = sv x ∧ ev = .int .i64 (E : Int) ∧ Hid (E + n % 2 ^ k = e) ∧ Hid (n % 2 ^ k ≠ 0 → Tree.root (Til.sg L E e) = x) ∧ Hid (Below w2.heap.size w2 w')) (fun i _ _ _ => c1 - (intOf i).toNat)
  case atStart => exact ⟨0, e, [], rfl, by omega, rfl, rfl, by unfold Hid; rw [Nat.pow_zero, Nat.mod_one]; rfl, fun h => absurd (by rw [Nat.pow_zero, Nat.mod_one]) h, hid (Below.refl _ _)⟩
  case round =>
    obtain ⟨k, E, x, rfl, hk, rfl, rfl, hE, hx, hB⟩ := hrel
    by_cases hkc : k < c1
    · have c0 : (k : Int) < (c1 : Int) := by omega
      have k0 : (0 : Int) ≤ (k : Int) := by omega
      have k1 : (k : Int) ≤ 64 := by omega
      have bt := bit_is (b := n) (k := k) (by have := HN.out; omega)
      have mu := mod_up n k
      have cE := (hB.out.cell (p := ⟨w.heap.size, 1, none⟩) hlt2).trans C2.out
      have hk1 : IntKind.i64.wrap ((k : Int) + 1) = ((k + 1 : Nat) : Int) := by rw [wrap_small _ (by omega) (by omega)]; omega
      by_cases hbit : n / 2 ^ k % 2 = 0
      · rw [hbit, show ((0 : Nat) : Int) = 0 from rfl] at bt
        rw [hbit, Nat.mul_zero, Nat.add_zero] at mu
        have hE' : Hid (E + n % 2 ^ (k + 1) = e) := by unfold Hid; rw [mu]; exact hE.out
        have hx' : Hid (n % 2 ^ (k + 1) ≠ 0 → Tree.root (Til.sg L E e) = x) := by unfold Hid; rw [mu]; exact hx.out
        clear mu hbit hE hx
        go_wp2
        exact ⟨⟨k + 1, E, x, by go_num, by omega, rfl, rfl, hE', hx', hB⟩, by simp [intOf]; omega⟩
      · have hb1 : n / 2 ^ k % 2 = 1 := by omega
        rw [hb1, show ((1 : Nat) : Int) = 1 from rfl] at bt
        rw [hb1, Nat.mul_one] at mu
        obtain ⟨P, hP⟩ : ∃ P, P = 2 ^ k := ⟨_, rfl⟩
        rw [← hP] at mu
        have hml : n % 2 ^ (k + 1) ≤ n := Nat.mod_le _ _
        have hp0 : 0 < P := by rw [hP]; exact Nat.two_pow_pos k
        have hmP : n % P < P := Nat.mod_lt _ hp0
        have hEo := hE.out
        rw [← hP] at hEo
        have hno := HN.out
        obtain ⟨G, hG⟩ : ∃ G : Nat, G + P = E := ⟨E - P, by omega⟩
        have s1 : (2 : Int) ^ k = (P : Int) := by rw [hP]; simp
        rw [s1] at bt
        have s2 : IntKind.i64.wrap (P : Int) = (P : Int) := wrap_small _ (by omega) (by omega)
        have s3 : IntKind.i64.wrap ((E : Int) - (P : Int)) = (G : Int) := by rw [wrap_small _ (by omega) (by omega)]; omega
        have PF := perfect_any k wr (T2.out.below hB.out) G (by omega) (by rw [← hP]; omega) (Z2.out.below hB.out Z2.out.lt)
        rw [← hP, hG] at PF
        have hE' : Hid (G + n % 2 ^ (k + 1) = e) := by unfold Hid; omega
        by_cases hm0 : n % P = 0
        · have q0 : ((E : Int) == (e : Int)) = true := by simp; omega
          have hEe : E = e := by omega
          rw [hEe] at PF
          obtain ⟨y, hy⟩ : ∃ y, Hid (Tree.root (Til.sg L G e) = y) := ⟨_, rfl⟩
          rw [hy.out] at PF
          have hx' : Hid (n % 2 ^ (k + 1) ≠ 0 → Tree.root (Til.sg L G e) = y) := fun _ => hy.out
          clear mu hP hml hp0 hmP hEo hno hG hbit hb1 hE hx hm0 hEe hy
          go_wp2_with (go_at_call 84; fail)
          refine PF.mono ?_
          rintro r w3 ⟨rfl, hw3⟩
          have cE3 := (hw3.cell (p := ⟨w.heap.size, 1, none⟩) (Nat.lt_of_lt_of_le hlt2 hB.out.size)).trans cE
          have B3 := hid (hB.out.trans (hw3.mono hB.out.size))
          clear PF hw3 cE
          go_wp2
          exact ⟨⟨k + 1, G, y, by go_num, by omega, rfl, rfl, hE', hx', B3⟩, by simp [intOf]; omega⟩
        · have q0 : ((E : Int) == (e : Int)) = false := by simp; omega
          have hxo := hx.out (by rw [← hP]; exact hm0)
          obtain ⟨y, hy⟩ : ∃ y, Hid (Tree.nd (Tree.root (Til.sg L G E)) x = y) := ⟨_, rfl⟩
          have rt := Til.root_two (L := L) (b := G) (e := e) (a := k) he (by rw [← hP]; omega) (by rw [← hP]; omega)
          rw [← hP, hG, hxo, hy.out] at rt
          have hx' : Hid (n % 2 ^ (k + 1) ≠ 0 → Tree.root (Til.sg L G e) = y) := fun _ => rt
          obtain ⟨z, hz⟩ : ∃ z, Tree.root (Til.sg L G E) = z := ⟨_, rfl⟩
          rw [hz] at PF hy
          clear mu hP hml hp0 hmP hEo hno hG hbit hb1 hE hx hm0 hxo rt hz
          go_wp2_with (go_at_call 84; fail)
          refine PF.mono ?_
          rintro r w3 ⟨rfl, hw3⟩
          have cE3 := (hw3.cell (p := ⟨w.heap.size, 1, none⟩) (Nat.lt_of_lt_of_le hlt2 hB.out.size)).trans cE
          have B3 := hid (hB.out.trans (hw3.mono hB.out.size))
          have N3 := tnode_any hy w3 (Z2.out.below B3.out Z2.out.lt).t
          clear PF hw3 cE
          go_wp2_with (go_at_call 83; fail)
          refine N3.mono ?_
          rintro r w4 ⟨rfl, hw4⟩
          have B4 := hid (B3.out.trans (hw4.mono B3.out.size))
          clear N3 hw4
          go_wp2
          exact ⟨⟨k + 1, G, y, by go_num, by omega, rfl, rfl, hE', hx', B4⟩, by simp [intOf]; omega⟩
    · obtain rfl : k = c1 := by omega
      have c0 : ¬ (k : Int) < (k : Int) := by omega
      have hEo := hE.out
      rw [HCN.out] at hEo
      have hno := HN.out
      obtain rfl : E = b := by omega
      have hxo := hx.out (by rw [HCN.out]; omega)
      subst hxo
      go_wp2
      go_ret
      exact ⟨rfl, B2.out.trans (hB.out.mono B2.out.size)⟩
end Go.Proofs.YthoakchdlidemaaDoor

namespace Go.Proofs.YthoakchdlidemaaDoor
open Go.RowKit
/-- may a span be? -/
def spB (n : Nat) (b e : Int) : Bool := decide (0 ≤ b ∧ b ≤ e ∧ e ≤ (n : Int))
set_option maxRecDepth 100000 in
set_option maxHeartbeats 2000000 in
theorem hasSpan_any {w : World} {q h : Nat} {L : List (List UInt8)} {F : Nat → Prop} (t : TrL w q h L F) (b e : Int) :
    Calls Tryd.prog 69 #[.pointer (some ⟨q, 0, none⟩), .agg #[.int .i64 b, .int .i64 e]] w fun r w' => r = .returned (.bool (spB L.length b e)) ∧ Below w.heap.size w w' := by
  obtain ⟨w1, hw1⟩ : ∃ w1, w.alloc (.cells #[Value.int .i64 b, .int .i64 e] 29) = w1 := ⟨_, rfl⟩
  have b1 := (Below.refl w.heap.size w).alloc (Nat.le_refl _) (.cells #[Value.int .i64 b, .int .i64 e] 29)
  have r1 := heap_alloc_new w (.cells #[Value.int .i64 b, .int .i64 e] 29)
  rw [hw1] at b1 r1
  have S0 : w1.cell? ⟨w.heap.size, 0, none⟩ = some (.int .i64 b) ∧ w1.cell? ⟨w.heap.size, 1, none⟩ = some (.int .i64 e) := ⟨by rw [cell_of_row _ _ _ _ _ _ r1]; rfl, by rw [cell_of_row _ _ _ _ _ _ r1]; rfl⟩
  have i1 := tSizeL ((t.below b1).below (Below.refl w1.heap.size w1).drew)
  have B1 := hid b1
  obtain ⟨n, hn⟩ : ∃ n, L.length = n := ⟨_, rfl⟩
  rw [hn] at i1 ⊢
  obtain ⟨c, hc⟩ : ∃ c, spB n b e = c := ⟨_, rfl⟩
  rw [hc]
  unfold spB at hc
  have HC := hid hc
  clear t b1 r1 hc
  by_cases h0 : 0 ≤ b
  · by_cases h1 : b ≤ e
    · have c3 : decide (e ≤ (n : Int)) = c := by rw [← HC.out]; exact decide_eq_decide.2 ⟨fun x => ⟨h0, h1, x⟩, fun x => x.2.2⟩
      go_enter Tryd.func69, Tryd.ntmps69
      go_wp2
      go_region_held3 (fun w' => w'.cell? ⟨w.heap.size, 0, none⟩ = some (.int .i64 b) ∧ w'.cell? ⟨w.heap.size, 1, none⟩ = some (.int .i64 e)) (exact S0) ((go_at_call 44; refine i1.mono ?_; rintro r w9 ⟨rfl, rfl⟩))
      go_wp2
      go_ret
      exact ⟨rfl, B1.out.drew⟩
    · have c3 : c = false := by rw [← HC.out]; exact decide_eq_false fun x => h1 x.2.1
      subst c3
      have y0 : decide (0 ≤ b) = true := decide_eq_true h0
      have y1 : decide (b ≤ e) = false := decide_eq_false h1
      clear h0 h1
      clear HC i1
      go_enter Tryd.func69, Tryd.ntmps69
      obtain ⟨s0, s1⟩ := S0
      go_wp2
      go_quiet (fail)
      go_wp2
      go_ret
      exact ⟨rfl, ⟨B1.out.os, B1.out.tape, B1.out.output, B1.out.size, B1.out.block⟩⟩
  · have c3 : c = false := by rw [← HC.out]; exact decide_eq_false fun x => h0 x.1
    subst c3
    have y0 : decide (0 ≤ b) = false := decide_eq_false h0
    clear h0
    clear HC i1
    go_enter Tryd.func69, Tryd.ntmps69
    obtain ⟨s0, s1⟩ := S0
    go_wp2
    go_quiet (fail)
    go_wp2
    go_ret
    exact ⟨rfl, ⟨B1.out.os, B1.out.tape, B1.out.output, B1.out.size, B1.out.block⟩⟩
/-- T4 -/
def tPartO (L : List (List UInt8)) (b e : Int) : List UInt8 × Int := if spB L.length b e = true then (Tree.root (Til.sg L b.toNat e.toNat), 0) else ([], 73)
set_option maxRecDepth 100000 in
set_option maxHeartbeats 2000000 in
theorem tPart_any {w : World} {q h : Nat} {L : List (List UInt8)} {F : Nat → Prop} (t : TrL w q h L F) (b e : Int) (Z : Tb w) {x : List UInt8} {z : Int} (hx : Hid (tPartO L b e = (x, z))) :
    Calls Tryd.prog 45 #[.pointer (some ⟨q, 0, none⟩), .agg #[.int .i64 b, .int .i64 e]] w fun r w' => r = .returned (.tuple #[sv x, .int .i64 z]) ∧ Below w.heap.size w w' := by
  obtain ⟨w1, hw1⟩ : ∃ w1, w.alloc (.cells #[Value.int .i64 b, .int .i64 e] 29) = w1 := ⟨_, rfl⟩
  have b1 := (Below.refl w.heap.size w).alloc (Nat.le_refl _) (.cells #[Value.int .i64 b, .int .i64 e] 29)
  have r1 := heap_alloc_new w (.cells #[Value.int .i64 b, .int .i64 e] 29)
  rw [hw1] at b1 r1
  have c0 : w1.cell? ⟨w.heap.size, 0, none⟩ = some (.int .i64 b) := by rw [cell_of_row _ _ _ _ _ _ r1]; rfl
  have c1 : w1.cell? ⟨w.heap.size, 1, none⟩ = some (.int .i64 e) := by rw [cell_of_row _ _ _ _ _ _ r1]; rfl
  have T1 := hid (t.below b1)
  have Z1 := hid (Z.below b1 Z.lt)
  have i1 := hasSpan_any T1.out b e
  have B1 := hid b1
  have hlt : w.heap.size < w1.heap.size := lt_of_heap r1
  have hxo := hx.out
  unfold tPartO at hxo
  obtain ⟨c, hc⟩ : ∃ c, spB L.length b e = c := ⟨_, rfl⟩
  rw [hc] at i1 hxo
  clear t Z b1 r1
  cases c
  · rw [if_neg (by simp)] at hxo
    injection hxo with h1 h2
    subst h1 h2
    go_enter Tryd.func45, Tryd.ntmps45
    go_wp2_with (go_at_call 69; refine i1.mono ?_; rintro r w2 ⟨rfl, hw2⟩)
    go_ret2
    exact ⟨rfl, B1.out.trans (hw2.mono B1.out.size)⟩
  · rw [if_pos rfl] at hxo
    injection hxo with h1 h2
    subst h2
    unfold spB at hc
    have hc := of_decide_eq_true hc
    obtain ⟨b', rfl⟩ : ∃ b' : Nat, b = (b' : Int) := ⟨b.toNat, by omega⟩
    obtain ⟨e', rfl⟩ : ∃ e' : Nat, e = (e' : Int) := ⟨e.toNat, by omega⟩
    rw [Int.toNat_natCast, Int.toNat_natCast] at h1
    by_cases hbe : b' = e'
    · subst hbe
      rw [Til.sg_nil, Tree.root_nil] at h1
      have k0 : ((b' : Int) == (b' : Int)) = true := by simp
      have i2 := fun w' (bb : Below w1.heap.size w1 w') => empty_any w' (Z1.out.below bb Z1.out.lt).t
      rw [h1] at i2
      clear hc h1 hx
      go_enter Tryd.func45, Tryd.ntmps45
      go_wp2_with (go_at_call 69; fail)
      refine i1.mono ?_
      rintro r w2 ⟨rfl, hw2⟩
      have d0 := (hw2.cell (p := ⟨w.heap.size, 0, none⟩) hlt).trans c0
      have d1 := (hw2.cell (p := ⟨w.heap.size, 1, none⟩) hlt).trans c1
      clear c0 c1
      go_wp2_with (go_at_call 70; refine (i2 _ hw2).mono ?_; rintro r w3 ⟨rfl, hw3⟩)
      go_ret2
      exact ⟨rfl, B1.out.trans ((hw2.trans (hw3.mono hw2.size)).mono B1.out.size)⟩
    · have k0 : ((b' : Int) == (e' : Int)) = false := by simp; omega
      have i2 := fun w' (bb : Below w1.heap.size w1 w') => tpart_any (T1.out.below bb) b' e' (by omega) (by omega) (Z1.out.below bb Z1.out.lt)
      rw [h1] at i2
      clear hc h1 hx hbe
      go_enter Tryd.func45, Tryd.ntmps45
      go_wp2_with (go_at_call 69; fail)
      refine i1.mono ?_
      rintro r w2 ⟨rfl, hw2⟩
      have d0 := (hw2.cell (p := ⟨w.heap.size, 0, none⟩) hlt).trans c0
      have d1 := (hw2.cell (p := ⟨w.heap.size, 1, none⟩) hlt).trans c1
      clear c0 c1
      go_wp2_with (go_at_call 71; refine (i2 _ hw2).mono ?_; rintro r w3 ⟨rfl, hw3⟩)
      go_ret2
      exact ⟨rfl, B1.out.trans ((hw2.trans (hw3.mono hw2.size)).mono B1.out.size)⟩
set_option maxRecDepth 100000 in
theorem tRoot_any {w : World} {q h : Nat} {L : List (List UInt8)} {F : Nat → Prop} (t : TrL w q h L F) (n : Int) (Z : Tb w) {x : List UInt8} {z : Int} (hx : Hid (tPartO L 0 n = (x, z))) :
    Calls Tryd.prog 16 #[.pointer (some ⟨q, 0, none⟩), .int .i64 n] w fun r w' => r = .returned (.tuple #[sv x, .int .i64 z]) ∧ Below w.heap.size w w' := by
  have i1 := tPart_any t 0 n Z hx
  go_enter Tryd.func16, Tryd.ntmps16
  go_wp2_with (go_at_call 45; refine i1.mono ?_; rintro r w2 ⟨rfl, hw2⟩)
  go_ret2
  exact ⟨rfl, hw2⟩
theorem tPartO_nat {L : List (List UInt8)} {b e : Nat} (hb : b ≤ e) (he : e ≤ L.length) : tPartO L (b : Int) (e : Int) = (Tree.root (Til.sg L b e), 0) := by
  unfold tPartO spB
  rw [if_pos (decide_eq_true ⟨by omega, by omega, by omega⟩), Int.toNat_natCast, Int.toNat_natCast]
theorem tPartO_all {L : List (List UInt8)} : tPartO L 0 (L.length : Int) = (Tree.root L, 0) := by
  have := tPartO_nat (L := L) (b := 0) (e := L.length) (by omega) (Nat.le_refl _)
  rwa [Til.sg_all] at this
end Go.Proofs.YthoakchdlidemaaDoor

/- Layer 14, the program: isRun, told, areHashes -/
namespace Go.Proofs.YthoakchdlidemaaDoor
open Go.RowKit Go.Shelf
namespace Spn
theorem append_spl14 (w : World) (v1 v2 : Value) (l m : List (Nat × Nat)) (h1 : OwnP w v1 l) (h2 : OwnP w v2 m) (hl : l.length ≤ 1099511627776) (hm : m.length ≤ 1099511627776) :
    ∃ v' w', (Builtin.append_ #[24, 24] 24 #[v1, v2]).run Tryd.prog w = .ok v' w' ∧ OwnP w' v' (l ++ m) ∧ Grow w w' v1 v' := by
  obtain ⟨i0, hi, hz0, hz1, hz2⟩ := info_parts infoSp8
  have one : ∀ u ∈ prs m, u.oneCell' = true := fun u hu => by
    simp only [prs, List.mem_flatMap, List.mem_cons, List.not_mem_nil, or_false] at hu
    obtain ⟨q, _, rfl | rfl⟩ := hu <;> rfl
  have hsrc : Src Tryd.prog 2 24 v2 m.length (prs m) w := by
    rcases h2 with ⟨rfl, h, h'⟩ | ⟨g, cap, rfl, _, _, h0, h4, _, _⟩
    · rw [h, h']; exact Src.ofNil w Tryd.underlying24 0
    · exact Src.ofSlice w Tryd.underlying24 ⟨g, 0, none⟩ m.length cap (prs m) h0 (fun j u hj => by rw [Addr.add_mid]; exact h4 j u hj) one
  by_cases hz : v1 = .slice none 0 0 ∧ m.length = 0
  · obtain ⟨rfl, hm0⟩ := hz
    have hl0 : l.length = 0 := by
      rcases h1 with ⟨_, h, _⟩ | ⟨g, cap, h, _⟩
      · exact h
      · cases h
    obtain rfl : l = [] := List.length_eq_zero_iff.1 hl0
    obtain rfl : m = [] := List.length_eq_zero_iff.1 hm0
    refine ⟨.slice none 0 0, w, ?_, OwnM.nil 2 w, ⟨rfl, rfl, rfl, Nat.le_refl _, fun _ _ _ => rfl, .inl rfl⟩⟩
    rcases h2 with ⟨rfl, _⟩ | ⟨g, cap, rfl, _⟩
    · kernel_rfl
    · kernel_rfl
  · obtain ⟨v', w', a1, a2, a3⟩ := run_append_M (P := Tryd.prog) w 24 24 24 29 i0 (.agg #[.int .i64 0, .int .i64 0]) Tryd.underlying24 hi hz0 hz1 rfl v1 l.length (prs l) h1 v2 m.length (prs m) hsrc
      (by rw [hz2]; omega) (by rw [maxLen]; omega) (fun e => by
        rcases Nat.eq_zero_or_pos m.length with h | h
        · exact absurd ⟨e, h⟩ hz
        · exact h)
    refine ⟨v', w', a1, ?_, a3⟩
    rw [OwnP, prs_append, List.length_append]
    exact a2
theorem ownP_at {w : World} {a : Option Addr} {c n : Nat} {l : List (Nat × Nat)} (h : OwnP w (.slice a n c) l) {j : Nat} {s : Nat × Nat} (hj : l[j]? = some s) : ∃ g, a = some ⟨g, 0, none⟩ ∧ g < w.heap.size ∧ w.cell? ⟨g, j * 2, none⟩ = some (.int .i64 (s.1 : Int)) ∧ w.cell? ⟨g, j * 2 + 1, none⟩ = some (.int .i64 (s.2 : Int)) := by
  obtain ⟨g, cap, e, c0, hg⟩ := h.cell (prs_get hj).1
  obtain ⟨g', cap', e', c1, _⟩ := h.cell (prs_get hj).2
  injection e with e
  injection e' with e'
  rw [e] at e'
  injection e' with e'
  injection e' with e'
  subst e'
  exact ⟨g, e, hg, c0, c1⟩
/-- a list of texts while it is filled -/
def vpre {α : Type} (f : α → List UInt8) (S : List α) (k : Nat) : List (List UInt8) := (S.take k).map f ++ List.replicate (S.length - k) []
theorem vpre_zero {α : Type} (f : α → List UInt8) (S : List α) : vpre f S 0 = List.replicate S.length [] := by simp [vpre]
theorem vpre_all {α : Type} (f : α → List UInt8) (S : List α) : vpre f S S.length = S.map f := by simp [vpre]
theorem vpre_len {α : Type} (f : α → List UInt8) (S : List α) {k : Nat} (hk : k ≤ S.length) : (vpre f S k).length = S.length := by simp [vpre]; omega
theorem vpre_set {α : Type} (f : α → List UInt8) (S : List α) {k : Nat} (hk : k < S.length) : (vpre f S k).set k (f S[k]) = vpre f S (k + 1) := by
  unfold vpre
  obtain ⟨m, hm⟩ : ∃ m, S.length - k = m + 1 := ⟨S.length - k - 1, by omega⟩
  have h1 : ((S.take k).map f).length = k := by simp; omega
  rw [hm, show S.length - (k + 1) = m by omega, List.replicate_succ, List.set_append, if_neg (by omega), h1, Nat.sub_self, List.set_cons_zero, List.take_add_one, List.getElem?_eq_getElem hk, List.map_append, List.append_assoc]
  rfl
set_option maxRecDepth 100000 in
set_option maxHeartbeats 2000000 in
theorem areHashes14_is (l : List (List UInt8)) (q : Bool) (hq : hsB8 l = q) (a : Option Addr) (cap : Nat) (w : World) (hc : l.length ≤ 9223372036854775807) (hA : At w a l) :
    Calls Tryd.prog 27 #[.slice a l.length cap] w fun r w' => r = .returned (.bool q) ∧ w' = w := by
  have HQ := hid hq
  generalize hn : l.length = k at *
  have HA := hid hA
  clear hA hq
  go_enter Tryd.func27, Tryd.ntmps27
  go_wp2
  go_loopw [7] (fun i w' => ∃ j : Nat, j ≤ k ∧ i = .int .i64 (j : Int) ∧ Hid ((l.take j).all (·.length == 32) = true) ∧ w' = w) (fun i _ => k - (intOf i).toNat)
  case atStart => exact ⟨0, by omega, rfl, rfl, rfl⟩
  case round =>
    obtain ⟨j, hj, rfl, hall, rfl⟩ := hrel
    by_cases hjk : j < k
    · have b0 : (j : Int) < (k : Int) := by omega
      obtain ⟨y, rfl⟩ := HA.out.pos (by omega)
      obtain ⟨s, hs, hcell⟩ := HA.out.cell j (by omega)
      by_cases h32 : s.size = 32
      · have i2 : (s.size : Int) = 32 := by omega
        have e2 := hid (all_take l j (by omega) hall.out (by rw [← hs.out, data_length]; exact h32))
        clear HA hall hs
        go_wp2
        exact ⟨⟨j + 1, by omega, by go_num, e2, trivial⟩, by simp [intOf]; omega⟩
      · have i2 : ((s.size : Int) != 32) = true := by simp; omega
        have i3 : ((s.size : Int) == 32) = false := by simp; omega
        have e2 := all_not l j (by omega) (by rw [← hs.out, data_length]; exact h32)
        have e3 := hid (show q = false by rw [← HQ.out]; exact e2)
        clear HA hall hs e2
        go_wp2
        go_ret
        exact ⟨by rw [e3.out]; rfl, rfl⟩
    · obtain rfl : j = k := by omega
      have b0 : ¬ (j : Int) < (j : Int) := by omega
      rw [← hn, List.take_length] at hall
      have e3 := hid (show q = true by rw [← HQ.out]; exact hall.out)
      clear HA hall
      go_wp2
      go_ret
      exact ⟨by rw [e3.out]; rfl, rfl⟩
/-- is it a run? -/
def runB (n x y : Int) : Bool := decide (0 ≤ x ∧ x < y ∧ y ≤ n)
set_option maxRecDepth 100000 in
set_option maxHeartbeats 2000000 in
theorem isRun_is (n x y : Int) (q : Bool) (hq : runB n x y = q) (w : World) : Calls Tryd.prog 25 #[.int .i64 n, sg x y] w fun r w' => r = .returned (.bool q) ∧ Below w.heap.size w w' := by
  have S0 := SpI.new w x y
  have hb := hid ((Below.refl _ w).alloc (Nat.le_refl _) (.cells #[.int .i64 x, .int .i64 y] 29))
  have c0 := S0.c0
  have c1 := S0.c1
  clear S0
  by_cases h1 : 0 ≤ x
  · by_cases h2 : x < y
    · by_cases h3 : y ≤ n
      · have er := hid (show q = true by rw [← hq]; simp [runB, h1, h2, h3])
        clear hq
        go_enter Tryd.func25, Tryd.ntmps25
        go_wp2
        go_ret
        exact ⟨by rw [er.out]; rfl, hb.out⟩
      · have er := hid (show q = false by rw [← hq]; simp [runB, h3])
        clear hq
        go_enter Tryd.func25, Tryd.ntmps25
        go_wp2
        go_ret
        exact ⟨by rw [er.out]; rfl, hb.out⟩
    · have er := hid (show q = false by rw [← hq]; simp [runB, h2])
      clear hq
      go_enter Tryd.func25, Tryd.ntmps25
      go_wp2
      go_ret
      exact ⟨by rw [er.out]; rfl, hb.out⟩
  · have er := hid (show q = false by rw [← hq]; simp [runB, h1])
    clear hq
    go_enter Tryd.func25, Tryd.ntmps25
    go_wp2
    go_ret
    exact ⟨by rw [er.out]; rfl, hb.out⟩
set_option maxRecDepth 100000 in
set_option maxHeartbeats 2000000 in
theorem told14_any (n x y : Nat) (h1 : x < y) (h2 : y ≤ n) (h3 : n ≤ 1099511627776) (w : World) : Calls Tryd.prog 26 #[.int .i64 (n : Int), sg (x : Int) (y : Int)] w fun r w' => ∃ v, r = .returned v ∧ OwnP w' v (Tree.runF n 0 n x y) ∧ (∀ k, v.ownBlock = some k → w.heap.size ≤ k) ∧ Below w.heap.size w w' := by
  have S0 := SpI.new w x y
  have hb := hid ((Below.refl _ w).alloc (Nat.le_refl _) (.cells #[.int .i64 (x : Int), .int .i64 (y : Int)] 29))
  have c0 := S0.c0
  have c1 := S0.c1
  have hE : runE (n : Int) (x : Int) (y : Int) = 0 := by unfold runE; rw [if_pos (by omega), if_pos (by omega)]
  have hL : runL (n : Int) (x : Int) (y : Int) = Tree.runF n 0 n x y := by unfold runL; rw [if_pos hE, Int.toNat_natCast, Int.toNat_natCast, Int.toNat_natCast]
  have i1 := run8_any (n : Int) (x : Int) (y : Int) (w.alloc (.cells #[.int .i64 (x : Int), .int .i64 (y : Int)] 29))
  rw [hE, hL] at i1
  clear S0 hE hL h1 h2 h3
  go_enter Tryd.func26, Tryd.ntmps26
  go_wp2_with (go_at_call 6; fail)
  refine i1.mono ?_
  rintro r w2 ⟨b2, v, rfl, O2, F2⟩
  have z := hb.out.size
  have FO := hid O2
  have FF : Hid (∀ k, v.ownBlock = some k → w.heap.size ≤ k) := fun k hk => Nat.le_trans z (F2 k hk)
  have FB := hid (hb.out.trans (b2.mono z))
  clear O2 F2 b2 i1
  go_wp2
  go_ret
  exact ⟨v, rfl, FO.out, FF.out, FB.out⟩
end Spn
end Go.Proofs.YthoakchdlidemaaDoor

/- Layer 14, the program: complete -/
namespace Go.Proofs.YthoakchdlidemaaDoor
open Go.RowKit Go.Shelf
namespace Spn
/-- a row of spans -/
def RowS (w : World) (g : Nat) (l : List (Nat × Nat)) : Prop := w.heap[g]? = some (.cells (prs l).toArray 29 (0, 0))
theorem RowS.lt {w : World} {g : Nat} {l : List (Nat × Nat)} (h : RowS w g l) : g < w.heap.size := lt_of_heap h
theorem RowS.below {w w' : World} {g B : Nat} {l : List (Nat × Nat)} (h : RowS w g l) (hb : Below B w w') (hB : g < B) : RowS w' g l := (hb.block g hB).trans h
theorem RowS.cell {w : World} {g : Nat} {l : List (Nat × Nat)} (h : RowS w g l) {j : Nat} {q : Nat × Nat} (hq : l[j]? = some q) : w.cell? ⟨g, j * 2, none⟩ = some (.int .i64 (q.1 : Int)) ∧ w.cell? ⟨g, j * 2 + 1, none⟩ = some (.int .i64 (q.2 : Int)) := by
  have := prs_get hq
  rw [cell_of_row _ _ _ _ _ _ h, cell_of_row _ _ _ _ _ _ h]
  simpa using this
theorem RowS.free {w : World} {g : Nat} {l : List (Nat × Nat)} (h : RowS w g l) (j : Nat) : w.frozen? ⟨g, j, none⟩ = false := frozen_of_row _ _ _ _ _ h
theorem prs_set2 : ∀ (l : List (Nat × Nat)) (k x y : Nat), k < l.length → ((prs l).set (k * 2) (.int .i64 (x : Int))).set (k * 2 + 1) (.int .i64 (y : Int)) = prs (l.set k (x, y))
  | [], k, x, y, h => by simp at h
  | q :: l, 0, x, y, h => rfl
  | q :: l, k + 1, x, y, h => by
    have ih := prs_set2 l k x y (by simpa using h)
    have e1 : prs (q :: l) = .int .i64 (q.1 : Int) :: .int .i64 (q.2 : Int) :: prs l := rfl
    have e2 : prs ((q :: l).set (k + 1) (x, y)) = .int .i64 (q.1 : Int) :: .int .i64 (q.2 : Int) :: prs (l.set k (x, y)) := rfl
    rw [e1, e2, show (k + 1) * 2 = k * 2 + 1 + 1 by omega]
    simp only [List.set_cons_succ]
    rw [ih]
theorem RowS.set {w : World} {g : Nat} {l : List (Nat × Nat)} (h : RowS w g l) {k : Nat} (hk : k < l.length) (x y : Nat) : RowS ((w.setCell ⟨g, k * 2, none⟩ (.int .i64 (x : Int))).setCell ⟨g, k * 2 + 1, none⟩ (.int .i64 (y : Int))) g (l.set k (x, y)) := by
  have e1 := heap_setCell_same w g (k * 2) _ _ (.int .i64 (x : Int)) h
  have e2 := heap_setCell_same _ g (k * 2 + 1) _ _ (.int .i64 (y : Int)) e1
  unfold RowS
  rw [e2, ← prs_set2 l k x y hk]
  simp
theorem RowS.own {w : World} {g : Nat} {l : List (Nat × Nat)} (h : RowS w g l) (hl : l.length ≤ 1099511627776) : OwnP w (.slice (some ⟨g, 0, none⟩) l.length l.length) l := by
  refine .inr ⟨g, l.length, rfl, Nat.le_refl _, by rw [maxLen]; omega, prs_len l, fun j v hv => ?_, there_of_row h 0 _ (by simp [prs_len]), h.lt⟩
  rw [cell_of_row _ _ _ _ _ _ h, Nat.zero_add]
  simpa using hv
theorem prs_rep (c : Nat) : prs (List.replicate c (0, 0)) = List.replicate (c * 2) (.int .i64 0) := by
  induction c with
  | zero => rfl
  | succ c ih =>
    have e1 : prs (List.replicate (c + 1) (0, 0)) = .int .i64 0 :: .int .i64 0 :: prs (List.replicate c (0, 0)) := rfl
    rw [e1, ih, show (c + 1) * 2 = c * 2 + 1 + 1 by omega, List.replicate_succ, List.replicate_succ]
theorem made_two (z : Value) (n : Nat) : (madeCells #[z, z] n).toList = List.replicate n z := by
  apply List.ext_getElem?
  intro j
  by_cases hj : j < n
  · have : j % 2 = 0 ∨ j % 2 = 1 := by omega
    rcases this with h | h <;> simp [madeCells, hj, h]
  · simp [madeCells, hj]
/-- make([]api.Span, c) -/
theorem make_spans14 (w : World) (c : Nat) (hc : c ≤ 8796093022000) :
    (Instr.makeSlice 24 (.int .i64 (c : Int)) (.int .i64 (c : Int))).run Tryd.prog w = .ok (.slice (some ⟨w.heap.size, 0, none⟩) c c) (w.alloc (.cells (prs (List.replicate c (0, 0))).toArray 29)) := by
  obtain ⟨i0, hi, hz0, hz1, hz2⟩ := info_parts infoSp8
  have h := run_make (P := Tryd.prog) w 24 29 i0 (.agg #[.int .i64 0, .int .i64 0]) Tryd.underlying24 hi hz0 .i64 .i64 (c : Int) (c : Int) (by omega) (by omega) (by rw [hz2]; omega) (by omega)
  rw [Int.toNat_natCast, hz1] at h
  have e : madeCells (Value.agg #[.int .i64 0, .int .i64 0]).cells (c * 2) = (prs (List.replicate c (0, 0))).toArray := by
    apply Array.ext'
    rw [show (madeCells (Value.agg #[.int .i64 0, .int .i64 0]).cells (c * 2)).toList = List.replicate (c * 2) (.int .i64 0) from made_two _ _, prs_rep]
  rw [e] at h
  exact h
/-- the first k of S, the rest nothing -/
def spre (S : List (Nat × Nat)) (k : Nat) : List (Nat × Nat) := S.take k ++ List.replicate (S.length - k) (0, 0)
theorem spre_zero (S : List (Nat × Nat)) : spre S 0 = List.replicate S.length (0, 0) := by simp [spre]
theorem spre_all (S : List (Nat × Nat)) : spre S S.length = S := by simp [spre]
theorem spre_len (S : List (Nat × Nat)) {k : Nat} (hk : k ≤ S.length) : (spre S k).length = S.length := by simp [spre]; omega
theorem spre_set (S : List (Nat × Nat)) {k : Nat} (hk : k < S.length) : (spre S k).set k S[k] = spre S (k + 1) := by
  unfold spre
  obtain ⟨m, hm⟩ : ∃ m, S.length - k = m + 1 := ⟨S.length - k - 1, by omega⟩
  have h1 : (S.take k).length = k := by simp; omega
  rw [hm, show S.length - (k + 1) = m by omega, List.replicate_succ, List.set_append, if_neg (by omega), h1, Nat.sub_self, List.set_cons_zero, List.take_add_one, List.getElem?_eq_getElem hk, List.append_assoc]
  rfl
/-- the blocks of a cut, as nodes and as spans -/
theorem cov_at {b e : Nat} (h0 : e ≤ 1099511627776) (h : b ≤ e) {j : Nat} (hj : j < (csp b e).length) : ∃ lv ix P : Nat, (covL b e)[j]? = some (lv, ix) ∧ (csp b e)[j] = (ix * P, (ix + 1) * P) ∧ P = 2 ^ lv ∧ lv ≤ 40 ∧ (ix + 1) * P ≤ 1099511627776 := by
  have hl : j < (Cut.cut b e).length := by rw [csp, List.length_map] at hj; exact hj
  have hc := Cut.cut_cov h0 h
  obtain ⟨k, hk1, hk2⟩ := cov_pow hc _ (List.getElem_mem hl)
  have hw := hc.within _ (List.getElem_mem hl)
  refine ⟨k, (Cut.cut b e)[j].1 / 2 ^ k, 2 ^ k, ?_, ?_, rfl, ?_, ?_⟩
  · unfold covL
    rw [List.getElem?_map, List.getElem?_eq_getElem hl, Option.map_some, hk1, Nat.log2_two_pow]
  · have e1 : (Cut.cut b e)[j].1 / 2 ^ k * 2 ^ k = (Cut.cut b e)[j].1 := Nat.div_mul_cancel (Nat.dvd_of_mod_eq_zero hk2)
    rw [Nat.add_mul, e1, Nat.one_mul, ← hk1]
    simp [csp]
  · rcases Nat.lt_or_ge 40 k with c | c
    · have := Nat.pow_le_pow_right (n := 2) (by omega) c
      have : (2 : Nat) ^ (40 + 1) = 2199023255552 := by decide
      omega
    · exact c
  · have e1 : (Cut.cut b e)[j].1 / 2 ^ k * 2 ^ k = (Cut.cut b e)[j].1 := Nat.div_mul_cancel (Nat.dvd_of_mod_eq_zero hk2)
    rw [Nat.add_mul, e1, Nat.one_mul]
    omega
theorem cov_len (b e : Nat) : (covL b e).length = (csp b e).length := by simp [covL, csp]
set_option maxRecDepth 100000 in
set_option maxHeartbeats 4000000 in
theorem complete14_any (s e : Nat) (h1 : s ≤ e) (h2 : e ≤ 1099511627776) (w : World) (Z : Tb w) : Calls Tryd.prog 28 #[sg (s : Int) (e : Int)] w fun r w' => ∃ v, r = .returned v ∧ OwnP w' v (csp s e) ∧ (∀ k, v.ownBlock = some k → w.heap.size ≤ k) ∧ Below w.heap.size w w' := by
  have S0 := SpI.new w s e
  have hb := hid ((Below.refl _ w).alloc (Nat.le_refl _) (.cells #[.int .i64 (s : Int), .int .i64 (e : Int)] 29))
  have c0 := S0.c0
  have c1 := S0.c1
  have i1 := cover_ok s e (w.alloc (.cells #[.int .i64 (s : Int), .int .i64 (e : Int)] 29)) h1 h2 (Z.below hb.out Z.lt)
  obtain ⟨m, hm⟩ : ∃ m, (csp s e).length = m := ⟨_, rfl⟩
  have hm81 : m ≤ 81 := by rw [← hm]; exact csp_len h2 h1
  have hcl : (covL s e).length = m := by rw [cov_len]; exact hm
  have HC := hid (fun (j : Nat) (hj : j < (csp s e).length) => cov_at h2 h1 hj)
  have Hm := hid hm
  have Hcl := hid hcl
  generalize csp s e = S at *
  generalize covL s e = C at *
  clear S0 h1 h2 Z hm hcl
  go_enter Tryd.func28, Tryd.ntmps28
  go_wp2_with (go_at_call 7; fail)
  refine i1.mono ?_
  rintro r w1 ⟨b1, v1, rfl, o1, f1⟩
  obtain ⟨a1, k1, rfl, q1, q2⟩ := OwnM.shape o1
  have B1 := hid (hb.out.trans (b1.mono hb.out.size))
  have O1 := hid o1
  have mk := make_spans14 w1 m (by omega)
  rw [Hcl.out]
  have R0 : Hid (RowS (w1.alloc (.cells (prs (List.replicate m (0, 0))).toArray 29)) w1.heap.size (spre S 0)) := by
    have := heap_alloc_new w1 (.cells (prs (List.replicate m (0, 0))).toArray 29)
    unfold Hid RowS
    rw [spre_zero, Hm.out]
    exact this
  have BA := hid ((Below.refl w1.heap.size w1).alloc (Nat.le_refl _) (.cells (prs (List.replicate m (0, 0))).toArray 29))
  have z1 := B1.out.size
  clear i1 b1 o1 f1 hb
  go_wp2
  clear mk
  go_loopw [6, 7, 18] (fun _ _ i w' => ∃ j : Nat, j ≤ m ∧ i = .int .i64 (j : Int) ∧ Hid (RowS w' w1.heap.size (spre S j)) ∧ Hid (Below w1.heap.size w1 w')) (fun _ _ i _ => m - (intOf i).toNat)
  case atStart => exact ⟨0, by omega, rfl, R0, BA⟩
  case round =>
    clear R0 BA
    obtain ⟨j, hj, rfl, hR, hB⟩ := hrel
    by_cases hjm : j < m
    · have b0 : (j : Int) < (m : Int) := by omega
      have j0 : (0 : Int) ≤ (j : Int) := by omega
      have hjS : j < S.length := by rw [Hm.out]; exact hjm
      obtain ⟨lv, ix, P, g0, g1, g2, g3, g4⟩ := HC.out j hjS
      obtain ⟨g, rfl, hg, d0, d1⟩ := ownP_at (O1.out.below hB.out) g0
      have hset := hid (spre_set S hjS)
      have hlen := spre_len S (Nat.le_of_lt hjS)
      unfold Hid at hset
      rw [g1] at hset
      have hset := hid hset
      have n0 := NdI.new wr (lv : Int) (ix : Int)
      have bn := (Below.refl wr.heap.size wr).alloc (Nat.le_refl _) (.cells #[.int .i64 (lv : Int), .int .i64 (ix : Int)] 45)
      have e0 := n0.c0
      have e1 := n0.c1
      have R1 := hR.out.below bn hR.out.lt
      have B2 := hid (hB.out.trans (bn.mono hB.out.size))
      have hjl : j < (spre S j).length := by rw [hlen]; exact hjS
      have r0 := (R1.cell (List.getElem?_eq_getElem hjl)).1
      have r1 := (R1.cell (List.getElem?_eq_getElem hjl)).2
      have f0 := R1.free (j * 2)
      have f1 := R1.free (j * 2 + 1)
      have HR1 := hid R1
      have hgr := hR.out.lt
      obtain ⟨A, hA⟩ : ∃ A, ix * P = A := ⟨_, rfl⟩
      obtain ⟨B, hB'⟩ : ∃ B, (ix + 1) * P = B := ⟨_, rfl⟩
      obtain ⟨i1, hi1⟩ : ∃ i1, ix + 1 = i1 := ⟨_, rfl⟩
      have hP1 : 1 ≤ P := by rw [g2]; exact Nat.two_pow_pos lv
      have hAB : A ≤ B := by rw [← hA, ← hB']; exact Nat.mul_le_mul_right _ (by omega)
      have hiB : i1 ≤ B := by rw [← hB', hi1]; exact Nat.le_mul_of_pos_right _ hP1
      have hx0 : (ix : Int) * 2 ^ lv = (A : Int) := by
        have : ((ix * P : Nat) : Int) = (ix : Int) * 2 ^ lv := by rw [g2]; push_cast; rfl
        rw [← this, hA]
      have hx1 : IntKind.i64.wrap ((ix : Int) * 2 ^ lv) = (A : Int) := by rw [hx0, IntKind.wrap_i64]; omega
      have hx2 : IntKind.i64.wrap ((ix : Int) + 1) = (i1 : Int) := by rw [IntKind.wrap_i64]; omega
      have hx4 : (i1 : Int) * 2 ^ lv = (B : Int) := by
        have : ((i1 * P : Nat) : Int) = (i1 : Int) * 2 ^ lv := by rw [g2]; push_cast; rfl
        rw [← this, ← hB', hi1]
      have hx3 : IntKind.i64.wrap ((i1 : Int) * 2 ^ lv) = (B : Int) := by rw [hx4, IntKind.wrap_i64]; omega
      have hlv : (lv : Int) ≤ 64 := by omega
      rw [hA, hB'] at hset
      clear HC hR hB hA hB' hi1 hP1 hAB hiB g0 g1 g2 g3 g4 hx0 hx4
      go_upto_region 6 with fail
      clear d0 d1
      generalize wr.alloc (.cells #[.int .i64 (lv : Int), .int .i64 (ix : Int)] 45) = WA at *
      have y0 : WA.drew.cell? ⟨wr.heap.size, 0, none⟩ = some (.int .i64 (lv : Int)) := e0
      have y1 : WA.drew.cell? ⟨wr.heap.size, 1, none⟩ = some (.int .i64 (ix : Int)) := e1
      have y2 : WA.drew.cell? ⟨w1.heap.size, j * 2, none⟩ = _ := r0
      have y3 : WA.drew.cell? ⟨w1.heap.size, j * 2 + 1, none⟩ = _ := r1
      have y4 : WA.drew.frozen? ⟨w1.heap.size, j * 2, none⟩ = false := f0
      have y5 : WA.drew.frozen? ⟨w1.heap.size, j * 2 + 1, none⟩ = false := f1
      have R3 := hid (HR1.out.set hjl A B)
      unfold Hid at R3
      rw [hset.out] at R3
      have R3 := hid R3
      have hne : ¬ wr.heap.size = w1.heap.size := by have := B2.out.size; have := hgr; omega
      have n3 := NdI.keep n0 ((Keep.ofSet (S := fun k => k = w1.heap.size) WA w1.heap.size (j * 2) (.int .i64 (A : Int)) rfl).trans (Keep.ofSet (S := fun k => k = w1.heap.size) _ w1.heap.size (j * 2 + 1) (.int .i64 (B : Int)) rfl) (fun _ _ e => e)) hne
      have z0 := n3.c0
      have z1 := n3.c1
      clear HR1 hset n3
      go_region_held3 (fun w' => w'.cell? ⟨wr.heap.size, 0, none⟩ = some (.int .i64 (lv : Int)) ∧ w'.cell? ⟨wr.heap.size, 1, none⟩ = some (.int .i64 (ix : Int))) (first | exact ⟨z0, z1⟩ | exact ⟨e0, e1⟩ | exact ⟨y0, y1⟩) (fail)
      have B4 : Hid (Below w1.heap.size w1 (((WA.setCell ⟨w1.heap.size, j * 2, none⟩ (.int .i64 (A : Int))).setCell ⟨w1.heap.size, j * 2 + 1, none⟩ (.int .i64 (B : Int))).drew)) := (Below.setCell (p := ⟨w1.heap.size, j * 2 + 1, none⟩) (Below.setCell (p := ⟨w1.heap.size, j * 2, none⟩) B2.out (Nat.le_refl _) _) (Nat.le_refl _) _).drew
      go_wp2
      exact ⟨⟨j + 1, by omega, by go_num, R3, B4⟩, by simp [intOf]; omega⟩
    · obtain rfl : j = m := by omega
      have b0 : ¬ (j : Int) < (j : Int) := by omega
      have hRR := hR.out
      rw [← Hm.out, spre_all] at hRR
      have HRR := hid hRR
      have BW := hid (B1.out.trans (hB.out.mono z1))
      go_wp2
      go_ret
      have := HRR.out.own (by rw [Hm.out]; omega)
      rw [Hm.out] at this
      exact ⟨_, rfl, this, (fun k hk => by cases hk; exact z1), BW.out⟩
end Spn
end Go.Proofs.YthoakchdlidemaaDoor
