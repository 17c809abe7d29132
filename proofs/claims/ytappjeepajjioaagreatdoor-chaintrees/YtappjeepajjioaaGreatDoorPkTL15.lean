import Derived.Test.YtappjeepajjioaaGreatDoorPkTL7
import Derived.Test.YtappjeepajjioaaGreatDoorPkO8
import Derived.Test.YtappjeepajjioaaGreatDoorPkSP28
import Derived.Maps.RangeRun
import Derived.Maps.Range
import Derived.Deep.CutRange
namespace Go.Proofs.YtappjeepajjioaaGreatDoor
open Go.RowKit
theorem mod_up (n k : Nat) : n % 2 ^ (k + 1) = n % 2 ^ k + 2 ^ k * (n / 2 ^ k % 2) := Nat.mod_pow_succ
set_option maxRecDepth 100000 in
set_option maxHeartbeats 4000000 in
theorem tpart_any {w : World} {q h : Nat} {L : List (List UInt8)} {F : Nat → Prop} (t : TrL w q h L F) (b e : Nat) (hb : b < e) (he : e ≤ L.length) (Z : Tb w) :
    Calls Tryz.prog 52 #[.pointer (some ⟨q, 0, none⟩), .agg #[.int .i64 (b : Int), .int .i64 (e : Int)]] w fun r w' => r = .returned (sv (Tree.root (Til.sg L b e))) ∧ Below w.heap.size w w' := by
  obtain ⟨w1, hw1⟩ : ∃ w1, w.alloc (.cells #[Value.int .i64 (b : Int), .int .i64 (e : Int)] 54) = w1 := ⟨_, rfl⟩
  have b1 := (Below.refl w.heap.size w).alloc (Nat.le_refl _) (.cells #[Value.int .i64 (b : Int), .int .i64 (e : Int)] 54)
  have r1 := heap_alloc_new w (.cells #[Value.int .i64 (b : Int), .int .i64 (e : Int)] 54)
  rw [hw1] at b1 r1
  have S0 : w1.cell? ⟨w.heap.size, 0, none⟩ = some (.int .i64 (b : Int)) ∧ w1.cell? ⟨w.heap.size, 1, none⟩ = some (.int .i64 (e : Int)) := ⟨by rw [cell_of_row _ _ _ _ _ _ r1]; rfl, by rw [cell_of_row _ _ _ _ _ _ r1]; rfl⟩
  have C1 := hid S0.2
  have hlt : w.heap.size < w1.heap.size := lt_of_heap r1
  have T1 := hid (t.below b1)
  have Z1 := hid (Z.below b1 Z.lt)
  have B1 := hid b1
  have n20 := t.n20
  obtain ⟨n, hn⟩ : ∃ n : Nat, e - b = n := ⟨_, rfl⟩
  have e0 : IntKind.i64.wrap ((e : Int) - (b : Int)) = (n : Int) := by rw [wrap_small _ (by omega) (by omega)]; omega
  have e1 : IntKind.u64.wrap (n : Int) = (n : Int) := by rw [IntKind.wrap_u64]; omega
  obtain ⟨c, hc⟩ : ∃ c, n.log2 = c := ⟨_, rfl⟩
  have len := fun w' => lenU_nat n c (by omega) (by omega) hc w'
  have hcn : n < 2 ^ (c + 1) := by rw [← hc]; exact Nat.lt_log2_self
  have hc20 : c ≤ 20 := by
    have h2 : 2 ^ c ≤ n := by rw [← hc]; exact Nat.log2_self_le (by omega)
    have h3 : 2 ^ c < 2 ^ 21 := by omega
    have := (Nat.pow_lt_pow_iff_right (a := 2) (by omega)).1 h3
    omega
  obtain ⟨c1, hc1⟩ : ∃ c1 : Nat, c + 1 = c1 := ⟨_, rfl⟩
  have e2 : (c : Int) + 1 = (c1 : Int) := by omega
  have hc21 : c1 ≤ 21 := by omega
  rw [e2] at len
  have HCN : Hid (n % 2 ^ c1 = n) := by unfold Hid; rw [← hc1]; exact Nat.mod_eq_of_lt hcn
  have HN := hid hn
  clear t Z b1 r1 hc hcn e2
  go_enter Tryz.func52, Tryz.ntmps52
  go_wp2
  go_region_held3 (fun w' => w'.cell? ⟨w.heap.size, 0, none⟩ = some (.int .i64 (b : Int)) ∧ w'.cell? ⟨w.heap.size, 1, none⟩ = some (.int .i64 (e : Int))) (exact S0) (fail)
  clear S0
  go_wp2_with (go_at_call 98; refine (len _).mono ?_; rintro r w9 ⟨rfl, rfl⟩)
  obtain ⟨w2, hw2⟩ : ∃ w2, w1.drew = w2 := ⟨_, rfl⟩
  rw [hw2]
  have b2 := (Below.refl w1.heap.size w1).drew
  rw [hw2] at b2
  have T2 := hid (T1.out.below b2)
  have Z2 := hid (Z1.out.below b2 Z1.out.lt)
  have B2 := hid (B1.out.trans (b2.mono B1.out.size))
  have C2 := hid ((b2.cell (p := ⟨w.heap.size, 1, none⟩) hlt).trans C1.out)
  have hlt2 : w.heap.size < w2.heap.size := Nat.lt_of_lt_of_le hlt b2.size
  clear hw2 b2 T1 Z1 B1 C1 hlt len e0 e1 hc1
  go_loopw [21, 7, 6] (fun i hv ev w' => ∃ (k E : Nat) (x : List UInt8), i = .int .i64 (k : Int) ∧ k ≤ c1 ∧ hv = sv x ∧ ev = .int .i64 (E : Int) ∧ Hid (E + n % 2 ^ k = e) ∧ Hid (n % 2 ^ k ≠ 0 → Tree.root (Til.sg L E e) = x) ∧ Hid (Below w2.heap.size w2 w')) (fun i _ _ _ => c1 - (intOf i).toNat)
  case atStart => exact ⟨0, e, [], rfl, by omega, rfl, rfl, by unfold Hid; rw [Nat.pow_zero, Nat.mod_one]; rfl, fun h => absurd (by rw [Nat.pow_zero, Nat.mod_one]) h, hid (Below.refl _ _)⟩
  case round =>
    obtain ⟨k, E, x, rfl, hk, rfl, rfl, hE, hx, hB⟩ := hrel
    by_cases hkc : k < c1
    · have c0 : (k : Int) < (c1 : Int) := by omega
      have k0 : (0 : Int) ≤ (k : Int) := by omega
      have k1 : (k : Int) ≤ 64 := by omega
      have bt := bit_is (b := n) (k := k) (by have := HN.out; omega)
      have mu := mod_up n k
      have cE := (hB.out.cell (p := ⟨w.heap.size, 1, none⟩) hlt2).trans C2.out
      have hk1 : IntKind.i64.wrap ((k : Int) + 1) = ((k + 1 : Nat) : Int) := by rw [wrap_small _ (by omega) (by omega)]; omega
      by_cases hbit : n / 2 ^ k % 2 = 0
      · rw [hbit, show ((0 : Nat) : Int) = 0 from rfl] at bt
        rw [hbit, Nat.mul_zero, Nat.add_zero] at mu
        have hE' : Hid (E + n % 2 ^ (k + 1) = e) := by unfold Hid; rw [mu]; exact hE.out
        have hx' : Hid (n % 2 ^ (k + 1) ≠ 0 → Tree.root (Til.sg L E e) = x) := by unfold Hid; rw [mu]; exact hx.out
        clear mu hbit hE hx
        go_wp2
        exact ⟨⟨k + 1, E, x, by go_num, by omega, rfl, rfl, hE', hx', hB⟩, by simp [intOf]; omega⟩
      · have hb1 : n / 2 ^ k % 2 = 1 := by omega
        rw [hb1, show ((1 : Nat) : Int) = 1 from rfl] at bt
        rw [hb1, Nat.mul_one] at mu
        obtain ⟨P, hP⟩ : ∃ P, P = 2 ^ k := ⟨_, rfl⟩
        rw [← hP] at mu
        have hml : n % 2 ^ (k + 1) ≤ n := Nat.mod_le _ _
        have hp0 : 0 < P := by rw [hP]; exact Nat.two_pow_pos k
        have hmP : n % P < P := Nat.mod_lt _ hp0
        have hEo := hE.out
        rw [← hP] at hEo
        have hno := HN.out
        obtain ⟨G, hG⟩ : ∃ G : Nat, G + P = E := ⟨E - P, by omega⟩
        have s1 : (2 : Int) ^ k = (P : Int) := by rw [hP]; simp
        rw [s1] at bt
        have s2 : IntKind.i64.wrap (P : Int) = (P : Int) := wrap_small _ (by omega) (by omega)
        have s3 : IntKind.i64.wrap ((E : Int) - (P : Int)) = (G : Int) := by rw [wrap_small _ (by omega) (by omega)]; omega
        have PF := perfect_any k wr (T2.out.below hB.out) G (by omega) (by rw [← hP]; omega) (Z2.out.below hB.out Z2.out.lt)
        rw [← hP, hG] at PF
        have hE' : Hid (G + n % 2 ^ (k + 1) = e) := by unfold Hid; omega
        by_cases hm0 : n % P = 0
        · have q0 : ((E : Int) == (e : Int)) = true := by simp; omega
          have hEe : E = e := by omega
          rw [hEe] at PF
          obtain ⟨y, hy⟩ : ∃ y, Hid (Tree.root (Til.sg L G e) = y) := ⟨_, rfl⟩
          rw [hy.out] at PF
          have hx' : Hid (n % 2 ^ (k + 1) ≠ 0 → Tree.root (Til.sg L G e) = y) := fun _ => hy.out
          clear mu hP hml hp0 hmP hEo hno hG hbit hb1 hE hx hm0 hEe hy
          go_wp2_with (go_at_call 99; fail)
          refine PF.mono ?_
          rintro r w3 ⟨rfl, hw3⟩
          have cE3 := (hw3.cell (p := ⟨w.heap.size, 1, none⟩) (Nat.lt_of_lt_of_le hlt2 hB.out.size)).trans cE
          have B3 := hid (hB.out.trans (hw3.mono hB.out.size))
          clear PF hw3 cE
          go_wp2
          exact ⟨⟨k + 1, G, y, by go_num, by omega, rfl, rfl, hE', hx', B3⟩, by simp [intOf]; omega⟩
        · have q0 : ((E : Int) == (e : Int)) = false := by simp; omega
          have hxo := hx.out (by rw [← hP]; exact hm0)
          obtain ⟨y, hy⟩ : ∃ y, Hid (Tree.nd (Tree.root (Til.sg L G E)) x = y) := ⟨_, rfl⟩
          have rt := Til.root_two (L := L) (b := G) (e := e) (a := k) he (by rw [← hP]; omega) (by rw [← hP]; omega)
          rw [← hP, hG, hxo, hy.out] at rt
          have hx' : Hid (n % 2 ^ (k + 1) ≠ 0 → Tree.root (Til.sg L G e) = y) := fun _ => rt
          obtain ⟨z, hz⟩ : ∃ z, Tree.root (Til.sg L G E) = z := ⟨_, rfl⟩
          rw [hz] at PF hy
          clear mu hP hml hp0 hmP hEo hno hG hbit hb1 hE hx hm0 hxo rt hz
          go_wp2_with (go_at_call 99; fail)
          refine PF.mono ?_
          rintro r w3 ⟨rfl, hw3⟩
          have cE3 := (hw3.cell (p := ⟨w.heap.size, 1, none⟩) (Nat.lt_of_lt_of_le hlt2 hB.out.size)).trans cE
          have B3 := hid (hB.out.trans (hw3.mono hB.out.size))
          have N3 := tnode_any hy w3 (Z2.out.below B3.out Z2.out.lt).t
          clear PF hw3 cE
          go_wp2_with (go_at_call 93; fail)
          refine N3.mono ?_
          rintro r w4 ⟨rfl, hw4⟩
          have B4 := hid (B3.out.trans (hw4.mono B3.out.size))
          clear N3 hw4
          go_wp2
          exact ⟨⟨k + 1, G, y, by go_num, by omega, rfl, rfl, hE', hx', B4⟩, by simp [intOf]; omega⟩
    · obtain rfl : k = c1 := by omega
      have c0 : ¬ (k : Int) < (k : Int) := by omega
      have hEo := hE.out
      rw [HCN.out] at hEo
      have hno := HN.out
      obtain rfl : E = b := by omega
      have hxo := hx.out (by rw [HCN.out]; omega)
      subst hxo
      go_wp2
      go_ret
      exact ⟨rfl, B2.out.trans (hB.out.mono B2.out.size)⟩
end Go.Proofs.YtappjeepajjioaaGreatDoor

namespace Go.Proofs.YtappjeepajjioaaGreatDoor
open Go.RowKit
/-- may a span be? -/
def spB (n : Nat) (b e : Int) : Bool := decide (0 ≤ b ∧ b ≤ e ∧ e ≤ (n : Int))
set_option maxRecDepth 100000 in
set_option maxHeartbeats 2000000 in
theorem hasSpan_any {w : World} {q h : Nat} {L : List (List UInt8)} {F : Nat → Prop} (t : TrL w q h L F) (b e : Int) :
    Calls Tryz.prog 50 #[.pointer (some ⟨q, 0, none⟩), .agg #[.int .i64 b, .int .i64 e]] w fun r w' => r = .returned (.bool (spB L.length b e)) ∧ Below w.heap.size w w' := by
  obtain ⟨w1, hw1⟩ : ∃ w1, w.alloc (.cells #[Value.int .i64 b, .int .i64 e] 54) = w1 := ⟨_, rfl⟩
  have b1 := (Below.refl w.heap.size w).alloc (Nat.le_refl _) (.cells #[Value.int .i64 b, .int .i64 e] 54)
  have r1 := heap_alloc_new w (.cells #[Value.int .i64 b, .int .i64 e] 54)
  rw [hw1] at b1 r1
  have S0 : w1.cell? ⟨w.heap.size, 0, none⟩ = some (.int .i64 b) ∧ w1.cell? ⟨w.heap.size, 1, none⟩ = some (.int .i64 e) := ⟨by rw [cell_of_row _ _ _ _ _ _ r1]; rfl, by rw [cell_of_row _ _ _ _ _ _ r1]; rfl⟩
  have i1 := tSizeL ((t.below b1).below (Below.refl w1.heap.size w1).drew)
  have B1 := hid b1
  obtain ⟨n, hn⟩ : ∃ n, L.length = n := ⟨_, rfl⟩
  rw [hn] at i1 ⊢
  obtain ⟨c, hc⟩ : ∃ c, spB n b e = c := ⟨_, rfl⟩
  rw [hc]
  unfold spB at hc
  have HC := hid hc
  clear t b1 r1 hc
  by_cases h0 : 0 ≤ b
  · by_cases h1 : b ≤ e
    · have c3 : decide (e ≤ (n : Int)) = c := by rw [← HC.out]; exact decide_eq_decide.2 ⟨fun x => ⟨h0, h1, x⟩, fun x => x.2.2⟩
      go_enter Tryz.func50, Tryz.ntmps50
      go_wp2
      go_region_held3 (fun w' => w'.cell? ⟨w.heap.size, 0, none⟩ = some (.int .i64 b) ∧ w'.cell? ⟨w.heap.size, 1, none⟩ = some (.int .i64 e)) (exact S0) ((go_at_call 36; refine i1.mono ?_; rintro r w9 ⟨rfl, rfl⟩))
      go_wp2
      go_ret
      exact ⟨rfl, B1.out.drew⟩
    · have c3 : c = false := by rw [← HC.out]; exact decide_eq_false fun x => h1 x.2.1
      subst c3
      have y0 : decide (0 ≤ b) = true := decide_eq_true h0
      have y1 : decide (b ≤ e) = false := decide_eq_false h1
      clear h0 h1
      clear HC i1
      go_enter Tryz.func50, Tryz.ntmps50
      obtain ⟨s0, s1⟩ := S0
      go_wp2
      go_quiet (fail)
      go_wp2
      go_ret
      exact ⟨rfl, ⟨B1.out.os, B1.out.tape, B1.out.output, B1.out.size, B1.out.block⟩⟩
  · have c3 : c = false := by rw [← HC.out]; exact decide_eq_false fun x => h0 x.1
    subst c3
    have y0 : decide (0 ≤ b) = false := decide_eq_false h0
    clear h0
    clear HC i1
    go_enter Tryz.func50, Tryz.ntmps50
    obtain ⟨s0, s1⟩ := S0
    go_wp2
    go_quiet (fail)
    go_wp2
    go_ret
    exact ⟨rfl, ⟨B1.out.os, B1.out.tape, B1.out.output, B1.out.size, B1.out.block⟩⟩
/-- T4 -/
def tPartO (L : List (List UInt8)) (b e : Int) : List UInt8 × Int := if spB L.length b e = true then (Tree.root (Til.sg L b.toNat e.toNat), 0) else ([], 73)
set_option maxRecDepth 100000 in
set_option maxHeartbeats 2000000 in
theorem tPart_any {w : World} {q h : Nat} {L : List (List UInt8)} {F : Nat → Prop} (t : TrL w q h L F) (b e : Int) (Z : Tb w) {x : List UInt8} {z : Int} (hx : Hid (tPartO L b e = (x, z))) :
    Calls Tryz.prog 21 #[.pointer (some ⟨q, 0, none⟩), .agg #[.int .i64 b, .int .i64 e]] w fun r w' => r = .returned (.tuple #[sv x, .int .i64 z]) ∧ Below w.heap.size w w' := by
  obtain ⟨w1, hw1⟩ : ∃ w1, w.alloc (.cells #[Value.int .i64 b, .int .i64 e] 54) = w1 := ⟨_, rfl⟩
  have b1 := (Below.refl w.heap.size w).alloc (Nat.le_refl _) (.cells #[Value.int .i64 b, .int .i64 e] 54)
  have r1 := heap_alloc_new w (.cells #[Value.int .i64 b, .int .i64 e] 54)
  rw [hw1] at b1 r1
  have c0 : w1.cell? ⟨w.heap.size, 0, none⟩ = some (.int .i64 b) := by rw [cell_of_row _ _ _ _ _ _ r1]; rfl
  have c1 : w1.cell? ⟨w.heap.size, 1, none⟩ = some (.int .i64 e) := by rw [cell_of_row _ _ _ _ _ _ r1]; rfl
  have T1 := hid (t.below b1)
  have Z1 := hid (Z.below b1 Z.lt)
  have i1 := hasSpan_any T1.out b e
  have B1 := hid b1
  have hlt : w.heap.size < w1.heap.size := lt_of_heap r1
  have hxo := hx.out
  unfold tPartO at hxo
  obtain ⟨c, hc⟩ : ∃ c, spB L.length b e = c := ⟨_, rfl⟩
  rw [hc] at i1 hxo
  clear t Z b1 r1
  cases c
  · rw [if_neg (by simp)] at hxo
    injection hxo with h1 h2
    subst h1 h2
    go_enter Tryz.func21, Tryz.ntmps21
    go_wp2_with (go_at_call 50; refine i1.mono ?_; rintro r w2 ⟨rfl, hw2⟩)
    go_ret2
    exact ⟨rfl, B1.out.trans (hw2.mono B1.out.size)⟩
  · rw [if_pos rfl] at hxo
    injection hxo with h1 h2
    subst h2
    unfold spB at hc
    have hc := of_decide_eq_true hc
    obtain ⟨b', rfl⟩ : ∃ b' : Nat, b = (b' : Int) := ⟨b.toNat, by omega⟩
    obtain ⟨e', rfl⟩ : ∃ e' : Nat, e = (e' : Int) := ⟨e.toNat, by omega⟩
    rw [Int.toNat_natCast, Int.toNat_natCast] at h1
    by_cases hbe : b' = e'
    · subst hbe
      rw [Til.sg_nil, Tree.root_nil] at h1
      have k0 : ((b' : Int) == (b' : Int)) = true := by simp
      have i2 := fun w' (bb : Below w1.heap.size w1 w') => empty_any w' (Z1.out.below bb Z1.out.lt).t
      rw [h1] at i2
      clear hc h1 hx
      go_enter Tryz.func21, Tryz.ntmps21
      go_wp2_with (go_at_call 50; fail)
      refine i1.mono ?_
      rintro r w2 ⟨rfl, hw2⟩
      have d0 := (hw2.cell (p := ⟨w.heap.size, 0, none⟩) hlt).trans c0
      have d1 := (hw2.cell (p := ⟨w.heap.size, 1, none⟩) hlt).trans c1
      clear c0 c1
      go_wp2_with (go_at_call 51; refine (i2 _ hw2).mono ?_; rintro r w3 ⟨rfl, hw3⟩)
      go_ret2
      exact ⟨rfl, B1.out.trans ((hw2.trans (hw3.mono hw2.size)).mono B1.out.size)⟩
    · have k0 : ((b' : Int) == (e' : Int)) = false := by simp; omega
      have i2 := fun w' (bb : Below w1.heap.size w1 w') => tpart_any (T1.out.below bb) b' e' (by omega) (by omega) (Z1.out.below bb Z1.out.lt)
      rw [h1] at i2
      clear hc h1 hx hbe
      go_enter Tryz.func21, Tryz.ntmps21
      go_wp2_with (go_at_call 50; fail)
      refine i1.mono ?_
      rintro r w2 ⟨rfl, hw2⟩
      have d0 := (hw2.cell (p := ⟨w.heap.size, 0, none⟩) hlt).trans c0
      have d1 := (hw2.cell (p := ⟨w.heap.size, 1, none⟩) hlt).trans c1
      clear c0 c1
      go_wp2_with (go_at_call 52; refine (i2 _ hw2).mono ?_; rintro r w3 ⟨rfl, hw3⟩)
      go_ret2
      exact ⟨rfl, B1.out.trans ((hw2.trans (hw3.mono hw2.size)).mono B1.out.size)⟩
set_option maxRecDepth 100000 in
theorem tRoot_any {w : World} {q h : Nat} {L : List (List UInt8)} {F : Nat → Prop} (t : TrL w q h L F) (n : Int) (Z : Tb w) {x : List UInt8} {z : Int} (hx : Hid (tPartO L 0 n = (x, z))) :
    Calls Tryz.prog 12 #[.pointer (some ⟨q, 0, none⟩), .int .i64 n] w fun r w' => r = .returned (.tuple #[sv x, .int .i64 z]) ∧ Below w.heap.size w w' := by
  have i1 := tPart_any t 0 n Z hx
  go_enter Tryz.func12, Tryz.ntmps12
  go_wp2_with (go_at_call 21; refine i1.mono ?_; rintro r w2 ⟨rfl, hw2⟩)
  go_ret2
  exact ⟨rfl, hw2⟩
theorem tPartO_nat {L : List (List UInt8)} {b e : Nat} (hb : b ≤ e) (he : e ≤ L.length) : tPartO L (b : Int) (e : Int) = (Tree.root (Til.sg L b e), 0) := by
  unfold tPartO spB
  rw [if_pos (decide_eq_true ⟨by omega, by omega, by omega⟩), Int.toNat_natCast, Int.toNat_natCast]
theorem tPartO_all {L : List (List UInt8)} : tPartO L 0 (L.length : Int) = (Tree.root L, 0) := by
  have := tPartO_nat (L := L) (b := 0) (e := L.length) (by omega) (Nat.le_refl _)
  rwa [Til.sg_all] at this
end Go.Proofs.YtappjeepajjioaaGreatDoor

namespace Go.Proofs.YtappjeepajjioaaGreatDoor
open Go.RowKit
theorem Tb.mov {w w' : World} {F F' : Nat → Prop} (Z : Tb w) (hm : Mov F w w' F') (hF : ∀ k, F k → 4 ≤ k) : Tb w' := Z.below (hm.below Z.lt hF).1 (Nat.le_refl _)
end Go.Proofs.YtappjeepajjioaaGreatDoor

namespace Go.Proofs.YtappjeepajjioaaGreatDoor
open Go.RowKit
end Go.Proofs.YtappjeepajjioaaGreatDoor

namespace Go.Proofs.YtappjeepajjioaaGreatDoor
open Go.RowKit
/-- T3: the hashes that a tile has so far -/
def tileO (L : List (List UInt8)) (h : Nat) (l i : Int) : List (List UInt8) := if 0 ≤ l ∧ 2 ^ l.toNat ≤ L.length then Til.rf L h (Til.cn L.length) (l * (h : Int), i) else []
theorem blen (n : Nat) (hn : n < 18446744073709551616) (w : World) : ∃ c : Nat, c ≤ 64 ∧ (∀ l : Nat, 2 ^ l ≤ n ↔ l < c) ∧ Calls Tryz.prog 98 #[.int .u64 (n : Int)] w fun e w' => e = .returned (.int .i64 (c : Int)) ∧ w' = w := by
  by_cases h0 : n = 0
  · subst h0
    refine ⟨0, by omega, fun l => ⟨fun h => absurd (Nat.two_pow_pos l) (by omega), fun h => absurd h (by omega)⟩, ?_⟩
    have := lenU_any (0 : Nat) (by omega) (by omega) w
    exact this
  · have h1 : n.log2 < 64 := (Nat.log2_lt h0).2 hn
    refine ⟨n.log2 + 1, by omega, fun l => ?_, ?_⟩
    · rw [Nat.lt_succ_iff, ← Nat.le_log2 h0]
    · have := lenU_nat n n.log2 (by omega) hn rfl w
      exact this
end Go.Proofs.YtappjeepajjioaaGreatDoor

namespace Go.Proofs.YtappjeepajjioaaGreatDoor
open Go.RowKit
/-- what Tile answers: none, or a list of its own -/
def TileP (w : World) (l : List (List UInt8)) (r : Ending) (w' : World) : Prop :=
  Below w.heap.size w w' ∧ if l = [] then r = .returned (.tuple #[.slice none 0 0, .int .i64 72]) else ∃ g, w.heap.size ≤ g ∧ r = .returned (.tuple #[.slice (some ⟨g, 0, none⟩) l.length l.length, .int .i64 0]) ∧ Row w' g l
theorem tileO_len {w : World} {q h : Nat} {L : List (List UInt8)} {F : Nat → Prop} (t : TrL w q h L F) (l i : Int) : (tileO L h l i).length ≤ 2000000 := by
  unfold tileO
  split
  · exact Til.rf_len L h t.h8 _ _
  · simp
end Go.Proofs.YtappjeepajjioaaGreatDoor

namespace Go.Proofs.YtappjeepajjioaaGreatDoor
open Go.RowKit
open Go.ChangeMaps (setBlock)
theorem nodup_inj {α β : Type} {f : α → β} : ∀ {l : List α}, (l.map f).Nodup → ∀ {x y : α}, x ∈ l → y ∈ l → f x = f y → x = y
  | [], _, _, _, hx, _, _ => by cases hx
  | a :: l, h, x, y, hx, hy, e => by
    rw [List.map_cons, List.nodup_cons] at h
    rcases List.mem_cons.1 hx with ex | mx
    · rcases List.mem_cons.1 hy with ey | my
      · rw [ex, ey]
      · exact absurd (List.mem_map.2 ⟨y, my, by rw [← e, ex]⟩) h.1
    · rcases List.mem_cons.1 hy with ey | my
      · exact absurd (List.mem_map.2 ⟨x, mx, by rw [e, ey]⟩) h.1
      · exact nodup_inj h.2 mx my e
/-- m[p] = v, of a place that it has not -/
theorem Mp.store {w : World} {b : Nat} {es : List ((Int × Int) × Value)} (h : Mp w b es) {p : Int × Int} (hp : InR p) (hno : ¬ has es p) (val : Value) :
    ∃ w', (Instr.mapUpdate 89 (.map (some b)) (.agg #[.int .i64 p.1, .int .i64 p.2]) val).run Tryz.prog w = .ok () w' ∧ Mp w' b (es ++ [(p, val)]) ∧ But b w w' ∧ w'.heap.size = w.heap.size := by
  obtain ⟨arr, clock, hb, h1, h2, h3, h4, h5⟩ := h
  obtain ⟨l, hl⟩ := keyPl hp
  rcases lawPl.find w hl arr.toList (Mp.keysOk h3 h5) with ⟨f1, f2⟩ | ⟨j, e0, f1, f2, f3⟩
  · refine ⟨setBlock w b (.map (arr.push ⟨kv p, val, clock⟩) (clock + 1)), ?_, ⟨_, _, setBlock_at hb, ?_, ?_, ?_, ?_, ?_⟩, (But.refl b w).setBlock _, by simp [setBlock]⟩
    · have := lawPl.check w false hl
      unfold kv at this f1
      simp [Instr.mapUpdate, run_underlying undMp, MapKept.run_getObj_map hb, this, f1, MapKept.run_setObj_map _ hb, setBlock, kv]
    · intro x hx
      rw [Array.toList_push, List.mem_append, List.mem_singleton] at hx
      rcases hx with hx | rfl
      · have := h1 x hx; omega
      · simp
    · simp only [Array.toList_push, List.map_append, List.map_cons, List.map_nil]
      refine List.nodup_append.2 ⟨h2, by simp, fun a ha c hc e1 => ?_⟩
      simp only [List.mem_singleton] at hc
      obtain ⟨x, hx, rfl⟩ := List.mem_map.1 ha
      have := h1 x hx
      omega
    · simp only [Array.toList_push, List.map_append, List.map_cons, List.map_nil, h3]
    · have := put_keys (p := p) (v := val) h4
      rwa [put_new hno] at this
    · intro x hx
      rcases List.mem_append.1 hx with hx | hx
      · exact h5 x hx
      · rw [List.mem_singleton.1 hx]; exact hp
  · exact absurd ⟨_, Mp.memE h3 (List.mem_of_getElem? f2) f3⟩ hno
theorem Mp.len {w : World} {b : Nat} {es : List ((Int × Int) × Value)} (h : Mp w b es) (ty : TypeId) : ∃ n : Nat, (Builtin.len_ #[89] ty #[.map (some b)]).run Tryz.prog w = .ok (.int .i64 (n : Int)) w := by
  obtain ⟨arr, clock, hb, _⟩ := h
  exact ⟨arr.size, by simp [Builtin.len_, run_underlying undMp, MapKept.run_getObj_map hb, goInt, Result.andThen]⟩
theorem make_map (w : World) (n : Nat) : (Instr.makeMap 89 (some (.int .i64 (n : Int)))).run Tryz.prog w = .ok (.map (some w.heap.size)) (w.alloc (.map #[] 0)) := by
  simp [Instr.makeMap, run_underlying undMp, asInt, asIntOf, Result.andThen]
/-- a map that is ranged over: the places that came out -/
def Itr (w : World) (b r : Nat) (es : List ((Int × Int) × Value)) (sk : List (Int × Int)) : Prop :=
  ∃ arr clock since seen c0, w.heap[b]? = some (.map arr clock) ∧ ((∀ x ∈ arr.toList, x.born < clock) ∧ (arr.toList.map (·.born)).Nodup ∧ arr.toList.map (fun e => (e.key, e.val)) = es.map (fun x => (kv x.1, x.2)) ∧ es.Pairwise (fun x y => x.1 ≠ y.1) ∧ ∀ x ∈ es, InR x.1) ∧
    w.heap[r]? = some (.mapIter (some b) since seen c0) ∧ (∀ x ∈ arr.toList, x.born < since) ∧ since ≤ c0 ∧ since ≤ clock ∧ ∀ e ∈ arr.toList, ∀ p, e.key = kv p → (seen.contains e.born = true ↔ p ∈ sk)
theorem Itr.heap {w w' : World} {b r : Nat} {es : List ((Int × Int) × Value)} {sk : List (Int × Int)} (h : Itr w b r es sk) (h1 : w'.heap[b]? = w.heap[b]?) (h2 : w'.heap[r]? = w.heap[r]?) : Itr w' b r es sk ∧ w'.rangeLeft b r = w.rangeLeft b r := by
  obtain ⟨arr, clock, since, seen, c0, g1, g2, g3, g4⟩ := h
  exact ⟨⟨arr, clock, since, seen, c0, h1.trans g1, g2, h2.trans g3, g4⟩, by unfold World.rangeLeft; rw [h1, h2]⟩
theorem Itr.lt {w : World} {b r : Nat} {es : List ((Int × Int) × Value)} {sk : List (Int × Int)} (h : Itr w b r es sk) : b < w.heap.size ∧ r < w.heap.size ∧ r ≠ b := by
  obtain ⟨arr, clock, since, seen, c0, g1, g2, g3, g4⟩ := h
  refine ⟨(Array.getElem?_eq_some_iff.1 g1).1, (Array.getElem?_eq_some_iff.1 g3).1, fun e => ?_⟩
  rw [e, g1] at g3
  cases g3
theorem Itr.start {w : World} {b : Nat} {es : List ((Int × Int) × Value)} (h : Mp w b es) : ∃ w', (Instr.range 89 (.map (some b))).run Tryz.prog w = .ok (.pointer (some ⟨w.heap.size, 0, none⟩)) w' ∧ Itr w' b w.heap.size es [] ∧ Below w.heap.size w w' ∧ w'.heap.size = w.heap.size + 1 := by
  have hlt := h.lt
  obtain ⟨arr, clock, hb, h1, h2, h3, h4, h5⟩ := h
  have ba := (Below.refl w.heap.size w).alloc (Nat.le_refl _) (.mapIter (some b) clock #[] clock)
  exact ⟨_, run_range_map w _ _ _ b arr clock undMp hb, ⟨arr, clock, clock, #[], clock, (ba.block b hlt).trans hb, ⟨h1, h2, h3, h4, h5⟩, heap_alloc_new w _, h1, Nat.le_refl _, Nat.le_refl _, fun e he p hp => by simp⟩, ba, size_alloc w _⟩
theorem Itr.next {w : World} {b r : Nat} {es : List ((Int × Int) × Value)} {sk : List (Int × Int)} (h : Itr w b r es sk) (ty : TypeId) :
    ((∀ x ∈ es, x.1 ∈ sk) ∧ (Instr.next (.pointer (some ⟨r, 0, none⟩)) false ty).run Tryz.prog w = .ok (.tuple #[.bool false]) w) ∨
    ∃ p v w', (p, v) ∈ es ∧ p ∉ sk ∧ InR p ∧ (Instr.next (.pointer (some ⟨r, 0, none⟩)) false ty).run Tryz.prog w = .ok (.tuple #[.bool true, .agg #[.int .i64 p.1, .int .i64 p.2], v]) w' ∧ But r w w' ∧ w'.heap.size = w.heap.size ∧ Itr w' b r es (sk ++ [p]) ∧ w'.rangeLeft b r < w.rangeLeft b r ∧
      (Instr.entry (.pointer (some ⟨r, 0, none⟩))).run Tryz.prog w' = .ok (.tuple #[.agg #[.int .i64 p.1, .int .i64 p.2], v]) w' := by
  obtain ⟨hbl, hrl, hrb⟩ := h.lt
  obtain ⟨arr, clock, since, seen, c0, hb, ⟨h1, h2, h3, h4, h5⟩, hr, hold, hsc, hsk, hdone⟩ := h
  rcases run_next_at (P := Tryz.prog) w ty r b since c0 seen arr clock hr hb hold hsc with ⟨h0, hrun⟩ | ⟨e, he, w1, hal, hrun⟩
  · refine .inl ⟨fun x hx => ?_, hrun⟩
    have hm : (kv x.1, x.2) ∈ arr.toList.map (fun e => (e.key, e.val)) := by rw [h3]; exact List.mem_map.2 ⟨x, hx, rfl⟩
    obtain ⟨e, he, hee⟩ := List.mem_map.1 hm
    exact (hdone e he x.1 (congrArg Prod.fst hee)).1 (all_seen arr seen h0 e he)
  · obtain ⟨hem, hes⟩ := mem_left he
    have hm : (e.key, e.val) ∈ es.map (fun x => (kv x.1, x.2)) := by rw [← h3]; exact List.mem_map.2 ⟨e, hem, rfl⟩
    obtain ⟨x, hx, hxe⟩ := List.mem_map.1 hm
    have hk : e.key = kv x.1 := (congrArg Prod.fst hxe).symm
    have hv : e.val = x.2 := (congrArg Prod.snd hxe).symm
    have hr1 : w1.heap[r]? = some (.mapIter (some b) since seen c0) := by rcases hal with rfl | rfl <;> exact hr
    have hb1 : w1.heap[b]? = some (.map arr clock) := by rcases hal with rfl | rfl <;> exact hb
    have bt : But r w1 (setBlock w1 r (.mapIter (some b) since (seen.push e.born) clock)) := (But.refl r w1).setBlock _
    have bt' : But r w (setBlock w1 r (.mapIter (some b) since (seen.push e.born) clock)) := by
      rcases hal with rfl | rfl
      · exact bt
      · exact (But.refl r w).drew.trans bt
    have hr2 := setBlock_at (o' := .mapIter (some b) since (seen.push e.born) clock) hr1
    have hb2 := (bt'.block b hbl (Ne.symm hrb)).trans hb
    have hent := run_entry_at (P := Tryz.prog) _ r b since seen arr clock e hr2 hb2 hem h2
    rw [hk, hv] at hrun hent
    refine .inr ⟨x.1, x.2, _, hx, fun hin => ?_, h5 x hx, hrun, bt', ?_, ⟨arr, clock, since, seen.push e.born, clock, hb2, ⟨h1, h2, h3, h4, h5⟩, hr2, hold, hsk, hsk, fun e' he' p hp => ?_⟩, ?_, hent⟩
    · rw [(hdone e hem x.1 hk).2 hin] at hes
      cases hes
    · rcases hal with rfl | rfl <;> simp [setBlock]
    · rw [contains_push, Bool.or_eq_true, List.mem_append, List.mem_singleton, hdone e' he' p hp]
      constructor
      · rintro (h | h)
        · exact .inl h
        · have hbe : e'.born = e.born := eq_of_beq h
          have : e' = e := nodup_inj h2 he' hem hbe
          rw [this, hk] at hp
          exact .inr (kv_inj hp).symm
      · rintro (h | h)
        · exact .inl h
        · right
          subst h
          have hm1 : e'.key = e.key := hp.trans hk.symm
          have : e' = e := by
            have hn : (arr.toList.map (·.key)).Nodup := by
              have e1 : arr.toList.map (·.key) = es.map (fun x => kv x.1) := by
                have := congrArg (List.map Prod.fst) h3
                rw [List.map_map, List.map_map] at this
                exact this
              rw [e1]
              exact List.pairwise_map.2 (h4.imp fun {a b} hab e => hab (kv_inj e))
            exact nodup_inj hn he' hem hm1
          rw [this]; simp
    · have l1 : w.rangeLeft b r = (leftOf arr seen).size := by unfold World.rangeLeft; rw [hb, hr]
      have l2 : (setBlock w1 r (.mapIter (some b) since (seen.push e.born) clock)).rangeLeft b r = (leftOf arr (seen.push e.born)).size := by unfold World.rangeLeft; rw [hb2, hr2]
      rw [l1, l2]
      exact left_shrinks arr seen e he
end Go.Proofs.YtappjeepajjioaaGreatDoor

namespace Go.Proofs.YtappjeepajjioaaGreatDoor
open Go.RowKit
theorem own_g {g n c k : Nat} (h : (Value.slice (some ⟨g, 0, none⟩) n c).ownBlock = some k) : g = k := by cases h; rfl
/-- a tree that is cloned: the places sk are done -/
structure Cl (w0 w : World) (q b h s : Nat) (es : List ((Int × Int) × Value)) (R : Int × Int → List (List UInt8)) (B r q2 b2 : Nat) (es2 : List ((Int × Int) × Value)) (sk : List (Int × Int)) : Prop where
  src : Tr w q b h s es R
  it : Itr w b r es sk
  row : w.heap[q2]? = some (.cells #[.int .i64 (h : Int), .int .i64 (s : Int), .map (some b2)] 91 (0, 0))
  mp : Mp w b2 es2
  ks : ∀ p, has es2 p ↔ p ∈ sk
  el : ∀ p v, (p, v) ∈ es2 → Own w B v (svs (R p)) ∧ ∀ k, v.ownBlock = some k → k ≠ q2 ∧ k ≠ b2 ∧ k ≠ r
  apart : ∀ p v p' v' k, (p, v) ∈ es2 → (p', v') ∈ es2 → p ≠ p' → v.ownBlock = some k → v'.ownBlock ≠ some k
  ne : q2 ≠ b2 ∧ r ≠ q2 ∧ r ≠ b2
  lo : B ≤ q2 ∧ B ≤ b2 ∧ B ≤ r
  bB : ∀ k, Fb q b es k → k < B
  bel : Below B w0 w
  szB : B ≤ w.heap.size
theorem Cl.step {w0 w w1 w3 w4 : World} {q b h s : Nat} {es : List ((Int × Int) × Value)} {R : Int × Int → List (List UInt8)} {B r q2 b2 g : Nat} {es2 : List ((Int × Int) × Value)} {sk : List (Int × Int)} (C : Cl w0 w q b h s es R B r q2 b2 es2 sk) {p : Int × Int} (hp : p ∉ sk)
    (bt : But r w w1) (sz1 : w1.heap.size = w.heap.size) (it1 : Itr w1 b r es (sk ++ [p])) (b3 : Below w1.heap.size w1 w3) (hR : Row w3 g (R p)) (hg : w1.heap.size ≤ g) (hlen : (R p).length ≤ 2000000)
    (mp4 : Mp w4 b2 (es2 ++ [(p, .slice (some ⟨g, 0, none⟩) (R p).length (R p).length)])) (bt4 : But b2 w3 w4) (sz4 : w4.heap.size = w3.heap.size) :
    Cl w0 w4 q b h s es R B r q2 b2 (es2 ++ [(p, .slice (some ⟨g, 0, none⟩) (R p).length (R p).length)]) (sk ++ [p]) ∧ w4.rangeLeft b r = w1.rangeLeft b r := by
  obtain ⟨n1, n2, n3⟩ := C.ne
  obtain ⟨l1, l2, l3⟩ := C.lo
  have hs3 := b3.size
  have hq2 : q2 < w.heap.size := lt_of_heap C.row
  have hb2 := C.mp.lt
  obtain ⟨hbl, hrl, hrb⟩ := C.it.lt
  have hgl := hR.lt
  have blk : ∀ k, k < w.heap.size → k ≠ r → k ≠ b2 → w4.heap[k]? = w.heap[k]? := fun k hk h1 h2 =>
    (bt4.block k (by omega) h2).trans ((b3.block k (by omega)).trans (bt.block k hk h1))
  have hbF : b < B := C.bB b (.inr (.inl rfl))
  have hbb : w4.heap[b]? = w1.heap[b]? := (bt4.block b (by omega) (by omega)).trans (b3.block b (by omega))
  have hrr : w4.heap[r]? = w1.heap[r]? := (bt4.block r (by omega) n3).trans (b3.block r (by omega))
  obtain ⟨it4, rl⟩ := it1.heap hbb hrr
  have hnew : Own w4 B (.slice (some ⟨g, 0, none⟩) (R p).length (R p).length) (svs (R p)) := by
    have o := (hR.own (by omega)).from (B := B) (fun k hk => by have := own_g hk; have := C.szB; omega)
    exact o.but bt4 (fun e => by have := own_g e; omega)
  refine ⟨⟨?_, it4, (blk q2 hq2 (Ne.symm n2) n1).trans C.row, mp4, fun p' => ?_, ?_, ?_, C.ne, C.lo, C.bB, ?_, by have := C.szB; omega⟩, rl⟩
  · refine C.src.keep (S := fun k => B ≤ k) ⟨?_, ?_, ?_, ?_, fun k hk hS => blk k hk (by omega) (by omega)⟩ (fun k hk e => by have := C.bB k hk; omega)
    · exact bt4.os.trans (b3.os.trans bt.os)
    · exact bt4.tape.trans (b3.tape.trans bt.tape)
    · exact bt4.output.trans (b3.output.trans bt.output)
    · omega
  · rw [List.mem_append, List.mem_singleton, ← C.ks p']
    constructor
    · rintro ⟨v, hv⟩
      rcases List.mem_append.1 hv with hv | hv
      · exact .inl ⟨v, hv⟩
      · rw [List.mem_singleton] at hv; exact .inr (congrArg Prod.fst hv)
    · rintro (⟨v, hv⟩ | rfl)
      · exact ⟨v, List.mem_append.2 (.inl hv)⟩
      · exact ⟨_, List.mem_append.2 (.inr (List.mem_singleton.2 rfl))⟩
  · intro p' v hv
    rcases List.mem_append.1 hv with hv | hv
    · obtain ⟨e1, e2⟩ := C.el p' v hv
      exact ⟨e1.kept (by omega) fun k hk => blk k (e1.ltS k hk) (e2 k hk).2.2 (e2 k hk).2.1, e2⟩
    · rw [List.mem_singleton] at hv
      obtain ⟨rfl, rfl⟩ := Prod.mk.injEq .. ▸ hv
      exact ⟨hnew, fun k hk => by have := own_g hk; omega⟩
  · have other : ∀ p' v k, (p', v) ∈ es2 → v.ownBlock = some k → g ≠ k := fun p' v k hv hk => by
      have := (C.el p' v hv).1.ltS k hk
      omega
    intro p1 v1 p2 v2 k h1 h2 hne hk
    rcases List.mem_append.1 h1 with m1 | m1
    · rcases List.mem_append.1 h2 with m2 | m2
      · exact C.apart p1 v1 p2 v2 k m1 m2 hne hk
      · rw [List.mem_singleton] at m2
        have e2 := congrArg Prod.snd m2
        simp only at e2
        rw [e2]
        exact fun e => other p1 v1 k m1 hk (own_g e)
    · rw [List.mem_singleton] at m1
      have e1 := congrArg Prod.snd m1
      simp only at e1
      rw [e1] at hk
      have hk := own_g hk
      rcases List.mem_append.1 h2 with m2 | m2
      · exact fun e => other p2 v2 k m2 e hk
      · rw [List.mem_singleton] at m2
        exact absurd ((congrArg Prod.fst m1).trans (congrArg Prod.fst m2).symm) hne
  · refine C.bel.trans ⟨bt4.os.trans (b3.os.trans bt.os), bt4.tape.trans (b3.tape.trans bt.tape), bt4.output.trans (b3.output.trans bt.output), by omega, fun k hk => ?_⟩
    have := C.szB
    exact blk k (by omega) (by omega) (by omega)
/-- all are done -/
theorem Cl.done {w0 w : World} {q b h s : Nat} {es : List ((Int × Int) × Value)} {R : Int × Int → List (List UInt8)} {B r q2 b2 : Nat} {es2 : List ((Int × Int) × Value)} {sk : List (Int × Int)} (C : Cl w0 w q b h s es R B r q2 b2 es2 sk) (hall : ∀ x ∈ es, x.1 ∈ sk) :
    Tr w q2 b2 h s es2 R ∧ ∀ k, Fb q2 b2 es2 k → B ≤ k := by
  refine ⟨⟨C.row, C.mp, C.ne.1, fun p v hv => ⟨(C.el p v hv).1.mono (Nat.zero_le _), fun k hk => ⟨((C.el p v hv).2 k hk).1, ((C.el p v hv).2 k hk).2.1⟩⟩, fun p hp => ?_, C.apart⟩, fun k hk => ?_⟩
  · exact C.src.no p fun ⟨v, hv⟩ => hp ((C.ks p).2 (hall _ hv))
  · rcases hk with rfl | rfl | ⟨p, v, hv, hk⟩
    · exact C.lo.1
    · exact C.lo.2.1
    · exact (C.el p v hv).1.ge k hk
end Go.Proofs.YtappjeepajjioaaGreatDoor

namespace Go.Proofs.YtappjeepajjioaaGreatDoor
open Go.RowKit
theorem S32.below {q g : Nat} {x y z : Value} {w w' : World} {B : Nat} (h : S32 q g x y z w) (hb : Below B w w') (h1 : q < B) (h2 : g < B) : S32 q g x y z w' := h.heap (hb.block q h1) (hb.block g h2)
def S30 (q : Nat) (x y z : Value) (w : World) : Prop := w.cell? ⟨q, 0, none⟩ = some x ∧ w.cell? ⟨q, 1, none⟩ = some y ∧ w.cell? ⟨q, 2, none⟩ = some z
theorem S30.below {q : Nat} {x y z : Value} {w w' : World} {B : Nat} (h : S30 q x y z w) (hb : Below B w w') (h1 : q < B) : S30 q x y z w' := ⟨(hb.cell (p := ⟨q, 0, none⟩) h1).trans h.1, (hb.cell (p := ⟨q, 1, none⟩) h1).trans h.2.1, (hb.cell (p := ⟨q, 2, none⟩) h1).trans h.2.2⟩
/-- how many entries a map has, in whatever world it lies -/
theorem Mp.lenN {w : World} {b : Nat} {es : List ((Int × Int) × Value)} (h : Mp w b es) : ∃ n : Nat, ∀ w' : World, w'.heap[b]? = w.heap[b]? → (Builtin.len_ #[89] 3 #[.map (some b)]).run Tryz.prog w' = .ok (.int .i64 (n : Int)) w' := by
  obtain ⟨arr, clock, hb, _⟩ := h
  exact ⟨arr.size, fun w' hw => by simp [Builtin.len_, run_underlying undMp, MapKept.run_getObj_map (hw.trans hb), goInt, Result.andThen]⟩
def SL (q : Nat) (x y z : Value) (b nl : Nat) (w : World) : Prop := w.cell? ⟨q, 0, none⟩ = some x ∧ w.cell? ⟨q, 1, none⟩ = some y ∧ w.cell? ⟨q, 2, none⟩ = some z ∧ (Builtin.len_ #[89] 3 #[.map (some b)]).run Tryz.prog w = .ok (.int .i64 (nl : Int)) w
end Go.Proofs.YtappjeepajjioaaGreatDoor
