import Derived.Test.YtblmaokonhdjaaaGreatDoorPkTL10
namespace Go.Proofs.YtblmaokonhdjaaaGreatDoor
open Go.RowKit
theorem mod_up (n k : Nat) : n % 2 ^ (k + 1) = n % 2 ^ k + 2 ^ k * (n / 2 ^ k % 2) := Nat.mod_pow_succ
set_option maxRecDepth 100000 in
set_option maxHeartbeats 4000000 in
theorem tpart_any {w : World} {q h : Nat} {L : List (List UInt8)} {F : Nat → Prop} (t : TrL w q h L F) (b e : Nat) (hb : b < e) (he : e ≤ L.length) (Z : Tb w) :
    Calls Tryz.prog 93 #[.pointer (some ⟨q, 0, none⟩), .agg #[.int .i64 (b : Int), .int .i64 (e : Int)]] w fun r w' => r = .returned (sv (Tree.root (Til.sg L b e))) ∧ Below w.heap.size w w' := by
  obtain ⟨w1, hw1⟩ : ∃ w1, w.alloc (.cells #[Value.int .i64 (b : Int), .int .i64 (e : Int)] 50) = w1 := ⟨_, rfl⟩
  have b1 := (Below.refl w.heap.size w).alloc (Nat.le_refl _) (.cells #[Value.int .i64 (b : Int), .int .i64 (e : Int)] 50)
  have r1 := heap_alloc_new w (.cells #[Value.int .i64 (b : Int), .int .i64 (e : Int)] 50)
  rw [hw1] at b1 r1
  have S0 : w1.cell? ⟨w.heap.size, 0, none⟩ = some (.int .i64 (b : Int)) ∧ w1.cell? ⟨w.heap.size, 1, none⟩ = some (.int .i64 (e : Int)) := ⟨by rw [cell_of_row _ _ _ _ _ _ r1]; rfl, by rw [cell_of_row _ _ _ _ _ _ r1]; rfl⟩
  have C1 := hid S0.2
  have hlt : w.heap.size < w1.heap.size := lt_of_heap r1
  have T1 := hid (t.below b1)
  have Z1 := hid (Z.below b1 Z.lt)
  have B1 := hid b1
  have n20 := t.n20
  obtain ⟨n, hn⟩ : ∃ n : Nat, e - b = n := ⟨_, rfl⟩
  have e0 : IntKind.i64.wrap ((e : Int) - (b : Int)) = (n : Int) := by rw [wrap_small _ (by omega) (by omega)]; omega
  have e1 : IntKind.u64.wrap (n : Int) = (n : Int) := by rw [IntKind.wrap_u64]; omega
  obtain ⟨c, hc⟩ : ∃ c, n.log2 = c := ⟨_, rfl⟩
  have len := fun w' => lenU_nat n c (by omega) (by omega) hc w'
  have hcn : n < 2 ^ (c + 1) := by rw [← hc]; exact Nat.lt_log2_self
  have hc20 : c ≤ 20 := by
    have h2 : 2 ^ c ≤ n := by rw [← hc]; exact Nat.log2_self_le (by omega)
    have h3 : 2 ^ c < 2 ^ 21 := by omega
    have := (Nat.pow_lt_pow_iff_right (a := 2) (by omega)).1 h3
    omega
  obtain ⟨c1, hc1⟩ : ∃ c1 : Nat, c + 1 = c1 := ⟨_, rfl⟩
  have e2 : (c : Int) + 1 = (c1 : Int) := by omega
  have hc21 : c1 ≤ 21 := by omega
  rw [e2] at len
  have HCN : Hid (n % 2 ^ c1 = n) := by unfold Hid; rw [← hc1]; exact Nat.mod_eq_of_lt hcn
  have HN := hid hn
  clear t Z b1 r1 hc hcn e2
  go_enter Tryz.func93, Tryz.ntmps93
  go_wp2
  go_region_held3 (fun w' => w'.cell? ⟨w.heap.size, 0, none⟩ = some (.int .i64 (b : Int)) ∧ w'.cell? ⟨w.heap.size, 1, none⟩ = some (.int .i64 (e : Int))) (exact S0) (fail)
  clear S0
  go_wp2_with (go_at_call 142; refine (len _).mono ?_; rintro r w9 ⟨rfl, rfl⟩)
  obtain ⟨w2, hw2⟩ : ∃ w2, w1.drew = w2 := ⟨_, rfl⟩
  rw [hw2]
  have b2 := (Below.refl w1.heap.size w1).drew
  rw [hw2] at b2
  have T2 := hid (T1.out.below b2)
  have Z2 := hid (Z1.out.below b2 Z1.out.lt)
  have B2 := hid (B1.out.trans (b2.mono B1.out.size))
  have C2 := hid ((b2.cell (p := ⟨w.heap.size, 1, none⟩) hlt).trans C1.out)
  have hlt2 : w.heap.size < w2.heap.size := Nat.lt_of_lt_of_le hlt b2.size
  clear hw2 b2 T1 Z1 B1 C1 hlt len e0 e1 hc1
  go_loopw [21, 7, 6] (fun i hv ev w' => ∃ (k E : Nat) (x : List UInt8), i = .int .i64 (k : Int) ∧ k ≤ c1 ∧ hv = sv x ∧ ev = .int .i64 (E : Int) ∧ Hid (E + n % 2 ^ k = e) ∧ Hid (n % 2 ^ k ≠ 0 → Tree.root (Til.sg L E e) = x) ∧ Hid (Below w2.heap.size w2 w')) (fun i _ _ _ => c1 - (intOf i).toNat)
  case atStart => exact ⟨0, e, [], rfl, by omega, rfl, rfl, by unfold Hid; rw [Nat.pow_zero, Nat.mod_one]; rfl, fun h => absurd (by rw [Nat.pow_zero, Nat.mod_one]) h, hid (Below.refl _ _)⟩
  case round =>
    obtain ⟨k, E, x, rfl, hk, rfl, rfl, hE, hx, hB⟩ := hrel
    by_cases hkc : k < c1
    · have c0 : (k : Int) < (c1 : Int) := by omega
      have k0 : (0 : Int) ≤ (k : Int) := by omega
      have k1 : (k : Int) ≤ 64 := by omega
      have bt := bit_is (b := n) (k := k) (by have := HN.out; omega)
      have mu := mod_up n k
      have cE := (hB.out.cell (p := ⟨w.heap.size, 1, none⟩) hlt2).trans C2.out
      have hk1 : IntKind.i64.wrap ((k : Int) + 1) = ((k + 1 : Nat) : Int) := by rw [wrap_small _ (by omega) (by omega)]; omega
      by_cases hbit : n / 2 ^ k % 2 = 0
      · rw [hbit, show ((0 : Nat) : Int) = 0 from rfl] at bt
        rw [hbit, Nat.mul_zero, Nat.add_zero] at mu
        have hE' : Hid (E + n % 2 ^ (k + 1) = e) := by unfold Hid; rw [mu]; exact hE.out
        have hx' : Hid (n % 2 ^ (k + 1) ≠ 0 → Tree.root (Til.sg L E e) = x) := by unfold Hid; rw [mu]; exact hx.out
        clear mu hbit hE hx
        go_wp2
        exact ⟨⟨k + 1, E, x, by go_num, by omega, rfl, rfl, hE', hx', hB⟩, by simp [intOf]; omega⟩
      · have hb1 : n / 2 ^ k % 2 = 1 := by omega
        rw [hb1, show ((1 : Nat) : Int) = 1 from rfl] at bt
        rw [hb1, Nat.mul_one] at mu
        obtain ⟨P, hP⟩ : ∃ P, P = 2 ^ k := ⟨_, rfl⟩
        rw [← hP] at mu
        have hml : n % 2 ^ (k + 1) ≤ n := Nat.mod_le _ _
        have hp0 : 0 < P := by rw [hP]; exact Nat.two_pow_pos k
        have hmP : n % P < P := Nat.mod_lt _ hp0
        have hEo := hE.out
        rw [← hP] at hEo
        have hno := HN.out
        obtain ⟨G, hG⟩ : ∃ G : Nat, G + P = E := ⟨E - P, by omega⟩
        have s1 : (2 : Int) ^ k = (P : Int) := by rw [hP]; simp
        rw [s1] at bt
        have s2 : IntKind.i64.wrap (P : Int) = (P : Int) := wrap_small _ (by omega) (by omega)
        have s3 : IntKind.i64.wrap ((E : Int) - (P : Int)) = (G : Int) := by rw [wrap_small _ (by omega) (by omega)]; omega
        have PF := perfect_any k wr (T2.out.below hB.out) G (by omega) (by rw [← hP]; omega) (Z2.out.below hB.out Z2.out.lt)
        rw [← hP, hG] at PF
        have hE' : Hid (G + n % 2 ^ (k + 1) = e) := by unfold Hid; omega
        by_cases hm0 : n % P = 0
        · have q0 : ((E : Int) == (e : Int)) = true := by simp; omega
          have hEe : E = e := by omega
          rw [hEe] at PF
          obtain ⟨y, hy⟩ : ∃ y, Hid (Tree.root (Til.sg L G e) = y) := ⟨_, rfl⟩
          rw [hy.out] at PF
          have hx' : Hid (n % 2 ^ (k + 1) ≠ 0 → Tree.root (Til.sg L G e) = y) := fun _ => hy.out
          clear mu hP hml hp0 hmP hEo hno hG hbit hb1 hE hx hm0 hEe hy
          go_wp2_with (go_at_call 143; fail)
          refine PF.mono ?_
          rintro r w3 ⟨rfl, hw3⟩
          have cE3 := (hw3.cell (p := ⟨w.heap.size, 1, none⟩) (Nat.lt_of_lt_of_le hlt2 hB.out.size)).trans cE
          have B3 := hid (hB.out.trans (hw3.mono hB.out.size))
          clear PF hw3 cE
          go_wp2
          exact ⟨⟨k + 1, G, y, by go_num, by omega, rfl, rfl, hE', hx', B3⟩, by simp [intOf]; omega⟩
        · have q0 : ((E : Int) == (e : Int)) = false := by simp; omega
          have hxo := hx.out (by rw [← hP]; exact hm0)
          obtain ⟨y, hy⟩ : ∃ y, Hid (Tree.nd (Tree.root (Til.sg L G E)) x = y) := ⟨_, rfl⟩
          have rt := Til.root_two (L := L) (b := G) (e := e) (a := k) he (by rw [← hP]; omega) (by rw [← hP]; omega)
          rw [← hP, hG, hxo, hy.out] at rt
          have hx' : Hid (n % 2 ^ (k + 1) ≠ 0 → Tree.root (Til.sg L G e) = y) := fun _ => rt
          obtain ⟨z, hz⟩ : ∃ z, Tree.root (Til.sg L G E) = z := ⟨_, rfl⟩
          rw [hz] at PF hy
          clear mu hP hml hp0 hmP hEo hno hG hbit hb1 hE hx hm0 hxo rt hz
          go_wp2_with (go_at_call 143; fail)
          refine PF.mono ?_
          rintro r w3 ⟨rfl, hw3⟩
          have cE3 := (hw3.cell (p := ⟨w.heap.size, 1, none⟩) (Nat.lt_of_lt_of_le hlt2 hB.out.size)).trans cE
          have B3 := hid (hB.out.trans (hw3.mono hB.out.size))
          have N3 := tnode_any hy w3 (Z2.out.below B3.out Z2.out.lt).t
          clear PF hw3 cE
          go_wp2_with (go_at_call 138; fail)
          refine N3.mono ?_
          rintro r w4 ⟨rfl, hw4⟩
          have B4 := hid (B3.out.trans (hw4.mono B3.out.size))
          clear N3 hw4
          go_wp2
          exact ⟨⟨k + 1, G, y, by go_num, by omega, rfl, rfl, hE', hx', B4⟩, by simp [intOf]; omega⟩
    · obtain rfl : k = c1 := by omega
      have c0 : ¬ (k : Int) < (k : Int) := by omega
      have hEo := hE.out
      rw [HCN.out] at hEo
      have hno := HN.out
      obtain rfl : E = b := by omega
      have hxo := hx.out (by rw [HCN.out]; omega)
      subst hxo
      go_wp2
      go_ret
      exact ⟨rfl, B2.out.trans (hB.out.mono B2.out.size)⟩
end Go.Proofs.YtblmaokonhdjaaaGreatDoor

namespace Go.Proofs.YtblmaokonhdjaaaGreatDoor
open Go.RowKit
/-- may a span be? -/
def spB (n : Nat) (b e : Int) : Bool := decide (0 ≤ b ∧ b ≤ e ∧ e ≤ (n : Int))
set_option maxRecDepth 100000 in
set_option maxHeartbeats 2000000 in
theorem hasSpan_any {w : World} {q h : Nat} {L : List (List UInt8)} {F : Nat → Prop} (t : TrL w q h L F) (b e : Int) :
    Calls Tryz.prog 91 #[.pointer (some ⟨q, 0, none⟩), .agg #[.int .i64 b, .int .i64 e]] w fun r w' => r = .returned (.bool (spB L.length b e)) ∧ Below w.heap.size w w' := by
  obtain ⟨w1, hw1⟩ : ∃ w1, w.alloc (.cells #[Value.int .i64 b, .int .i64 e] 50) = w1 := ⟨_, rfl⟩
  have b1 := (Below.refl w.heap.size w).alloc (Nat.le_refl _) (.cells #[Value.int .i64 b, .int .i64 e] 50)
  have r1 := heap_alloc_new w (.cells #[Value.int .i64 b, .int .i64 e] 50)
  rw [hw1] at b1 r1
  have S0 : w1.cell? ⟨w.heap.size, 0, none⟩ = some (.int .i64 b) ∧ w1.cell? ⟨w.heap.size, 1, none⟩ = some (.int .i64 e) := ⟨by rw [cell_of_row _ _ _ _ _ _ r1]; rfl, by rw [cell_of_row _ _ _ _ _ _ r1]; rfl⟩
  have i1 := tSizeL ((t.below b1).below (Below.refl w1.heap.size w1).drew)
  have B1 := hid b1
  obtain ⟨n, hn⟩ : ∃ n, L.length = n := ⟨_, rfl⟩
  rw [hn] at i1 ⊢
  obtain ⟨c, hc⟩ : ∃ c, spB n b e = c := ⟨_, rfl⟩
  rw [hc]
  unfold spB at hc
  have HC := hid hc
  clear t b1 r1 hc
  by_cases h0 : 0 ≤ b
  · by_cases h1 : b ≤ e
    · have c3 : decide (e ≤ (n : Int)) = c := by rw [← HC.out]; exact decide_eq_decide.2 ⟨fun x => ⟨h0, h1, x⟩, fun x => x.2.2⟩
      go_enter Tryz.func91, Tryz.ntmps91
      go_wp2
      go_region_held3 (fun w' => w'.cell? ⟨w.heap.size, 0, none⟩ = some (.int .i64 b) ∧ w'.cell? ⟨w.heap.size, 1, none⟩ = some (.int .i64 e)) (exact S0) ((go_at_call 52; refine i1.mono ?_; rintro r w9 ⟨rfl, rfl⟩))
      go_wp2
      go_ret
      exact ⟨rfl, B1.out.drew⟩
    · have c3 : c = false := by rw [← HC.out]; exact decide_eq_false fun x => h1 x.2.1
      subst c3
      have y0 : decide (0 ≤ b) = true := decide_eq_true h0
      have y1 : decide (b ≤ e) = false := decide_eq_false h1
      clear h0 h1
      clear HC i1
      go_enter Tryz.func91, Tryz.ntmps91
      obtain ⟨s0, s1⟩ := S0
      go_wp2
      go_quiet (fail)
      go_wp2
      go_ret
      exact ⟨rfl, ⟨B1.out.os, B1.out.tape, B1.out.output, B1.out.size, B1.out.block⟩⟩
  · have c3 : c = false := by rw [← HC.out]; exact decide_eq_false fun x => h0 x.1
    subst c3
    have y0 : decide (0 ≤ b) = false := decide_eq_false h0
    clear h0
    clear HC i1
    go_enter Tryz.func91, Tryz.ntmps91
    obtain ⟨s0, s1⟩ := S0
    go_wp2
    go_quiet (fail)
    go_wp2
    go_ret
    exact ⟨rfl, ⟨B1.out.os, B1.out.tape, B1.out.output, B1.out.size, B1.out.block⟩⟩
/-- T4 -/
def tPartO (L : List (List UInt8)) (b e : Int) : List UInt8 × Int := if spB L.length b e = true then (Tree.root (Til.sg L b.toNat e.toNat), 0) else ([], 73)
set_option maxRecDepth 100000 in
set_option maxHeartbeats 2000000 in
theorem tPart_any {w : World} {q h : Nat} {L : List (List UInt8)} {F : Nat → Prop} (t : TrL w q h L F) (b e : Int) (Z : Tb w) {x : List UInt8} {z : Int} (hx : Hid (tPartO L b e = (x, z))) :
    Calls Tryz.prog 54 #[.pointer (some ⟨q, 0, none⟩), .agg #[.int .i64 b, .int .i64 e]] w fun r w' => r = .returned (.tuple #[sv x, .int .i64 z]) ∧ Below w.heap.size w w' := by
  obtain ⟨w1, hw1⟩ : ∃ w1, w.alloc (.cells #[Value.int .i64 b, .int .i64 e] 50) = w1 := ⟨_, rfl⟩
  have b1 := (Below.refl w.heap.size w).alloc (Nat.le_refl _) (.cells #[Value.int .i64 b, .int .i64 e] 50)
  have r1 := heap_alloc_new w (.cells #[Value.int .i64 b, .int .i64 e] 50)
  rw [hw1] at b1 r1
  have c0 : w1.cell? ⟨w.heap.size, 0, none⟩ = some (.int .i64 b) := by rw [cell_of_row _ _ _ _ _ _ r1]; rfl
  have c1 : w1.cell? ⟨w.heap.size, 1, none⟩ = some (.int .i64 e) := by rw [cell_of_row _ _ _ _ _ _ r1]; rfl
  have T1 := hid (t.below b1)
  have Z1 := hid (Z.below b1 Z.lt)
  have i1 := hasSpan_any T1.out b e
  have B1 := hid b1
  have hlt : w.heap.size < w1.heap.size := lt_of_heap r1
  have hxo := hx.out
  unfold tPartO at hxo
  obtain ⟨c, hc⟩ : ∃ c, spB L.length b e = c := ⟨_, rfl⟩
  rw [hc] at i1 hxo
  clear t Z b1 r1
  cases c
  · rw [if_neg (by simp)] at hxo
    injection hxo with h1 h2
    subst h1 h2
    go_enter Tryz.func54, Tryz.ntmps54
    go_wp2_with (go_at_call 91; refine i1.mono ?_; rintro r w2 ⟨rfl, hw2⟩)
    go_ret2
    exact ⟨rfl, B1.out.trans (hw2.mono B1.out.size)⟩
  · rw [if_pos rfl] at hxo
    injection hxo with h1 h2
    subst h2
    unfold spB at hc
    have hc := of_decide_eq_true hc
    obtain ⟨b', rfl⟩ : ∃ b' : Nat, b = (b' : Int) := ⟨b.toNat, by omega⟩
    obtain ⟨e', rfl⟩ : ∃ e' : Nat, e = (e' : Int) := ⟨e.toNat, by omega⟩
    rw [Int.toNat_natCast, Int.toNat_natCast] at h1
    by_cases hbe : b' = e'
    · subst hbe
      rw [Til.sg_nil, Tree.root_nil] at h1
      have k0 : ((b' : Int) == (b' : Int)) = true := by simp
      have i2 := fun w' (bb : Below w1.heap.size w1 w') => empty_any w' (Z1.out.below bb Z1.out.lt).t
      rw [h1] at i2
      clear hc h1 hx
      go_enter Tryz.func54, Tryz.ntmps54
      go_wp2_with (go_at_call 91; fail)
      refine i1.mono ?_
      rintro r w2 ⟨rfl, hw2⟩
      have d0 := (hw2.cell (p := ⟨w.heap.size, 0, none⟩) hlt).trans c0
      have d1 := (hw2.cell (p := ⟨w.heap.size, 1, none⟩) hlt).trans c1
      clear c0 c1
      go_wp2_with (go_at_call 92; refine (i2 _ hw2).mono ?_; rintro r w3 ⟨rfl, hw3⟩)
      go_ret2
      exact ⟨rfl, B1.out.trans ((hw2.trans (hw3.mono hw2.size)).mono B1.out.size)⟩
    · have k0 : ((b' : Int) == (e' : Int)) = false := by simp; omega
      have i2 := fun w' (bb : Below w1.heap.size w1 w') => tpart_any (T1.out.below bb) b' e' (by omega) (by omega) (Z1.out.below bb Z1.out.lt)
      rw [h1] at i2
      clear hc h1 hx hbe
      go_enter Tryz.func54, Tryz.ntmps54
      go_wp2_with (go_at_call 91; fail)
      refine i1.mono ?_
      rintro r w2 ⟨rfl, hw2⟩
      have d0 := (hw2.cell (p := ⟨w.heap.size, 0, none⟩) hlt).trans c0
      have d1 := (hw2.cell (p := ⟨w.heap.size, 1, none⟩) hlt).trans c1
      clear c0 c1
      go_wp2_with (go_at_call 93; refine (i2 _ hw2).mono ?_; rintro r w3 ⟨rfl, hw3⟩)
      go_ret2
      exact ⟨rfl, B1.out.trans ((hw2.trans (hw3.mono hw2.size)).mono B1.out.size)⟩
set_option maxRecDepth 100000 in
theorem tRoot_any {w : World} {q h : Nat} {L : List (List UInt8)} {F : Nat → Prop} (t : TrL w q h L F) (n : Int) (Z : Tb w) {x : List UInt8} {z : Int} (hx : Hid (tPartO L 0 n = (x, z))) :
    Calls Tryz.prog 25 #[.pointer (some ⟨q, 0, none⟩), .int .i64 n] w fun r w' => r = .returned (.tuple #[sv x, .int .i64 z]) ∧ Below w.heap.size w w' := by
  have i1 := tPart_any t 0 n Z hx
  go_enter Tryz.func25, Tryz.ntmps25
  go_wp2_with (go_at_call 54; refine i1.mono ?_; rintro r w2 ⟨rfl, hw2⟩)
  go_ret2
  exact ⟨rfl, hw2⟩
theorem tPartO_nat {L : List (List UInt8)} {b e : Nat} (hb : b ≤ e) (he : e ≤ L.length) : tPartO L (b : Int) (e : Int) = (Tree.root (Til.sg L b e), 0) := by
  unfold tPartO spB
  rw [if_pos (decide_eq_true ⟨by omega, by omega, by omega⟩), Int.toNat_natCast, Int.toNat_natCast]
theorem tPartO_all {L : List (List UInt8)} : tPartO L 0 (L.length : Int) = (Tree.root L, 0) := by
  have := tPartO_nat (L := L) (b := 0) (e := L.length) (by omega) (Nat.le_refl _)
  rwa [Til.sg_all] at this
end Go.Proofs.YtblmaokonhdjaaaGreatDoor
