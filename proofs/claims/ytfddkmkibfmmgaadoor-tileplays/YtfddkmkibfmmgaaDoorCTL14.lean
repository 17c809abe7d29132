import Derived.Test.YtfddkmkibfmmgaaDoorCTL10
namespace Go.Proofs.YtfddkmkibfmmgaaDoor
open Go.RowKit
set_option maxRecDepth 100000 in
set_option maxHeartbeats 2000000 in
/-- the hash of 2^l leaves from a place on -/
theorem perfect_any {q h : Nat} {L : List (List UInt8)} {F : Nat → Prop} : ∀ (l : Nat) (w : World) (_ : TrL w q h L F) (b0 : Nat) (_ : l ≤ 40) (_ : b0 + 2 ^ l ≤ L.length) (_ : Tb w),
    Calls Tryd.prog 70 #[.pointer (some ⟨q, 0, none⟩), .int .i64 (b0 : Int), .int .i64 (l : Int)] w fun r w' => r = .returned (sv (Tree.root (Til.sg L b0 (b0 + 2 ^ l)))) ∧ Below w.heap.size w w' := by
  intro l
  induction l with
  | zero =>
    intro w t b0 hl hb Z
    have c0 := low_i64 b0 0 1 (by have := t.n20; omega) (by omega) rfl
    rw [Nat.mod_one] at c0
    obtain ⟨⟨b, es, t1, rfl⟩, _, _, g8, _, n20⟩ := t
    have i1 := thash_any t1 g8 0 b0 (by omega) (by omega) (x := Til.hs L 0 b0) (by rw [Til.rf_nat, Til.row_at (by unfold Til.cn; rw [Nat.pow_zero, Nat.div_one]; omega)])
    have e1 : Til.hs L 0 b0 = Tree.root (Til.sg L b0 (b0 + 2 ^ 0)) := by unfold Til.hs; rw [Nat.pow_zero, Nat.mul_one, Nat.mul_one]
    rw [e1] at i1
    generalize Tree.root (Til.sg L b0 (b0 + 2 ^ 0)) = R at *
    have c1 : ((1 : Nat) : Int) - 1 = 0 := rfl
    rw [c1] at c0
    rw [show ((0 : Nat) : Int) = 0 from rfl] at *
    have c2 : IntKind.i64.wrap 1 = 1 := by decide
    have c3 : IntKind.i64.wrap 0 = 0 := by decide
    clear t1
    go_enter Tryd.func70, Tryd.ntmps70
    go_wp2_with (go_at_call 35; refine i1.mono ?_; rintro r w2 ⟨rfl, hw2⟩)
    go_ret
    exact ⟨rfl, hw2⟩
  | succ l ih =>
    intro w t b0 hl hb Z
    obtain ⟨P, hP⟩ : ∃ P, P = 2 ^ (l + 1) := ⟨_, rfl⟩
    obtain ⟨Q, hQ⟩ : ∃ Q, Q = 2 ^ l := ⟨_, rfl⟩
    have hPQ : P = 2 * Q := by rw [hP, hQ, Nat.pow_succ]; omega
    have hq0 : 0 < Q := by rw [hQ]; exact Nat.two_pow_pos l
    have n20 := t.n20
    have hb' := hb
    rw [← hP] at hb'
    have s0 : (2 : Int) ^ (l + 1) = (P : Int) := by rw [hP]; simp
    have s1 : (2 : Int) ^ l = (Q : Int) := by rw [hQ]; simp
    have s2 : IntKind.i64.wrap (P : Int) = (P : Int) := wrap_small _ (by omega) (by omega)
    have s3 : IntKind.i64.wrap ((P : Int) - 1) = (P : Int) - 1 := wrap_small _ (by omega) (by omega)
    have s4 := low_i64 b0 (l + 1) P (by omega) (by omega) hP
    have s5 : IntKind.i64.wrap (Q : Int) = (Q : Int) := wrap_small _ (by omega) (by omega)
    obtain ⟨b2, hb2⟩ : ∃ b2 : Nat, b0 + Q = b2 := ⟨_, rfl⟩
    have s6 : IntKind.i64.wrap ((b0 : Int) + (Q : Int)) = (b2 : Int) := by rw [wrap_small _ (by omega) (by omega)]; omega
    obtain ⟨l1, hl1⟩ : ∃ l1 : Nat, l + 1 = l1 := ⟨_, rfl⟩
    have s7 : IntKind.i64.wrap ((l1 : Int) - 1) = (l : Int) := by rw [wrap_small _ (by omega) (by omega)]; omega
    have k0 : (0 : Int) ≤ (l1 : Int) := by omega
    have k1 : (l1 : Int) ≤ 64 := by omega
    have k2 : (0 : Int) ≤ (l : Int) := by omega
    have k3 : (l : Int) ≤ 64 := by omega
    by_cases ha : b0 % P = 0
    · have e1 : Til.hs L (l + 1) (b0 / P) = Tree.root (Til.sg L b0 (b0 + 2 ^ (l + 1))) := by
        have h1 : b0 / P * P = b0 := by have := Nat.div_add_mod b0 P; rw [ha, Nat.add_zero, Nat.mul_comm] at this; exact this
        unfold Til.hs
        rw [← hP, Nat.add_mul, Nat.one_mul, h1]
      have hlt : b0 / P < Til.cn L.length (l + 1) := by
        unfold Til.cn
        rw [← hP, Nat.lt_div_iff_mul_lt (by omega)]
        have h1 : b0 / P * P = b0 := by have := Nat.div_add_mod b0 P; rw [ha, Nat.add_zero, Nat.mul_comm] at this; exact this
        rw [h1]; omega
      have hle := Nat.div_le_self b0 P
      obtain ⟨⟨b, es, t1, rfl⟩, _, _, g8, _, _⟩ := t
      have i1 := thash_any t1 g8 (l + 1) (b0 / P) (by omega) (by omega) (x := Til.hs L (l + 1) (b0 / P)) (by rw [Til.rf_nat, Til.row_at hlt])
      rw [e1] at i1
      have s8 : (b0 : Int) / (P : Int) = ((b0 / P : Nat) : Int) := by simp
      generalize Tree.root (Til.sg L b0 (b0 + 2 ^ (l + 1))) = R at *
      generalize b0 / P = b1 at *
      rw [ha] at s4
      rw [show ((0 : Nat) : Int) = 0 from rfl] at s4
      rw [hl1] at i1 s0 ⊢
      clear t1 Z ih hb2 hP hQ hPQ hb hb' hl1 hlt hle hq0 ha e1 s1 s5 s6 s7 hl n20 k2 k3
      go_enter Tryd.func70, Tryd.ntmps70
      go_wp2_with (go_at_call 35; refine i1.mono ?_; rintro r w2 ⟨rfl, hw2⟩)
      go_ret
      exact ⟨rfl, hw2⟩
    · have e1 := Til.root_two (L := L) (b := b0) (e := b0 + 2 ^ (l + 1)) (a := l) (by omega) (by rw [← hP, ← hQ]; omega) (by rw [← hP, ← hQ]; omega)
      have J1 := fun w' (bb : Below w.heap.size w w') => ih w' (t.below bb) b0 (by omega) (by rw [← hQ]; omega) (Z.below bb Z.lt)
      have J2 := fun w' (bb : Below w.heap.size w w') => ih w' (t.below bb) (b0 + Q) (by omega) (by rw [← hQ]; omega) (Z.below bb Z.lt)
      have e2 : b0 + Q + 2 ^ l = b0 + 2 ^ (l + 1) := by rw [← hP, ← hQ]; omega
      rw [e2] at J2
      rw [← hQ] at J1 e1
      obtain ⟨x, hx⟩ : ∃ x, Tree.root (Til.sg L b0 (b0 + Q)) = x := ⟨_, rfl⟩
      obtain ⟨y, hy⟩ : ∃ y, Tree.root (Til.sg L (b0 + Q) (b0 + 2 ^ (l + 1))) = y := ⟨_, rfl⟩
      rw [hx] at J1 e1
      rw [hy] at J2 e1
      rw [hb2] at J2
      generalize Tree.root (Til.sg L b0 (b0 + 2 ^ (l + 1))) = R at *
      have hnd : Hid (Tree.nd x y = R) := hid e1.symm
      have s9 : ((b0 % P : Nat) : Int) ≠ 0 := by omega
      generalize ((b0 % P : Nat) : Int) = rm at *
      have s10 : (rm == 0) = false := by simpa using s9
      have JN := fun w' (bb : Below w.heap.size w w') => tnode_any hnd w' (Z.below bb Z.lt).t
      have hd : Hid (Below w.heap.size w w.drew) := hid (Below.refl _ w).drew
      rw [hl1] at s0 ⊢
      clear t Z ih e1 hx hy e2 hb2 hP hQ hPQ hb hb' hl1 hq0 ha hl n20 s9
      go_enter Tryd.func70, Tryd.ntmps70
      go_wp2
      go_region_held3 (fun _ => True) (trivial) (first
        | (go_at_call 70; (with_reducible refine (J1 _ hd.out).mono ?_); rintro r w9 ⟨rfl, hw9⟩; have h9 := hid (hd.out.trans (hw9.mono hd.out.size)))
        | (go_at_call 70; (with_reducible refine (J2 _ h9.out).mono ?_); rintro r w10 ⟨rfl, hw10⟩; have h10 := hid (h9.out.trans (hw10.mono h9.out.size)))
        | (go_at_call 65; (with_reducible refine (JN _ h10.out).mono ?_); rintro r w11 ⟨rfl, hw11⟩; have h11 := hid (h10.out.trans (hw11.mono h10.out.size))))
      all_goals go_wp2
      all_goals go_ret
      all_goals exact ⟨rfl, h11.out⟩
end Go.Proofs.YtfddkmkibfmmgaaDoor

namespace Go.Proofs.YtfddkmkibfmmgaaDoor
open Go.RowKit
theorem mod_up (n k : Nat) : n % 2 ^ (k + 1) = n % 2 ^ k + 2 ^ k * (n / 2 ^ k % 2) := Nat.mod_pow_succ
set_option maxRecDepth 100000 in
set_option maxHeartbeats 4000000 in
theorem tpart_any {w : World} {q h : Nat} {L : List (List UInt8)} {F : Nat → Prop} (t : TrL w q h L F) (b e : Nat) (hb : b < e) (he : e ≤ L.length) (Z : Tb w) :
    Calls Tryd.prog 48 #[.pointer (some ⟨q, 0, none⟩), .agg #[.int .i64 (b : Int), .int .i64 (e : Int)]] w fun r w' => r = .returned (sv (Tree.root (Til.sg L b e))) ∧ Below w.heap.size w w' := by
  obtain ⟨w1, hw1⟩ : ∃ w1, w.alloc (.cells #[Value.int .i64 (b : Int), .int .i64 (e : Int)] 47) = w1 := ⟨_, rfl⟩
  have b1 := (Below.refl w.heap.size w).alloc (Nat.le_refl _) (.cells #[Value.int .i64 (b : Int), .int .i64 (e : Int)] 47)
  have r1 := heap_alloc_new w (.cells #[Value.int .i64 (b : Int), .int .i64 (e : Int)] 47)
  rw [hw1] at b1 r1
  have S0 : w1.cell? ⟨w.heap.size, 0, none⟩ = some (.int .i64 (b : Int)) ∧ w1.cell? ⟨w.heap.size, 1, none⟩ = some (.int .i64 (e : Int)) := ⟨by rw [cell_of_row _ _ _ _ _ _ r1]; rfl, by rw [cell_of_row _ _ _ _ _ _ r1]; rfl⟩
  have C1 := hid S0.2
  have hlt : w.heap.size < w1.heap.size := lt_of_heap r1
  have T1 := hid (t.below b1)
  have Z1 := hid (Z.below b1 Z.lt)
  have B1 := hid b1
  have n20 := t.n20
  obtain ⟨n, hn⟩ : ∃ n : Nat, e - b = n := ⟨_, rfl⟩
  have e0 : IntKind.i64.wrap ((e : Int) - (b : Int)) = (n : Int) := by rw [wrap_small _ (by omega) (by omega)]; omega
  have e1 : IntKind.u64.wrap (n : Int) = (n : Int) := by rw [IntKind.wrap_u64]; omega
  obtain ⟨c, hc⟩ : ∃ c, n.log2 = c := ⟨_, rfl⟩
  have len := fun w' => lenU_nat n c (by omega) (by omega) hc w'
  have hcn : n < 2 ^ (c + 1) := by rw [← hc]; exact Nat.lt_log2_self
  have hc20 : c ≤ 20 := by
    have h2 : 2 ^ c ≤ n := by rw [← hc]; exact Nat.log2_self_le (by omega)
    have h3 : 2 ^ c < 2 ^ 21 := by omega
    have := (Nat.pow_lt_pow_iff_right (a := 2) (by omega)).1 h3
    omega
  obtain ⟨c1, hc1⟩ : ∃ c1 : Nat, c + 1 = c1 := ⟨_, rfl⟩
  have e2 : (c : Int) + 1 = (c1 : Int) := by omega
  have hc21 : c1 ≤ 21 := by omega
  rw [e2] at len
  have HCN : Hid (n % 2 ^ c1 = n) := by unfold Hid; rw [← hc1]; exact Nat.mod_eq_of_lt hcn
  have HN := hid hn
  clear t Z b1 r1 hc hcn e2
  go_enter Tryd.func48, Tryd.ntmps48
  go_wp2
  go_region_held3 (fun w' => w'.cell? ⟨w.heap.size, 0, none⟩ = some (.int .i64 (b : Int)) ∧ w'.cell? ⟨w.heap.size, 1, none⟩ = some (.int .i64 (e : Int))) (exact S0) (fail)
  clear S0
  go_wp2_with (go_at_call 62; refine (len _).mono ?_; rintro r w9 ⟨rfl, rfl⟩)
  obtain ⟨w2, hw2⟩ : ∃ w2, w1.drew = w2 := ⟨_, rfl⟩
  rw [hw2]
  have b2 := (Below.refl w1.heap.size w1).drew
  rw [hw2] at b2
  have T2 := hid (T1.out.below b2)
  have Z2 := hid (Z1.out.below b2 Z1.out.lt)
  have B2 := hid (B1.out.trans (b2.mono B1.out.size))
  have C2 := hid ((b2.cell (p := ⟨w.heap.size, 1, none⟩) hlt).trans C1.out)
  have hlt2 : w.heap.size < w2.heap.size := Nat.lt_of_lt_of_le hlt b2.size
  clear hw2 b2 T1 Z1 B1 C1 hlt len e0 e1 hc1
  go_loopw [21, 7, 6] (fun i hv ev w' => ∃ (k E : Nat) (x : List UInt8), i = .int .i64 (k : Int) ∧ k ≤ c1 ∧ hv = sv x ∧ ev = .int .i64 (E : Int) ∧ Hid (E + n % 2 ^ k = e) ∧ Hid (n % 2 ^ k ≠ 0 → Tree.root (Til.sg L E e) = x) ∧ Hid (Below w2.heap.size w2 w')) (fun i _ _ _ => c1 - (intOf i).toNat)
  case atStart => exact ⟨0, e, [], rfl, by omega, rfl, rfl, by unfold Hid; rw [Nat.pow_zero, Nat.mod_one]; rfl, fun h => absurd (by rw [Nat.pow_zero, Nat.mod_one]) h, hid (Below.refl _ _)⟩
  case round =>
    obtain ⟨k, E, x, rfl, hk, rfl, rfl, hE, hx, hB⟩ := hrel
    by_cases hkc : k < c1
    · have c0 : (k : Int) < (c1 : Int) := by omega
      have k0 : (0 : Int) ≤ (k : Int) := by omega
      have k1 : (k : Int) ≤ 64 := by omega
      have bt := bit_is (b := n) (k := k) (by have := HN.out; omega)
      have mu := mod_up n k
      have cE := (hB.out.cell (p := ⟨w.heap.size, 1, none⟩) hlt2).trans C2.out
      have hk1 : IntKind.i64.wrap ((k : Int) + 1) = ((k + 1 : Nat) : Int) := by rw [wrap_small _ (by omega) (by omega)]; omega
      by_cases hbit : n / 2 ^ k % 2 = 0
      · rw [hbit, show ((0 : Nat) : Int) = 0 from rfl] at bt
        rw [hbit, Nat.mul_zero, Nat.add_zero] at mu
        have hE' : Hid (E + n % 2 ^ (k + 1) = e) := by unfold Hid; rw [mu]; exact hE.out
        have hx' : Hid (n % 2 ^ (k + 1) ≠ 0 → Tree.root (Til.sg L E e) = x) := by unfold Hid; rw [mu]; exact hx.out
        clear mu hbit hE hx
        go_wp2
        exact ⟨⟨k + 1, E, x, by go_num, by omega, rfl, rfl, hE', hx', hB⟩, by simp [intOf]; omega⟩
      · have hb1 : n / 2 ^ k % 2 = 1 := by omega
        rw [hb1, show ((1 : Nat) : Int) = 1 from rfl] at bt
        rw [hb1, Nat.mul_one] at mu
        obtain ⟨P, hP⟩ : ∃ P, P = 2 ^ k := ⟨_, rfl⟩
        rw [← hP] at mu
        have hml : n % 2 ^ (k + 1) ≤ n := Nat.mod_le _ _
        have hp0 : 0 < P := by rw [hP]; exact Nat.two_pow_pos k
        have hmP : n % P < P := Nat.mod_lt _ hp0
        have hEo := hE.out
        rw [← hP] at hEo
        have hno := HN.out
        obtain ⟨G, hG⟩ : ∃ G : Nat, G + P = E := ⟨E - P, by omega⟩
        have s1 : (2 : Int) ^ k = (P : Int) := by rw [hP]; simp
        rw [s1] at bt
        have s2 : IntKind.i64.wrap (P : Int) = (P : Int) := wrap_small _ (by omega) (by omega)
        have s3 : IntKind.i64.wrap ((E : Int) - (P : Int)) = (G : Int) := by rw [wrap_small _ (by omega) (by omega)]; omega
        have PF := perfect_any k wr (T2.out.below hB.out) G (by omega) (by rw [← hP]; omega) (Z2.out.below hB.out Z2.out.lt)
        rw [← hP, hG] at PF
        have hE' : Hid (G + n % 2 ^ (k + 1) = e) := by unfold Hid; omega
        by_cases hm0 : n % P = 0
        · have q0 : ((E : Int) == (e : Int)) = true := by simp; omega
          have hEe : E = e := by omega
          rw [hEe] at PF
          obtain ⟨y, hy⟩ : ∃ y, Hid (Tree.root (Til.sg L G e) = y) := ⟨_, rfl⟩
          rw [hy.out] at PF
          have hx' : Hid (n % 2 ^ (k + 1) ≠ 0 → Tree.root (Til.sg L G e) = y) := fun _ => hy.out
          clear mu hP hml hp0 hmP hEo hno hG hbit hb1 hE hx hm0 hEe hy
          go_wp2_with (go_at_call 70; fail)
          refine PF.mono ?_
          rintro r w3 ⟨rfl, hw3⟩
          have cE3 := (hw3.cell (p := ⟨w.heap.size, 1, none⟩) (Nat.lt_of_lt_of_le hlt2 hB.out.size)).trans cE
          have B3 := hid (hB.out.trans (hw3.mono hB.out.size))
          clear PF hw3 cE
          go_wp2
          exact ⟨⟨k + 1, G, y, by go_num, by omega, rfl, rfl, hE', hx', B3⟩, by simp [intOf]; omega⟩
        · have q0 : ((E : Int) == (e : Int)) = false := by simp; omega
          have hxo := hx.out (by rw [← hP]; exact hm0)
          obtain ⟨y, hy⟩ : ∃ y, Hid (Tree.nd (Tree.root (Til.sg L G E)) x = y) := ⟨_, rfl⟩
          have rt := Til.root_two (L := L) (b := G) (e := e) (a := k) he (by rw [← hP]; omega) (by rw [← hP]; omega)
          rw [← hP, hG, hxo, hy.out] at rt
          have hx' : Hid (n % 2 ^ (k + 1) ≠ 0 → Tree.root (Til.sg L G e) = y) := fun _ => rt
          obtain ⟨z, hz⟩ : ∃ z, Tree.root (Til.sg L G E) = z := ⟨_, rfl⟩
          rw [hz] at PF hy
          clear mu hP hml hp0 hmP hEo hno hG hbit hb1 hE hx hm0 hxo rt hz
          go_wp2_with (go_at_call 70; fail)
          refine PF.mono ?_
          rintro r w3 ⟨rfl, hw3⟩
          have cE3 := (hw3.cell (p := ⟨w.heap.size, 1, none⟩) (Nat.lt_of_lt_of_le hlt2 hB.out.size)).trans cE
          have B3 := hid (hB.out.trans (hw3.mono hB.out.size))
          have N3 := tnode_any hy w3 (Z2.out.below B3.out Z2.out.lt).t
          clear PF hw3 cE
          go_wp2_with (go_at_call 65; fail)
          refine N3.mono ?_
          rintro r w4 ⟨rfl, hw4⟩
          have B4 := hid (B3.out.trans (hw4.mono B3.out.size))
          clear N3 hw4
          go_wp2
          exact ⟨⟨k + 1, G, y, by go_num, by omega, rfl, rfl, hE', hx', B4⟩, by simp [intOf]; omega⟩
    · obtain rfl : k = c1 := by omega
      have c0 : ¬ (k : Int) < (k : Int) := by omega
      have hEo := hE.out
      rw [HCN.out] at hEo
      have hno := HN.out
      obtain rfl : E = b := by omega
      have hxo := hx.out (by rw [HCN.out]; omega)
      subst hxo
      go_wp2
      go_ret
      exact ⟨rfl, B2.out.trans (hB.out.mono B2.out.size)⟩
end Go.Proofs.YtfddkmkibfmmgaaDoor
