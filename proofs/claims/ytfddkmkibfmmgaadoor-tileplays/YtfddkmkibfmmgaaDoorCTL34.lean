import Derived.BigQuiet
import Derived.OwnWalk
import Derived.Test.YtfddkmkibfmmgaaDoorCTL25
namespace Go.Proofs.YtfddkmkibfmmgaaDoor
open Go.RowKit
set_option maxRecDepth 100000 in
set_option maxHeartbeats 1000000 in
theorem rcomplete_bad (q : Nat) (l i : Int) (hb : l < 0 ∨ 30 < l ∨ i < 0 ∨ 1048576 < i) (w : World) :
    Calls Tryd.prog 86 #[.pointer (some ⟨q, 0, none⟩), .int .i64 l, .int .i64 i] w fun r w' => r = .returned (.tuple #[.int .i64 0, .int .i64 0, .bool false]) ∧ w' = w := by
  by_cases h0 : l < 0
  · go_enter Tryd.func86, Tryd.ntmps86
    go_wp2
    go_ret3
    exact ⟨rfl, rfl⟩
  · by_cases h1 : l > 30
    · go_enter Tryd.func86, Tryd.ntmps86
      go_wp2
      go_ret3
      exact ⟨rfl, rfl⟩
    · by_cases h2 : i < 0
      · go_enter Tryd.func86, Tryd.ntmps86
        go_wp2
        go_ret3
        exact ⟨rfl, rfl⟩
      · have h3 : i > 1048576 := by omega
        go_enter Tryd.func86, Tryd.ntmps86
        go_wp2
        go_ret3
        exact ⟨rfl, rfl⟩
set_option maxRecDepth 100000 in
set_option maxHeartbeats 1000000 in
theorem rcomplete_ok {w : World} {q h : Nat} {L : List (List UInt8)} {F : Nat → Prop} (t : RtL w q h L F) (l i : Nat) (hl : l ≤ 30) (hi : i ≤ 1048576) :
    Calls Tryd.prog 86 #[.pointer (some ⟨q, 0, none⟩), .int .i64 (l : Int), .int .i64 (i : Int)] w fun r w' => r = .returned (.tuple #[.int .i64 ((i * 2 ^ l : Nat) : Int), .int .i64 (((i + 1) * 2 ^ l : Nat) : Int), .bool (decide ((i + 1) * 2 ^ l ≤ L.length))]) ∧ Below w.heap.size w w' := by
  obtain ⟨a, c, r1, o1, n1, _, hA, _, _⟩ := t.open
  have c1 : w.cell? ⟨q, 1, none⟩ = some (.slice a L.length c) := by rw [cell_of_row _ _ _ _ _ _ r1]; rfl
  clear r1 t o1 n1 hA
  generalize L.length = n at *
  have k0 : ¬ (l : Int) < 0 := by omega
  have k1 : ¬ (l : Int) > 30 := by omega
  have k2 : ¬ (i : Int) < 0 := by omega
  have k3 : ¬ (i : Int) > 1048576 := by omega
  have hp : 2 ^ l ≤ 2 ^ 30 := Nat.pow_le_pow_right (by omega) hl
  have m1 : i * 2 ^ l ≤ 1048576 * 1073741824 := Nat.mul_le_mul hi hp
  have m2 : (i + 1) * 2 ^ l ≤ 1048577 * 1073741824 := Nat.mul_le_mul (by omega) hp
  have e1 : (i : Int) * 2 ^ l = ((i * 2 ^ l : Nat) : Int) := by simp
  have e2 : ((i : Int) + 1) * 2 ^ l = (((i + 1) * 2 ^ l : Nat) : Int) := by simp
  have s1 : IntKind.i64.wrap ((i : Int) * 2 ^ l) = ((i * 2 ^ l : Nat) : Int) := by rw [e1]; exact wrap_small _ (by omega) (by omega)
  have s2 : IntKind.i64.wrap (((i : Int) + 1) * 2 ^ l) = (((i + 1) * 2 ^ l : Nat) : Int) := by rw [e2]; exact wrap_small _ (by omega) (by omega)
  clear e1 e2
  generalize i * 2 ^ l = b at *
  generalize (i + 1) * 2 ^ l = e at *
  have c3 : decide ((e : Int) ≤ (n : Int)) = decide (e ≤ n) := decide_eq_decide.2 (by omega)
  go_enter Tryd.func86, Tryd.ntmps86
  go_wp2
  go_quiet (fail)
  go_wp2
  go_ret3
  exact ⟨by rw [← c3]; rfl, ⟨rfl, rfl, rfl, Nat.le_refl _, fun _ _ => rfl⟩⟩
set_option maxRecDepth 100000 in
set_option maxHeartbeats 2000000 in
theorem rinside_any {w : World} {q h : Nat} {L : List (List UInt8)} {F : Nat → Prop} (t : RtL w q h L F) (b e : Int) :
    Calls Tryd.prog 88 #[.pointer (some ⟨q, 0, none⟩), .agg #[.int .i64 b, .int .i64 e]] w fun r w' => r = .returned (.bool (spB L.length b e)) ∧ Below w.heap.size w w' := by
  obtain ⟨w1, hw1⟩ : ∃ w1, w.alloc (.cells #[Value.int .i64 b, .int .i64 e] 47) = w1 := ⟨_, rfl⟩
  have b1 := (Below.refl w.heap.size w).alloc (Nat.le_refl _) (.cells #[Value.int .i64 b, .int .i64 e] 47)
  have r1 := heap_alloc_new w (.cells #[Value.int .i64 b, .int .i64 e] 47)
  rw [hw1] at b1 r1
  have s0 : w1.cell? ⟨w.heap.size, 0, none⟩ = some (.int .i64 b) := by rw [cell_of_row _ _ _ _ _ _ r1]; rfl
  have s1 : w1.cell? ⟨w.heap.size, 1, none⟩ = some (.int .i64 e) := by rw [cell_of_row _ _ _ _ _ _ r1]; rfl
  obtain ⟨a, c, r2, o1, n1, _, hA, _, _⟩ := (t.below b1).open
  have s2 : w1.cell? ⟨q, 1, none⟩ = some (.slice a L.length c) := by rw [cell_of_row _ _ _ _ _ _ r2]; rfl
  have B1 := hid b1
  obtain ⟨n, hn⟩ : ∃ n, L.length = n := ⟨_, rfl⟩
  rw [hn] at s2 ⊢
  obtain ⟨d, hc⟩ : ∃ c, spB n b e = c := ⟨_, rfl⟩
  rw [hc]
  unfold spB at hc
  have HC := hid hc
  clear t b1 r1 hc r2 o1 n1 hA
  have fin : Below w.heap.size w w1.drew := B1.out.drew
  by_cases h0 : 0 ≤ b
  · have y0 : decide (0 ≤ b) = true := decide_eq_true h0
    have y0' : decide (b ≥ 0) = true := decide_eq_true h0
    by_cases h1 : b ≤ e
    · have y1 : decide (b ≤ e) = true := decide_eq_true h1
      have c3 : decide (e ≤ (n : Int)) = d := by rw [← HC.out]; exact decide_eq_decide.2 ⟨fun x => ⟨h0, h1, x⟩, fun x => x.2.2⟩
      clear h0 h1
      go_enter Tryd.func88, Tryd.ntmps88
      go_wp2
      go_quiet (fail)
      go_wp2
      go_ret
      exact ⟨by rw [← c3]; rfl, ⟨B1.out.os, B1.out.tape, B1.out.output, B1.out.size, B1.out.block⟩⟩
    · have c3 : d = false := by rw [← HC.out]; exact decide_eq_false fun x => h1 x.2.1
      subst c3
      have y1 : decide (b ≤ e) = false := decide_eq_false h1
      clear h0 h1 HC
      go_enter Tryd.func88, Tryd.ntmps88
      go_wp2
      go_quiet (fail)
      go_wp2
      go_ret
      exact ⟨rfl, ⟨B1.out.os, B1.out.tape, B1.out.output, B1.out.size, B1.out.block⟩⟩
  · have c3 : d = false := by rw [← HC.out]; exact decide_eq_false fun x => h0 x.1
    subst c3
    have y0 : decide (0 ≤ b) = false := decide_eq_false h0
    clear h0 HC
    go_enter Tryd.func88, Tryd.ntmps88
    go_wp2
    go_quiet (fail)
    go_wp2
    go_ret
    exact ⟨rfl, ⟨B1.out.os, B1.out.tape, B1.out.output, B1.out.size, B1.out.block⟩⟩
end Go.Proofs.YtfddkmkibfmmgaaDoor

namespace Go.Proofs.YtfddkmkibfmmgaaDoor
open Go.RowKit
/-- T3: the hash of a complete subtree -/
def hashO (L : List (List UInt8)) (l i : Int) : List UInt8 × Int := if 0 ≤ l ∧ 0 ≤ i ∧ (i.toNat + 1) * 2 ^ l.toNat ≤ L.length then (Til.hs L l.toNat i.toNat, 0) else ([], 72)
theorem pow31 {l : Nat} (h : 30 < l) : 2147483648 ≤ 2 ^ l := by
  have : 2 ^ 31 ≤ 2 ^ l := Nat.pow_le_pow_right (by omega) h
  omega
theorem big_not {L : List (List UInt8)} (h20 : L.length ≤ 1048576) {l i : Int} (hb : l < 0 ∨ 30 < l ∨ i < 0 ∨ 1048576 < i) : ¬ (0 ≤ l ∧ 0 ≤ i ∧ (i.toNat + 1) * 2 ^ l.toNat ≤ L.length) := by
  rintro ⟨h1, h2, h3⟩
  have hp := Nat.two_pow_pos l.toNat
  have k1 : i.toNat + 1 ≤ (i.toNat + 1) * 2 ^ l.toNat := Nat.le_mul_of_pos_right _ hp
  have k2 : 2 ^ l.toNat ≤ (i.toNat + 1) * 2 ^ l.toNat := Nat.le_mul_of_pos_left _ (by omega)
  rcases hb with hb | hb | hb | hb
  · omega
  · have := pow31 (l := l.toNat) (by omega); omega
  · omega
  · omega
theorem At.sg {w : World} {x : Addr} {L : List (List UInt8)} (h : At w (some x) L) (b e : Nat) : At w (some (x.add b)) (Til.sg L b e) := (h.take e).drop b
set_option maxRecDepth 100000 in
set_option maxHeartbeats 2000000 in
theorem rHash_any {w : World} {q h : Nat} {L : List (List UInt8)} {F : Nat → Prop} (t : RtL w q h L F) (l i : Int) {x : List UInt8} {z : Int} (hx : Hid (hashO L l i = (x, z))) :
    Calls Tryd.prog 71 #[.pointer (some ⟨q, 0, none⟩), .agg #[.int .i64 l, .int .i64 i]] w fun r w' => r = .returned (.tuple #[sv x, .int .i64 z]) ∧ Below w.heap.size w w' := by
  obtain ⟨w1, hw1⟩ : ∃ w1, w.alloc (.cells #[Value.int .i64 l, .int .i64 i] 31) = w1 := ⟨_, rfl⟩
  have b1 := (Below.refl w.heap.size w).alloc (Nat.le_refl _) (.cells #[Value.int .i64 l, .int .i64 i] 31)
  have r1 := heap_alloc_new w (.cells #[Value.int .i64 l, .int .i64 i] 31)
  rw [hw1] at b1 r1
  have c0 : w1.cell? ⟨w.heap.size, 0, none⟩ = some (.int .i64 l) := by rw [cell_of_row _ _ _ _ _ _ r1]; rfl
  have c1 : w1.cell? ⟨w.heap.size, 1, none⟩ = some (.int .i64 i) := by rw [cell_of_row _ _ _ _ _ _ r1]; rfl
  have T1 := t.below b1
  have B1 := hid b1
  have hxo := hx.out
  unfold hashO at hxo
  by_cases hb : l < 0 ∨ 30 < l ∨ i < 0 ∨ 1048576 < i
  · rw [if_neg (big_not t.n20 hb)] at hxo
    injection hxo with e1 e2
    subst e1 e2
    have i1 := rcomplete_bad q l i hb w1
    clear t T1 b1 r1 hb hx
    go_enter Tryd.func71, Tryd.ntmps71
    go_wp2_with (go_at_call 86; refine i1.mono ?_; rintro r w2 ⟨rfl, rfl⟩)
    go_ret2
    exact ⟨rfl, B1.out⟩
  · obtain ⟨l', rfl⟩ : ∃ l' : Nat, l = (l' : Int) := ⟨l.toNat, by omega⟩
    obtain ⟨i', rfl⟩ : ∃ i' : Nat, i = (i' : Int) := ⟨i.toNat, by omega⟩
    rw [Int.toNat_natCast, Int.toNat_natCast] at hxo
    have i1 := rcomplete_ok T1 l' i' (by omega) (by omega)
    by_cases hd : (i' + 1) * 2 ^ l' ≤ L.length
    · rw [if_pos ⟨by omega, by omega, hd⟩] at hxo
      injection hxo with e1 e2
      subst e2
      rw [decide_eq_true hd] at i1
      have hp := Nat.two_pow_pos l'
      have hbe : i' * 2 ^ l' < (i' + 1) * 2 ^ l' := by rw [Nat.add_mul, Nat.one_mul]; omega
      unfold Til.hs at e1
      have n20 := t.n20
      obtain ⟨a, c, r2, _, _, _, hA, hLc, hc9⟩ := T1.open
      obtain ⟨y, rfl⟩ := hA.pos (by omega)
      have hlen := Til.sg_len (L := L) (b := i' * 2 ^ l') hd
      have c2 : w1.cell? ⟨q, 1, none⟩ = some (.slice (some y) L.length c) := by rw [cell_of_row _ _ _ _ _ _ r2]; rfl
      have hqlt := lt_of_heap r2
      have i2 := fun w' (bb : Below w1.heap.size w1 w') => hash7_any _ (Til.sg L (i' * 2 ^ l') ((i' + 1) * 2 ^ l')) (some (y.add (i' * 2 ^ l'))) (c - i' * 2 ^ l') w' (Nat.le_refl _) (by omega) (by omega) (by omega) (Til.sg_hs t.hs _ _) ((hA.sg _ _).below bb (Nat.le_refl _))
      rw [hlen, e1] at i2
      clear hA r2 t T1 b1 r1 hb hx hlen e1 hp
      generalize i' * 2 ^ l' = b at *
      generalize (i' + 1) * 2 ^ l' = e at *
      generalize L.length = n at *
      have m0 : (0 : Int) ≤ (b : Int) := by omega
      have m1 : (b : Int) ≤ (e : Int) := by omega
      have m2 : (e : Int) ≤ (c : Int) := by omega
      have hne : ¬ c = b := by omega
      go_enter Tryd.func71, Tryd.ntmps71
      go_wp2_with (go_at_call 86; fail)
      refine i1.mono ?_
      rintro r w2 ⟨rfl, hw2⟩
      have d2 := (hw2.cell (p := ⟨q, 1, none⟩) hqlt).trans c2
      have i3 := i2 w2 hw2
      clear i1 i2 c0 c1 c2
      go_wp2_with (go_at_call 87; refine i3.mono ?_; rintro r w3 ⟨rfl, hw3⟩)
      go_ret2
      exact ⟨rfl, B1.out.trans ((hw2.trans (hw3.mono hw2.size)).mono B1.out.size)⟩
    · rw [if_neg (fun x => hd x.2.2)] at hxo
      injection hxo with e1 e2
      subst e1 e2
      rw [decide_eq_false hd] at i1
      clear t T1 b1 r1 hb hx hd
      generalize i' * 2 ^ l' = b at *
      generalize (i' + 1) * 2 ^ l' = e at *
      go_enter Tryd.func71, Tryd.ntmps71
      go_wp2_with (go_at_call 86; refine i1.mono ?_; rintro r w2 ⟨rfl, hw2⟩)
      go_ret2
      exact ⟨rfl, B1.out.trans (hw2.mono B1.out.size)⟩
end Go.Proofs.YtfddkmkibfmmgaaDoor
