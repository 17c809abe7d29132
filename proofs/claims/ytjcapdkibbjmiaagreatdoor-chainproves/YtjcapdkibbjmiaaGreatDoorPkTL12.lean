import Derived.Test.YtjcapdkibbjmiaaGreatDoorPkTL6
import Derived.Carry
import Derived.Maps.RangeRun
import Derived.Maps.Range
import Derived.Test.YtjcapdkibbjmiaaGreatDoorPkO3
import Derived.Test.YtjcapdkibbjmiaaGreatDoorPkSP28
import Derived.Deep.CutRange
namespace Go.Proofs.YtjcapdkibbjmiaaGreatDoor
open Go.RowKit
structure TrL (w : World) (q h : Nat) (L : List (List UInt8)) (F : Nat → Prop) : Prop where
  ex : ∃ b es, Tr w q b h L.length es (Til.rf L h (Til.cn L.length)) ∧ F = Fb q b es
  hs : Tree.Hs L
  h1 : 1 ≤ h
  h8 : h ≤ 8
  low : ∀ k, F k → 4 ≤ k
  n20 : L.length ≤ 1048576
theorem TrL.keep {w w' : World} {q h : Nat} {L : List (List UInt8)} {F S : Nat → Prop} (t : TrL w q h L F) (hk : Keep S w w') (hd : ∀ k, F k → ¬ S k) : TrL w' q h L F := by
  obtain ⟨⟨b, es, t1, rfl⟩, h2, h3, h4, h5, h6⟩ := t
  exact ⟨⟨b, es, t1.keep hk hd, rfl⟩, h2, h3, h4, h5, h6⟩
theorem TrL.below {w w' : World} {q h : Nat} {L : List (List UInt8)} {F : Nat → Prop} (t : TrL w q h L F) (hb : Below w.heap.size w w') : TrL w' q h L F := by
  obtain ⟨⟨b, es, t1, rfl⟩, h2, h3, h4, h5, h6⟩ := t
  exact ⟨⟨b, es, t1.below hb, rfl⟩, h2, h3, h4, h5, h6⟩
theorem TrL.lt {w : World} {q h : Nat} {L : List (List UInt8)} {F : Nat → Prop} (t : TrL w q h L F) : ∀ k, F k → k < w.heap.size := by
  obtain ⟨⟨b, es, t1, rfl⟩, h2, h3, h4, h5, h6⟩ := t
  exact t1.lt
theorem TrL.mov {w w' : World} {q h : Nat} {L : List (List UInt8)} {F G G' : Nat → Prop} (t : TrL w q h L F) (hm : Mov G w w' G') (hd : ∀ k, F k → ¬ G k) : TrL w' q h L F ∧ ∀ k, F k → ¬ G' k :=
  ⟨t.keep hm.keep hd, fun k hk e => by
    rcases hm.new k e with e | e
    · exact hd k hk e
    · have := t.lt k hk; omega⟩
theorem tSizeL {w : World} {q h : Nat} {L : List (List UInt8)} {F : Nat → Prop} (t : TrL w q h L F) : Calls Tryz.prog 54 #[.pointer (some ⟨q, 0, none⟩)] w fun r w' => r = .returned (.int .i64 (L.length : Int)) ∧ w' = w := by
  obtain ⟨⟨b, es, t1, rfl⟩, h2, h3, h4, h5, h6⟩ := t
  exact tSize_any t1
theorem tHeightL {w : World} {q h : Nat} {L : List (List UInt8)} {F : Nat → Prop} (t : TrL w q h L F) : Calls Tryz.prog 34 #[.pointer (some ⟨q, 0, none⟩)] w fun r w' => r = .returned (.int .i64 (h : Int)) ∧ w' = w := by
  obtain ⟨⟨b, es, t1, rfl⟩, h2, h3, h4, h5, h6⟩ := t
  exact tHeight_any t1
set_option maxRecDepth 100000 in
theorem tNew_any (h : Nat) (h1 : 1 ≤ h) (h8 : h ≤ 8) (w : World) (hT : 4 ≤ w.heap.size) : Calls Tryz.prog 24 #[.int .i64 (h : Int)] w fun r w' => ∃ q F, r = .returned (.tuple #[.pointer (some ⟨q, 0, none⟩), .int .i64 0]) ∧ TrL w' q h [] F ∧ (∀ k, F k → w.heap.size ≤ k) ∧ Below w.heap.size w w' := by
  have c0 : ¬ (h : Int) < 1 := by omega
  have c1 : ¬ (h : Int) > 8 := by omega
  have c2 : ¬ 8 < (h : Int) := by omega
  have hmm := @run_makeMap Tryz.prog
  go_enter Tryz.func24, Tryz.ntmps24
  go_wp2
  go_ret2
  have b1 := (Below.refl w.heap.size w).alloc (Nat.le_refl _) (.map #[] 0)
  have z1 := size_alloc w (.map #[] 0)
  have b2 := (Below.refl (w.heap.size + 1) (w.alloc (.map #[] 0))).alloc (by omega) (.cells #[Value.int .i64 (h : Int), .int .i64 0, .map (some w.heap.size)] 74)
  have r2 := heap_alloc_at (w.alloc (.map #[] 0)) (.cells #[Value.int .i64 (h : Int), .int .i64 0, .map (some w.heap.size)] 74) (w.heap.size + 1) z1
  have hF : ∀ k, Fb (w.heap.size + 1) w.heap.size [] k → w.heap.size ≤ k := fun k hk => by
    rcases hk with hk | hk | ⟨p, v, hm, _⟩
    · omega
    · omega
    · cases hm
  refine ⟨w.heap.size + 1, rfl, _, ⟨⟨w.heap.size, [], ⟨r2, (Mp.new w).heap (b2.block _ (by omega)), by omega, fun p v hm => (by cases hm), fun p _ => ?_, fun p v p' v' k hm => (by cases hm)⟩, rfl⟩, fun x hx => (by cases hx), h1, h8, fun k hk => Nat.le_trans hT (hF k hk), by simp⟩, hF, b1.trans (b2.mono (by omega))⟩
  unfold Til.rf
  split
  · apply List.eq_nil_of_length_eq_zero
    rw [Til.row_len]
    simp [Til.cn]
  · rfl
set_option maxRecDepth 100000 in
set_option maxHeartbeats 1000000 in
theorem tAdd_any {w : World} {q h : Nat} {L : List (List UInt8)} {F : Nat → Prop} (t : TrL w q h L F) (x : List UInt8) (hx : x.length = 32) (hn : L.length < 1048576) (Z : Tb w) : Calls Tryz.prog 12 #[.pointer (some ⟨q, 0, none⟩), sv x] w fun r w' => r = .returned (.int .i64 0) ∧ ∃ F', TrL w' q h (L ++ [x]) F' ∧ Mov F w w' F' := by
  have hs := sv_size x
  have c0 : (((ByteArray.mk x.toArray).size : Int) != 32) = false := by rw [hs, hx]; rfl
  have hsx : Tree.Hs (L ++ [x]) := fun y hy => by
    rcases List.mem_append.1 hy with hy | hy
    · exact t.hs y hy
    · rw [List.mem_singleton.1 hy]; exact hx
  have i1 := tHeightL t
  obtain ⟨⟨b, es, t1, rfl⟩, _, g1, g8, glow, _⟩ := t
  have G := tgrow_any t1 rfl (by omega) g8 x Z glow
  have q1 := t1.c1
  obtain ⟨n, hL⟩ : ∃ n, L.length = n := ⟨_, rfl⟩
  rw [hL] at hn G q1
  have c1 : ((h : Int) == 0) = false := by simp; omega
  have c2 : ((n : Int) == 1048576) = false := by simp; omega
  have hT := Z.lt
  clear t1 Z hs
  rw [show sv x = Value.string ⟨x.toArray⟩ from rfl] at G ⊢
  go_enter Tryz.func12, Tryz.ntmps12
  go_wp2_with (first
    | (go_at_call 34; refine i1.mono ?_; rintro r w1 ⟨rfl, rfl⟩)
    | (go_at_call 35; refine G.mono ?_; rintro r w2 ⟨rfl, es2, t2, m2⟩))
  go_ret
  refine ⟨rfl, _, ⟨⟨b, es2, ?_, rfl⟩, hsx, g1, g8, (m2.below hT glow).2, ?_⟩, m2⟩
  · have e : (L ++ [x]).length = n + 1 := by rw [List.length_append, hL]; rfl
    rw [e]; exact t2
  · rw [List.length_append, hL]; simp; omega
end Go.Proofs.YtjcapdkibbjmiaaGreatDoor

namespace Go.Proofs.YtjcapdkibbjmiaaGreatDoor
open Go.RowKit
set_option maxRecDepth 100000 in
set_option maxHeartbeats 2000000 in
theorem perfect_any {q h : Nat} {L : List (List UInt8)} {F : Nat → Prop} : ∀ (l : Nat) (w : World) (_ : TrL w q h L F) (b0 : Nat) (_ : l ≤ 40) (_ : b0 + 2 ^ l ≤ L.length) (_ : Tb w),
    Calls Tryz.prog 110 #[.pointer (some ⟨q, 0, none⟩), .int .i64 (b0 : Int), .int .i64 (l : Int)] w fun r w' => r = .returned (sv (Tree.root (Til.sg L b0 (b0 + 2 ^ l)))) ∧ Below w.heap.size w w' := by
  intro l
  induction l with
  | zero =>
    intro w t b0 hl hb Z
    have c0 := low_i64 b0 0 1 (by have := t.n20; omega) (by omega) rfl
    rw [Nat.mod_one] at c0
    obtain ⟨⟨b, es, t1, rfl⟩, _, _, g8, _, n20⟩ := t
    have i1 := thash_any t1 g8 0 b0 (by omega) (by omega) (x := Til.hs L 0 b0) (by rw [Til.rf_nat, Til.row_at (by unfold Til.cn; rw [Nat.pow_zero, Nat.div_one]; omega)])
    have e1 : Til.hs L 0 b0 = Tree.root (Til.sg L b0 (b0 + 2 ^ 0)) := by unfold Til.hs; rw [Nat.pow_zero, Nat.mul_one, Nat.mul_one]
    rw [e1] at i1
    generalize Tree.root (Til.sg L b0 (b0 + 2 ^ 0)) = R at *
    have c1 : ((1 : Nat) : Int) - 1 = 0 := rfl
    rw [c1] at c0
    rw [show ((0 : Nat) : Int) = 0 from rfl] at *
    have c2 : IntKind.i64.wrap 1 = 1 := by decide
    have c3 : IntKind.i64.wrap 0 = 0 := by decide
    clear t1
    go_enter Tryz.func110, Tryz.ntmps110
    go_wp2_with (go_at_call 64; refine i1.mono ?_; rintro r w2 ⟨rfl, hw2⟩)
    go_ret
    exact ⟨rfl, hw2⟩
  | succ l ih =>
    intro w t b0 hl hb Z
    obtain ⟨P, hP⟩ : ∃ P, P = 2 ^ (l + 1) := ⟨_, rfl⟩
    obtain ⟨Q, hQ⟩ : ∃ Q, Q = 2 ^ l := ⟨_, rfl⟩
    have hPQ : P = 2 * Q := by rw [hP, hQ, Nat.pow_succ]; omega
    have hq0 : 0 < Q := by rw [hQ]; exact Nat.two_pow_pos l
    have n20 := t.n20
    have hb' := hb
    rw [← hP] at hb'
    have s0 : (2 : Int) ^ (l + 1) = (P : Int) := by rw [hP]; simp
    have s1 : (2 : Int) ^ l = (Q : Int) := by rw [hQ]; simp
    have s2 : IntKind.i64.wrap (P : Int) = (P : Int) := wrap_small _ (by omega) (by omega)
    have s3 : IntKind.i64.wrap ((P : Int) - 1) = (P : Int) - 1 := wrap_small _ (by omega) (by omega)
    have s4 := low_i64 b0 (l + 1) P (by omega) (by omega) hP
    have s5 : IntKind.i64.wrap (Q : Int) = (Q : Int) := wrap_small _ (by omega) (by omega)
    obtain ⟨b2, hb2⟩ : ∃ b2 : Nat, b0 + Q = b2 := ⟨_, rfl⟩
    have s6 : IntKind.i64.wrap ((b0 : Int) + (Q : Int)) = (b2 : Int) := by rw [wrap_small _ (by omega) (by omega)]; omega
    obtain ⟨l1, hl1⟩ : ∃ l1 : Nat, l + 1 = l1 := ⟨_, rfl⟩
    have s7 : IntKind.i64.wrap ((l1 : Int) - 1) = (l : Int) := by rw [wrap_small _ (by omega) (by omega)]; omega
    have k0 : (0 : Int) ≤ (l1 : Int) := by omega
    have k1 : (l1 : Int) ≤ 64 := by omega
    have k2 : (0 : Int) ≤ (l : Int) := by omega
    have k3 : (l : Int) ≤ 64 := by omega
    by_cases ha : b0 % P = 0
    · have e1 : Til.hs L (l + 1) (b0 / P) = Tree.root (Til.sg L b0 (b0 + 2 ^ (l + 1))) := by
        have h1 : b0 / P * P = b0 := by have := Nat.div_add_mod b0 P; rw [ha, Nat.add_zero, Nat.mul_comm] at this; exact this
        unfold Til.hs
        rw [← hP, Nat.add_mul, Nat.one_mul, h1]
      have hlt : b0 / P < Til.cn L.length (l + 1) := by
        unfold Til.cn
        rw [← hP, Nat.lt_div_iff_mul_lt (by omega)]
        have h1 : b0 / P * P = b0 := by have := Nat.div_add_mod b0 P; rw [ha, Nat.add_zero, Nat.mul_comm] at this; exact this
        rw [h1]; omega
      have hle := Nat.div_le_self b0 P
      obtain ⟨⟨b, es, t1, rfl⟩, _, _, g8, _, _⟩ := t
      have i1 := thash_any t1 g8 (l + 1) (b0 / P) (by omega) (by omega) (x := Til.hs L (l + 1) (b0 / P)) (by rw [Til.rf_nat, Til.row_at hlt])
      rw [e1] at i1
      have s8 : (b0 : Int) / (P : Int) = ((b0 / P : Nat) : Int) := by simp
      generalize Tree.root (Til.sg L b0 (b0 + 2 ^ (l + 1))) = R at *
      generalize b0 / P = b1 at *
      rw [ha] at s4
      rw [show ((0 : Nat) : Int) = 0 from rfl] at s4
      rw [hl1] at i1 s0 ⊢
      clear t1 Z ih hb2 hP hQ hPQ hb hb' hl1 hlt hle hq0 ha e1 s1 s5 s6 s7 hl n20 k2 k3
      go_enter Tryz.func110, Tryz.ntmps110
      go_wp2_with (go_at_call 64; refine i1.mono ?_; rintro r w2 ⟨rfl, hw2⟩)
      go_ret
      exact ⟨rfl, hw2⟩
    · have e1 := Til.root_two (L := L) (b := b0) (e := b0 + 2 ^ (l + 1)) (a := l) (by omega) (by rw [← hP, ← hQ]; omega) (by rw [← hP, ← hQ]; omega)
      have J1 := fun w' (bb : Below w.heap.size w w') => ih w' (t.below bb) b0 (by omega) (by rw [← hQ]; omega) (Z.below bb Z.lt)
      have J2 := fun w' (bb : Below w.heap.size w w') => ih w' (t.below bb) (b0 + Q) (by omega) (by rw [← hQ]; omega) (Z.below bb Z.lt)
      have e2 : b0 + Q + 2 ^ l = b0 + 2 ^ (l + 1) := by rw [← hP, ← hQ]; omega
      rw [e2] at J2
      rw [← hQ] at J1 e1
      obtain ⟨x, hx⟩ : ∃ x, Tree.root (Til.sg L b0 (b0 + Q)) = x := ⟨_, rfl⟩
      obtain ⟨y, hy⟩ : ∃ y, Tree.root (Til.sg L (b0 + Q) (b0 + 2 ^ (l + 1))) = y := ⟨_, rfl⟩
      rw [hx] at J1 e1
      rw [hy] at J2 e1
      rw [hb2] at J2
      generalize Tree.root (Til.sg L b0 (b0 + 2 ^ (l + 1))) = R at *
      have hnd : Hid (Tree.nd x y = R) := hid e1.symm
      have s9 : ((b0 % P : Nat) : Int) ≠ 0 := by omega
      generalize ((b0 % P : Nat) : Int) = rm at *
      have s10 : (rm == 0) = false := by simpa using s9
      have JN := fun w' (bb : Below w.heap.size w w') => tnode_any hnd w' (Z.below bb Z.lt).t
      have hd : Hid (Below w.heap.size w w.drew) := hid (Below.refl _ w).drew
      rw [hl1] at s0 ⊢
      clear t Z ih e1 hx hy e2 hb2 hP hQ hPQ hb hb' hl1 hq0 ha hl n20 s9
      go_enter Tryz.func110, Tryz.ntmps110
      go_wp2
      go_region_held3 (fun _ => True) (trivial) (first
        | (go_at_call 110; (with_reducible refine (J1 _ hd.out).mono ?_); rintro r w9 ⟨rfl, hw9⟩; have h9 := hid (hd.out.trans (hw9.mono hd.out.size)))
        | (go_at_call 110; (with_reducible refine (J2 _ h9.out).mono ?_); rintro r w10 ⟨rfl, hw10⟩; have h10 := hid (h9.out.trans (hw10.mono h9.out.size)))
        | (go_at_call 65; (with_reducible refine (JN _ h10.out).mono ?_); rintro r w11 ⟨rfl, hw11⟩; have h11 := hid (h10.out.trans (hw11.mono h10.out.size))))
      all_goals go_wp2
      all_goals go_ret
      all_goals exact ⟨rfl, h11.out⟩
end Go.Proofs.YtjcapdkibbjmiaaGreatDoor

namespace Go.Proofs.YtjcapdkibbjmiaaGreatDoor
open Go.RowKit
theorem mod_up (n k : Nat) : n % 2 ^ (k + 1) = n % 2 ^ k + 2 ^ k * (n / 2 ^ k % 2) := Nat.mod_pow_succ
set_option maxRecDepth 100000 in
set_option maxHeartbeats 4000000 in
theorem tpart_any {w : World} {q h : Nat} {L : List (List UInt8)} {F : Nat → Prop} (t : TrL w q h L F) (b e : Nat) (hb : b < e) (he : e ≤ L.length) (Z : Tb w) :
    Calls Tryz.prog 83 #[.pointer (some ⟨q, 0, none⟩), .agg #[.int .i64 (b : Int), .int .i64 (e : Int)]] w fun r w' => r = .returned (sv (Tree.root (Til.sg L b e))) ∧ Below w.heap.size w w' := by
  obtain ⟨w1, hw1⟩ : ∃ w1, w.alloc (.cells #[Value.int .i64 (b : Int), .int .i64 (e : Int)] 60) = w1 := ⟨_, rfl⟩
  have b1 := (Below.refl w.heap.size w).alloc (Nat.le_refl _) (.cells #[Value.int .i64 (b : Int), .int .i64 (e : Int)] 60)
  have r1 := heap_alloc_new w (.cells #[Value.int .i64 (b : Int), .int .i64 (e : Int)] 60)
  rw [hw1] at b1 r1
  have S0 : w1.cell? ⟨w.heap.size, 0, none⟩ = some (.int .i64 (b : Int)) ∧ w1.cell? ⟨w.heap.size, 1, none⟩ = some (.int .i64 (e : Int)) := ⟨by rw [cell_of_row _ _ _ _ _ _ r1]; rfl, by rw [cell_of_row _ _ _ _ _ _ r1]; rfl⟩
  have C1 := hid S0.2
  have hlt : w.heap.size < w1.heap.size := lt_of_heap r1
  have T1 := hid (t.below b1)
  have Z1 := hid (Z.below b1 Z.lt)
  have B1 := hid b1
  have n20 := t.n20
  obtain ⟨n, hn⟩ : ∃ n : Nat, e - b = n := ⟨_, rfl⟩
  have e0 : IntKind.i64.wrap ((e : Int) - (b : Int)) = (n : Int) := by rw [wrap_small _ (by omega) (by omega)]; omega
  have e1 : IntKind.u64.wrap (n : Int) = (n : Int) := by rw [IntKind.wrap_u64]; omega
  obtain ⟨c, hc⟩ : ∃ c, n.log2 = c := ⟨_, rfl⟩
  have len := fun w' => lenU_nat n c (by omega) (by omega) hc w'
  have hcn : n < 2 ^ (c + 1) := by rw [← hc]; exact Nat.lt_log2_self
  have hc20 : c ≤ 20 := by
    have h2 : 2 ^ c ≤ n := by rw [← hc]; exact Nat.log2_self_le (by omega)
    have h3 : 2 ^ c < 2 ^ 21 := by omega
    have := (Nat.pow_lt_pow_iff_right (a := 2) (by omega)).1 h3
    omega
  obtain ⟨c1, hc1⟩ : ∃ c1 : Nat, c + 1 = c1 := ⟨_, rfl⟩
  have e2 : (c : Int) + 1 = (c1 : Int) := by omega
  have hc21 : c1 ≤ 21 := by omega
  rw [e2] at len
  have HCN : Hid (n % 2 ^ c1 = n) := by unfold Hid; rw [← hc1]; exact Nat.mod_eq_of_lt hcn
  have HN := hid hn
  clear t Z b1 r1 hc hcn e2
  go_enter Tryz.func83, Tryz.ntmps83
  go_wp2
  go_region_held3 (fun w' => w'.cell? ⟨w.heap.size, 0, none⟩ = some (.int .i64 (b : Int)) ∧ w'.cell? ⟨w.heap.size, 1, none⟩ = some (.int .i64 (e : Int))) (exact S0) (fail)
  clear S0
  go_wp2_with (go_at_call 109; refine (len _).mono ?_; rintro r w9 ⟨rfl, rfl⟩)
  obtain ⟨w2, hw2⟩ : ∃ w2, w1.drew = w2 := ⟨_, rfl⟩
  rw [hw2]
  have b2 := (Below.refl w1.heap.size w1).drew
  rw [hw2] at b2
  have T2 := hid (T1.out.below b2)
  have Z2 := hid (Z1.out.below b2 Z1.out.lt)
  have B2 := hid (B1.out.trans (b2.mono B1.out.size))
  have C2 := hid ((b2.cell (p := ⟨w.heap.size, 1, none⟩) hlt).trans C1.out)
  have hlt2 : w.heap.size < w2.heap.size := Nat.lt_of_lt_of_le hlt b2.size
  clear hw2 b2 T1 Z1 B1 C1 hlt len e0 e1 hc1
  go_loopw [21, 7, 6] (fun i hv ev w' => ∃ (k E : Nat) (x : List UInt8), i = .int .i64 (k : Int) ∧ k ≤ c1 ∧ hv = sv x ∧ ev = .int .i64 (E : Int) ∧ Hid (E + n % 2 ^ k = e) ∧ Hid (n % 2 ^ k ≠ 0 → Tree.root (Til.sg L E e) = x) ∧ Hid (Below w2.heap.size w2 w')) (fun i _ _ _ => c1 - (intOf i).toNat)
  case atStart => exact ⟨0, e, [], rfl, by omega, rfl, rfl, by unfold Hid; rw [Nat.pow_zero, Nat.mod_one]; rfl, fun h => absurd (by rw [Nat.pow_zero, Nat.mod_one]) h, hid (Below.refl _ _)⟩
  case round =>
    obtain ⟨k, E, x, rfl, hk, rfl, rfl, hE, hx, hB⟩ := hrel
    by_cases hkc : k < c1
    · have c0 : (k : Int) < (c1 : Int) := by omega
      have k0 : (0 : Int) ≤ (k : Int) := by omega
      have k1 : (k : Int) ≤ 64 := by omega
      have bt := bit_is (b := n) (k := k) (by have := HN.out; omega)
      have mu := mod_up n k
      have cE := (hB.out.cell (p := ⟨w.heap.size, 1, none⟩) hlt2).trans C2.out
      have hk1 : IntKind.i64.wrap ((k : Int) + 1) = ((k + 1 : Nat) : Int) := by rw [wrap_small _ (by omega) (by omega)]; omega
      by_cases hbit : n / 2 ^ k % 2 = 0
      · rw [hbit, show ((0 : Nat) : Int) = 0 from rfl] at bt
        rw [hbit, Nat.mul_zero, Nat.add_zero] at mu
        have hE' : Hid (E + n % 2 ^ (k + 1) = e) := by unfold Hid; rw [mu]; exact hE.out
        have hx' : Hid (n % 2 ^ (k + 1) ≠ 0 → Tree.root (Til.sg L E e) = x) := by unfold Hid; rw [mu]; exact hx.out
        clear mu hbit hE hx
        go_wp2
        exact ⟨⟨k + 1, E, x, by go_num, by omega, rfl, rfl, hE', hx', hB⟩, by simp [intOf]; omega⟩
      · have hb1 : n / 2 ^ k % 2 = 1 := by omega
        rw [hb1, show ((1 : Nat) : Int) = 1 from rfl] at bt
        rw [hb1, Nat.mul_one] at mu
        obtain ⟨P, hP⟩ : ∃ P, P = 2 ^ k := ⟨_, rfl⟩
        rw [← hP] at mu
        have hml : n % 2 ^ (k + 1) ≤ n := Nat.mod_le _ _
        have hp0 : 0 < P := by rw [hP]; exact Nat.two_pow_pos k
        have hmP : n % P < P := Nat.mod_lt _ hp0
        have hEo := hE.out
        rw [← hP] at hEo
        have hno := HN.out
        obtain ⟨G, hG⟩ : ∃ G : Nat, G + P = E := ⟨E - P, by omega⟩
        have s1 : (2 : Int) ^ k = (P : Int) := by rw [hP]; simp
        rw [s1] at bt
        have s2 : IntKind.i64.wrap (P : Int) = (P : Int) := wrap_small _ (by omega) (by omega)
        have s3 : IntKind.i64.wrap ((E : Int) - (P : Int)) = (G : Int) := by rw [wrap_small _ (by omega) (by omega)]; omega
        have PF := perfect_any k wr (T2.out.below hB.out) G (by omega) (by rw [← hP]; omega) (Z2.out.below hB.out Z2.out.lt)
        rw [← hP, hG] at PF
        have hE' : Hid (G + n % 2 ^ (k + 1) = e) := by unfold Hid; omega
        by_cases hm0 : n % P = 0
        · have q0 : ((E : Int) == (e : Int)) = true := by simp; omega
          have hEe : E = e := by omega
          rw [hEe] at PF
          obtain ⟨y, hy⟩ : ∃ y, Hid (Tree.root (Til.sg L G e) = y) := ⟨_, rfl⟩
          rw [hy.out] at PF
          have hx' : Hid (n % 2 ^ (k + 1) ≠ 0 → Tree.root (Til.sg L G e) = y) := fun _ => hy.out
          clear mu hP hml hp0 hmP hEo hno hG hbit hb1 hE hx hm0 hEe hy
          go_wp2_with (go_at_call 110; fail)
          refine PF.mono ?_
          rintro r w3 ⟨rfl, hw3⟩
          have cE3 := (hw3.cell (p := ⟨w.heap.size, 1, none⟩) (Nat.lt_of_lt_of_le hlt2 hB.out.size)).trans cE
          have B3 := hid (hB.out.trans (hw3.mono hB.out.size))
          clear PF hw3 cE
          go_wp2
          exact ⟨⟨k + 1, G, y, by go_num, by omega, rfl, rfl, hE', hx', B3⟩, by simp [intOf]; omega⟩
        · have q0 : ((E : Int) == (e : Int)) = false := by simp; omega
          have hxo := hx.out (by rw [← hP]; exact hm0)
          obtain ⟨y, hy⟩ : ∃ y, Hid (Tree.nd (Tree.root (Til.sg L G E)) x = y) := ⟨_, rfl⟩
          have rt := Til.root_two (L := L) (b := G) (e := e) (a := k) he (by rw [← hP]; omega) (by rw [← hP]; omega)
          rw [← hP, hG, hxo, hy.out] at rt
          have hx' : Hid (n % 2 ^ (k + 1) ≠ 0 → Tree.root (Til.sg L G e) = y) := fun _ => rt
          obtain ⟨z, hz⟩ : ∃ z, Tree.root (Til.sg L G E) = z := ⟨_, rfl⟩
          rw [hz] at PF hy
          clear mu hP hml hp0 hmP hEo hno hG hbit hb1 hE hx hm0 hxo rt hz
          go_wp2_with (go_at_call 110; fail)
          refine PF.mono ?_
          rintro r w3 ⟨rfl, hw3⟩
          have cE3 := (hw3.cell (p := ⟨w.heap.size, 1, none⟩) (Nat.lt_of_lt_of_le hlt2 hB.out.size)).trans cE
          have B3 := hid (hB.out.trans (hw3.mono hB.out.size))
          have N3 := tnode_any hy w3 (Z2.out.below B3.out Z2.out.lt).t
          clear PF hw3 cE
          go_wp2_with (go_at_call 65; fail)
          refine N3.mono ?_
          rintro r w4 ⟨rfl, hw4⟩
          have B4 := hid (B3.out.trans (hw4.mono B3.out.size))
          clear N3 hw4
          go_wp2
          exact ⟨⟨k + 1, G, y, by go_num, by omega, rfl, rfl, hE', hx', B4⟩, by simp [intOf]; omega⟩
    · obtain rfl : k = c1 := by omega
      have c0 : ¬ (k : Int) < (k : Int) := by omega
      have hEo := hE.out
      rw [HCN.out] at hEo
      have hno := HN.out
      obtain rfl : E = b := by omega
      have hxo := hx.out (by rw [HCN.out]; omega)
      subst hxo
      go_wp2
      go_ret
      exact ⟨rfl, B2.out.trans (hB.out.mono B2.out.size)⟩
end Go.Proofs.YtjcapdkibbjmiaaGreatDoor

namespace Go.Proofs.YtjcapdkibbjmiaaGreatDoor
open Go.RowKit
def spB (n : Nat) (b e : Int) : Bool := decide (0 ≤ b ∧ b ≤ e ∧ e ≤ (n : Int))
set_option maxRecDepth 100000 in
set_option maxHeartbeats 2000000 in
theorem hasSpan_any {w : World} {q h : Nat} {L : List (List UInt8)} {F : Nat → Prop} (t : TrL w q h L F) (b e : Int) :
    Calls Tryz.prog 81 #[.pointer (some ⟨q, 0, none⟩), .agg #[.int .i64 b, .int .i64 e]] w fun r w' => r = .returned (.bool (spB L.length b e)) ∧ Below w.heap.size w w' := by
  obtain ⟨w1, hw1⟩ : ∃ w1, w.alloc (.cells #[Value.int .i64 b, .int .i64 e] 60) = w1 := ⟨_, rfl⟩
  have b1 := (Below.refl w.heap.size w).alloc (Nat.le_refl _) (.cells #[Value.int .i64 b, .int .i64 e] 60)
  have r1 := heap_alloc_new w (.cells #[Value.int .i64 b, .int .i64 e] 60)
  rw [hw1] at b1 r1
  have S0 : w1.cell? ⟨w.heap.size, 0, none⟩ = some (.int .i64 b) ∧ w1.cell? ⟨w.heap.size, 1, none⟩ = some (.int .i64 e) := ⟨by rw [cell_of_row _ _ _ _ _ _ r1]; rfl, by rw [cell_of_row _ _ _ _ _ _ r1]; rfl⟩
  have i1 := tSizeL ((t.below b1).below (Below.refl w1.heap.size w1).drew)
  have B1 := hid b1
  obtain ⟨n, hn⟩ : ∃ n, L.length = n := ⟨_, rfl⟩
  rw [hn] at i1 ⊢
  obtain ⟨c, hc⟩ : ∃ c, spB n b e = c := ⟨_, rfl⟩
  rw [hc]
  unfold spB at hc
  have HC := hid hc
  clear t b1 r1 hc
  by_cases h0 : 0 ≤ b
  · by_cases h1 : b ≤ e
    · have c3 : decide (e ≤ (n : Int)) = c := by rw [← HC.out]; exact decide_eq_decide.2 ⟨fun x => ⟨h0, h1, x⟩, fun x => x.2.2⟩
      go_enter Tryz.func81, Tryz.ntmps81
      go_wp2
      go_region_held3 (fun w' => w'.cell? ⟨w.heap.size, 0, none⟩ = some (.int .i64 b) ∧ w'.cell? ⟨w.heap.size, 1, none⟩ = some (.int .i64 e)) (exact S0) ((go_at_call 54; refine i1.mono ?_; rintro r w9 ⟨rfl, rfl⟩))
      go_wp2
      go_ret
      exact ⟨rfl, B1.out.drew⟩
    · have c3 : c = false := by rw [← HC.out]; exact decide_eq_false fun x => h1 x.2.1
      subst c3
      have y0 : decide (0 ≤ b) = true := decide_eq_true h0
      have y1 : decide (b ≤ e) = false := decide_eq_false h1
      clear h0 h1
      clear HC i1
      go_enter Tryz.func81, Tryz.ntmps81
      obtain ⟨s0, s1⟩ := S0
      go_wp2
      go_quiet (fail)
      go_wp2
      go_ret
      exact ⟨rfl, ⟨B1.out.os, B1.out.tape, B1.out.output, B1.out.size, B1.out.block⟩⟩
  · have c3 : c = false := by rw [← HC.out]; exact decide_eq_false fun x => h0 x.1
    subst c3
    have y0 : decide (0 ≤ b) = false := decide_eq_false h0
    clear h0
    clear HC i1
    go_enter Tryz.func81, Tryz.ntmps81
    obtain ⟨s0, s1⟩ := S0
    go_wp2
    go_quiet (fail)
    go_wp2
    go_ret
    exact ⟨rfl, ⟨B1.out.os, B1.out.tape, B1.out.output, B1.out.size, B1.out.block⟩⟩
def tPartO (L : List (List UInt8)) (b e : Int) : List UInt8 × Int := if spB L.length b e = true then (Tree.root (Til.sg L b.toNat e.toNat), 0) else ([], 73)
set_option maxRecDepth 100000 in
set_option maxHeartbeats 2000000 in
theorem tPart_any {w : World} {q h : Nat} {L : List (List UInt8)} {F : Nat → Prop} (t : TrL w q h L F) (b e : Int) (Z : Tb w) {x : List UInt8} {z : Int} (hx : Hid (tPartO L b e = (x, z))) :
    Calls Tryz.prog 55 #[.pointer (some ⟨q, 0, none⟩), .agg #[.int .i64 b, .int .i64 e]] w fun r w' => r = .returned (.tuple #[sv x, .int .i64 z]) ∧ Below w.heap.size w w' := by
  obtain ⟨w1, hw1⟩ : ∃ w1, w.alloc (.cells #[Value.int .i64 b, .int .i64 e] 60) = w1 := ⟨_, rfl⟩
  have b1 := (Below.refl w.heap.size w).alloc (Nat.le_refl _) (.cells #[Value.int .i64 b, .int .i64 e] 60)
  have r1 := heap_alloc_new w (.cells #[Value.int .i64 b, .int .i64 e] 60)
  rw [hw1] at b1 r1
  have c0 : w1.cell? ⟨w.heap.size, 0, none⟩ = some (.int .i64 b) := by rw [cell_of_row _ _ _ _ _ _ r1]; rfl
  have c1 : w1.cell? ⟨w.heap.size, 1, none⟩ = some (.int .i64 e) := by rw [cell_of_row _ _ _ _ _ _ r1]; rfl
  have T1 := hid (t.below b1)
  have Z1 := hid (Z.below b1 Z.lt)
  have i1 := hasSpan_any T1.out b e
  have B1 := hid b1
  have hlt : w.heap.size < w1.heap.size := lt_of_heap r1
  have hxo := hx.out
  unfold tPartO at hxo
  obtain ⟨c, hc⟩ : ∃ c, spB L.length b e = c := ⟨_, rfl⟩
  rw [hc] at i1 hxo
  clear t Z b1 r1
  cases c
  · rw [if_neg (by simp)] at hxo
    injection hxo with h1 h2
    subst h1 h2
    go_enter Tryz.func55, Tryz.ntmps55
    go_wp2_with (go_at_call 81; refine i1.mono ?_; rintro r w2 ⟨rfl, hw2⟩)
    go_ret2
    exact ⟨rfl, B1.out.trans (hw2.mono B1.out.size)⟩
  · rw [if_pos rfl] at hxo
    injection hxo with h1 h2
    subst h2
    unfold spB at hc
    have hc := of_decide_eq_true hc
    obtain ⟨b', rfl⟩ : ∃ b' : Nat, b = (b' : Int) := ⟨b.toNat, by omega⟩
    obtain ⟨e', rfl⟩ : ∃ e' : Nat, e = (e' : Int) := ⟨e.toNat, by omega⟩
    rw [Int.toNat_natCast, Int.toNat_natCast] at h1
    by_cases hbe : b' = e'
    · subst hbe
      rw [Til.sg_nil, Tree.root_nil] at h1
      have k0 : ((b' : Int) == (b' : Int)) = true := by simp
      have i2 := fun w' (bb : Below w1.heap.size w1 w') => empty_any w' (Z1.out.below bb Z1.out.lt).t
      rw [h1] at i2
      clear hc h1 hx
      go_enter Tryz.func55, Tryz.ntmps55
      go_wp2_with (go_at_call 81; fail)
      refine i1.mono ?_
      rintro r w2 ⟨rfl, hw2⟩
      have d0 := (hw2.cell (p := ⟨w.heap.size, 0, none⟩) hlt).trans c0
      have d1 := (hw2.cell (p := ⟨w.heap.size, 1, none⟩) hlt).trans c1
      clear c0 c1
      go_wp2_with (go_at_call 82; refine (i2 _ hw2).mono ?_; rintro r w3 ⟨rfl, hw3⟩)
      go_ret2
      exact ⟨rfl, B1.out.trans ((hw2.trans (hw3.mono hw2.size)).mono B1.out.size)⟩
    · have k0 : ((b' : Int) == (e' : Int)) = false := by simp; omega
      have i2 := fun w' (bb : Below w1.heap.size w1 w') => tpart_any (T1.out.below bb) b' e' (by omega) (by omega) (Z1.out.below bb Z1.out.lt)
      rw [h1] at i2
      clear hc h1 hx hbe
      go_enter Tryz.func55, Tryz.ntmps55
      go_wp2_with (go_at_call 81; fail)
      refine i1.mono ?_
      rintro r w2 ⟨rfl, hw2⟩
      have d0 := (hw2.cell (p := ⟨w.heap.size, 0, none⟩) hlt).trans c0
      have d1 := (hw2.cell (p := ⟨w.heap.size, 1, none⟩) hlt).trans c1
      clear c0 c1
      go_wp2_with (go_at_call 83; refine (i2 _ hw2).mono ?_; rintro r w3 ⟨rfl, hw3⟩)
      go_ret2
      exact ⟨rfl, B1.out.trans ((hw2.trans (hw3.mono hw2.size)).mono B1.out.size)⟩
theorem tPartO_nat {L : List (List UInt8)} {b e : Nat} (hb : b ≤ e) (he : e ≤ L.length) : tPartO L (b : Int) (e : Int) = (Tree.root (Til.sg L b e), 0) := by
  unfold tPartO spB
  rw [if_pos (decide_eq_true ⟨by omega, by omega, by omega⟩), Int.toNat_natCast, Int.toNat_natCast]
end Go.Proofs.YtjcapdkibbjmiaaGreatDoor

namespace Go.Proofs.YtjcapdkibbjmiaaGreatDoor
open Go.RowKit
set_option maxRecDepth 100000 in
set_option maxHeartbeats 1000000 in
theorem rnode7_any {l r m : List UInt8} (hl : l.length = 32) (hr : r.length = 32) (h : Hid (Tree.nd l r = m)) (w : World) :
    Calls Tryz.prog 99 #[sv l, sv r] w fun e w' => e = .returned (sv m) ∧ Below w.heap.size w w' := by
  have hm := h.out
  unfold Tree.nd at hm
  rw [if_pos ⟨hl, hr⟩] at hm
  obtain ⟨L, hL⟩ : ∃ L : ByteArray, ByteArray.mk l.toArray = L := ⟨_, rfl⟩
  obtain ⟨R, hR⟩ : ∃ R : ByteArray, ByteArray.mk r.toArray = R := ⟨_, rfl⟩
  have sL : L.size = 32 := by rw [← hL, sv_size, hl]
  have sR : R.size = 32 := by rw [← hR, sv_size, hr]
  have z1 : ({ data := #[1] } ++ L : ByteArray).size = 33 := by rw [app_size, sL]; rfl
  have z2 := joined_size L R sL sR
  have i1 := rsum_at ({ data := #[1] } ++ L ++ R) m (by rw [z2]; omega) (hid (by rw [joined_data, ← hL, ← hR, sv_data, sv_data, ← hm])) w
  rw [show sv l = Value.string L from congrArg Value.string hL, show sv r = Value.string R from congrArg Value.string hR]
  clear hL hR h hm
  go_enter Tryz.func99, Tryz.ntmps99
  go_wp2_with (go_at_call 33; refine i1.mono ?_; rintro e w1 ⟨rfl, hw1⟩)
  go_ret
  exact ⟨rfl, hw1⟩
set_option maxRecDepth 100000 in
set_option maxHeartbeats 400000 in
theorem hash7_nil (a : Option Addr) (cap : Nat) (w : World) :
    Calls Tryz.prog 73 #[.slice a 0 cap] w fun e w' => e = .returned (sv (Tree.root [])) ∧ Below w.heap.size w w' := by
  rw [Tree.root_nil]
  obtain ⟨D, hD⟩ : ∃ D, Sha.sha [] = D := ⟨_, rfl⟩
  rw [hD]
  have i1 := rsum_nil (hid hD)
  clear hD
  go_enter Tryz.func73, Tryz.ntmps73
  go_wp2_with (go_at_call 33; refine (i1 _).mono ?_; rintro e w1 ⟨rfl, hw1⟩)
  go_ret
  exact ⟨rfl, hw1⟩
set_option maxRecDepth 100000 in
set_option maxHeartbeats 400000 in
theorem hash7_one (p : List UInt8) (a : Option Addr) (cap : Nat) (w : World) (hA : At w a [p]) :
    Calls Tryz.prog 73 #[.slice a 1 cap] w fun e w' => e = .returned (sv (Tree.root [p])) ∧ Below w.heap.size w w' := by
  rw [Tree.root_one]
  obtain ⟨x, rfl, hx, hc⟩ := hA 0 p rfl
  rw [addr_zero] at hc
  go_enter Tryz.func73, Tryz.ntmps73
  go_wp2
  go_ret
  exact ⟨rfl, Below.refl _ _⟩
set_option maxRecDepth 100000 in
set_option maxHeartbeats 4000000 in
theorem hash7_any : ∀ (f : Nat) (l : List (List UInt8)) (a : Option Addr) (cap : Nat) (w : World), l.length ≤ f → l.length ≤ cap → cap ≤ 9223372036854775807 → l.length ≤ 4611686018427387903 → Tree.Hs l → At w a l →
    Calls Tryz.prog 73 #[.slice a l.length cap] w fun e w' => e = .returned (sv (Tree.root l)) ∧ Below w.heap.size w w' := by
  intro f
  induction f with
  | zero =>
    intro l a cap w hf hl hc h62 hHs hA
    obtain rfl : l = [] := List.length_eq_zero_iff.1 (by omega)
    exact hash7_nil a cap w
  | succ f ih =>
    intro l a cap w hf hl hc h62 hHs hA
    match l, hf, hl, h62, hHs, hA with
    | [], _, _, _, _, _ => exact hash7_nil a cap w
    | [p], _, _, _, _, hA => exact hash7_one p a cap w hA
    | p :: q :: t, hf, hl, h62, hHs, hA =>
      obtain ⟨n, hn⟩ : ∃ n, (p :: q :: t).length = n := ⟨_, rfl⟩
      have h2 : 2 ≤ n := by rw [← hn]; simp
      obtain ⟨x, rfl⟩ := hA.pos (by rw [hn]; omega)
      have e := hid (Tree.root_cut (l := p :: q :: t) (by rw [hn]; exact h2))
      generalize p :: q :: t = l at *
      rw [hn] at e hf hl h62 ⊢
      have k1 := Tree.sp_lt h2
      have k2 := Tree.sp_pos h2
      have hsp : Hid (∀ a, 2 ^ a < n → n ≤ 2 * 2 ^ a → 2 ^ a = Tree.sp n) := fun a x1 x2 => (Tree.sp_one h2 a x1 x2).symm
      generalize Tree.sp n = k at *
      have l1 : (l.take k).length = k := by rw [List.length_take, hn]; omega
      have l2 : (l.drop k).length = n - k := by rw [List.length_drop, hn]
      have c1 := fun w' (h : At w' (some x) (l.take k)) => ih (l.take k) (some x) cap w' (by omega) (by omega) hc (by omega) (hHs.take k) h
      have c2 := fun w' (h : At w' (some (x.add k)) (l.drop k)) => ih (l.drop k) (some (x.add k)) (cap - k) w' (by omega) (by omega) (by omega) (by omega) (hHs.drop k) h
      rw [l1] at c1
      rw [l2] at c2
      have n1 : ((n : Int) == 0) = false := by simp; omega
      have n2 : ((n : Int) == 1) = false := by simp; omega
      have hne : ¬ cap = k := by omega
      have A1 := hid (hA.take k)
      have A2 := hid (hA.drop k)
      have s1 := Tree.root_hash (hHs.take k)
      have s2 := Tree.root_hash (hHs.drop k)
      generalize hp1 : Tree.root (l.take k) = r1 at *
      generalize hp2 : Tree.root (l.drop k) = r2 at *
      obtain ⟨m, hm⟩ : ∃ m, Hid (Tree.nd r1 r2 = m) := ⟨_, rfl⟩
      have e' := hid (show Tree.root l = m by rw [e.out, hm.out])
      have iN := fun w' => rnode7_any s1 s2 hm w'
      clear hA ih hn e hp1 hp2 s1 s2 l1 l2 hHs hf
      go_enter Tryz.func73, Tryz.ntmps73
      go_wp2
      go_loopw [3] (fun v w' => ∃ a j : Nat, v = .int .i64 (j : Int) ∧ j < n ∧ 1 ≤ j ∧ Hid (2 ^ a = j) ∧ w' = w) (fun v _ => n - (intOf v).toNat)
      case atStart => exact ⟨0, 1, rfl, by omega, by omega, hid rfl, rfl⟩
      case round =>
        obtain ⟨a, j, rfl, hj, hj1, ha, rfl⟩ := hrel
        have s1 : IntKind.i64.wrap (2 * (j : Int)) = 2 * (j : Int) := wrap_small _ (by omega) (by omega)
        by_cases hlt : 2 * j < n
        · have c0 : 2 * (j : Int) < (n : Int) := by omega
          clear c1 c2
          go_wp2
          exact ⟨⟨a + 1, 2 * j, by go_num, hlt, by omega, by unfold Hid; rw [Nat.pow_succ, ha.out]; omega, by first | exact rfl | trivial⟩, by simp [intOf]; omega⟩
        · have c0 : ¬ 2 * (j : Int) < (n : Int) := by omega
          have hjk : j = k := by have := hsp.out a (by rw [ha.out]; exact hj) (by rw [ha.out]; omega); rw [ha.out] at this; exact this
          subst hjk
          have m0 : (0 : Int) ≤ (j : Int) := by omega
          have m1 : (j : Int) ≤ (cap : Int) := by omega
          have m2 : (j : Int) ≤ (n : Int) := by omega
          have m3 : (n : Int) ≤ (cap : Int) := by omega
          have hd : Hid (Below wr.heap.size wr wr.drew) := hid (Below.refl _ wr).drew
          clear hsp ha hA
          go_wp2
          go_region_held3 (fun _ => True) (trivial) (first
            | (go_at_call 73; (with_reducible refine (c1 _ (A1.out.below hd.out (Nat.le_refl _))).mono ?_); rintro e w9 ⟨rfl, hw9⟩; have h9 := hid (hd.out.trans (hw9.mono hd.out.size)))
            | (go_at_call 73; (with_reducible refine (c2 _ (A2.out.below h9.out (Nat.le_refl _))).mono ?_); rintro e w10 ⟨rfl, hw10⟩; have h10 := hid (h9.out.trans (hw10.mono h9.out.size)))
            | (go_at_call 99; (with_reducible refine (iN _).mono ?_); rintro e w11 ⟨rfl, hw11⟩; have h11 := hid (h10.out.trans (hw11.mono h10.out.size))))
          all_goals go_wp2
          all_goals go_ret
          all_goals exact ⟨by rw [e'.out]; rfl, h11.out⟩
end Go.Proofs.YtjcapdkibbjmiaaGreatDoor
