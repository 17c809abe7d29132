import Derived.Test.YtejdecfpegpgcaaDoorCSP28
import Derived.Test.YtejdecfpegpgcaaDoorCI1
import Derived.Test.YtejdecfpegpgcaaDoorCR5
import Derived.Test.YtejdecfpegpgcaaDoorCSH3
namespace Go.Proofs.YtejdecfpegpgcaaDoor
open Go.RowKit Go.Shelf
theorem insB_of {n b e : Nat} (hn : 1 ≤ n) (hn2 : n ≤ 1099511627776) (h : Tree.insF n 0 n b e = true) : insB n b e = true := by
  have := Tree.insF_in _ _ _ _ _ h hn
  unfold insB
  rw [Int.toNat_natCast, Int.toNat_natCast, Int.toNat_natCast, h, decide_eq_true (by omega)]; rfl
set_option maxRecDepth 100000 in
set_option maxHeartbeats 8000000 in
theorem inside8_law (size way : Int) (hs1 : -9223372036854775808 ≤ size) (hs2 : size ≤ 9223372036854775807) (hw1 : -9223372036854775808 ≤ way) (hw2 : way ≤ 9223372036854775807) (w : World) (Z : Tb w) :
    Calls Tryd.prog 3 #[.int .i64 size, .int .i64 way] w fun r w' => r = .returned (.bool true) ∧ Below w.heap.size w w' := by
  have i0 := known8_any w Z
  have i1 := fun w' => pick_any size 1099511627776 hs1 hs2 (by omega) (by omega) w'
  have hp0 := pk_nonneg size 1099511627776 (by omega)
  have hp1 := pk_lt size 1099511627776 (by omega)
  generalize pk size 1099511627776 = p at *
  obtain ⟨N, hN⟩ : ∃ N : Nat, 1 + p = (N : Int) := ⟨(1 + p).toNat, by omega⟩
  have hNw : IntKind.i64.wrap (1 + p) = (N : Int) := by rw [IntKind.wrap_i64]; omega
  have n1 : 1 ≤ N := by omega
  have n2 : N ≤ 1099511627776 := by omega
  have i2 := fun w' => below8_any N way n1 n2 hw1 hw2 w'
  clear hp0 hp1
  go_enter Tryd.func3, Tryd.ntmps3
  go_wp2_with (first
    | (go_at_call 9; refine i0.mono ?_; rintro r w1 ⟨rfl, b1⟩)
    | (go_at_call 10; refine (i1 _).mono ?_; rintro r w2 ⟨rfl, rfl⟩)
    | (go_at_call 11; fail))
  refine (i2 _).mono ?_
  rintro r w3 ⟨b, e, rfl, hI, b3⟩
  have hin := Tree.insF_in _ _ _ _ _ hI n1
  have B3 := hid (b1.trans (b3.mono b1.size))
  have j1 := fun w' => inside_any (N : Int) b e w'
  rw [insB_of n1 n2 hI] at j1
  obtain ⟨q2, hq2⟩ : ∃ q2, Hid (insB (N : Int) ((b : Int) + 1) ((e : Int) + 1) = q2) := ⟨_, rfl⟩
  have hno : Hid (2 ≤ e - b → q2 = false) := fun h2 => by
    rw [← hq2.out]
    cases hc : insB (N : Int) ((b : Int) + 1) ((e : Int) + 1) with
    | false => rfl
    | true =>
      unfold insB at hc
      rw [Bool.and_eq_true, Int.toNat_natCast, show ((b : Int) + 1).toNat = b + 1 by omega, show ((e : Int) + 1).toNat = e + 1 by omega] at hc
      have := Tree.insF_lam _ _ _ _ _ _ _ n1 hI hc.2
      omega
  obtain ⟨q3, hq3⟩ : ∃ q3, Hid (insB (N : Int) (b : Int) ((e : Int) + 1) = q3) := ⟨_, rfl⟩
  have hnn : Hid ((N : Int) < (e : Int) + 1 → q3 = false) := fun h2 => by
    rw [← hq3.out]
    cases hc : insB (N : Int) (b : Int) ((e : Int) + 1) with
    | false => rfl
    | true => have := insB_facts hc; omega
  have j2 := fun w' => inside_any (N : Int) ((b : Int) + 1) ((e : Int) + 1) w'
  rw [hq2.out] at j2
  have j3 := fun w' => inside_any (N : Int) (b : Int) ((e : Int) + 1) w'
  rw [hq3.out] at j3
  have j4 := fun w' => inside_any 0 (b : Int) (e : Int) w'
  rw [show insB 0 (b : Int) (e : Int) = false by unfold insB; rw [decide_eq_false (by omega)]; rfl] at j4
  have j5 := fun w' => inside_any 1099511627777 (b : Int) (e : Int) w'
  rw [show insB 1099511627777 (b : Int) (e : Int) = false by unfold insB; rw [decide_eq_false (by omega)]; rfl] at j5
  have u0 : IntKind.i64.wrap ((b : Int) + 1) = (b : Int) + 1 := by rw [IntKind.wrap_i64]; omega
  have u1 : IntKind.i64.wrap ((e : Int) + 1) = (e : Int) + 1 := by rw [IntKind.wrap_i64]; omega
  have S3 := hid (SpI.new w3 b e)
  have c0 := S3.out.c0
  have c1 := S3.out.c1
  have BS := hid (B3.out.trans (((Below.refl _ w3).alloc (Nat.le_refl _) (.cells #[.int .i64 (b : Int), .int .i64 (e : Int)] 25)).mono B3.out.size))
  clear hI b1 b3 Z i0 i1 i2
  obtain ⟨gS, hgS⟩ : ∃ gS, Hid (w3.heap.size = gS) := ⟨_, rfl⟩
  go_wp2_with (go_at_call 12; fail)
  refine (j1 _).mono ?_
  rintro r w4 ⟨rfl, b4⟩
  have S4 := hid (S3.out.below b4)
  have B4 := hid (BS.out.trans (b4.mono BS.out.size))
  have hlt4 := hid (lt_of_heap S4.out)
  rw [hgS.out] at *
  have c0 := S4.out.c0
  have c1 := S4.out.c1
  clear b4 j1
  have hbA := (Below.refl _ w4).alloc (Nat.le_refl _) (.cells #[.int .i64 ((b : Int) + 1), .int .i64 ((e : Int) + 1)] 25)
  have hbB := (Below.refl _ (w4.alloc (.cells #[.int .i64 ((b : Int) + 1), .int .i64 ((e : Int) + 1)] 25))).alloc (Nat.le_refl _) (.cells #[.int .i64 (b : Int), .int .i64 ((e : Int) + 1)] 25)
  have SA := S4.out.below hbA
  have SB := hid (SA.below hbB)
  have AB := hid ((SpI.new w4 ((b : Int) + 1) ((e : Int) + 1)).below hbB)
  have XB := SpI.new (w4.alloc (.cells #[.int .i64 ((b : Int) + 1), .int .i64 ((e : Int) + 1)] 25)) b ((e : Int) + 1)
  rw [size_alloc] at XB
  have XB := hid XB
  have a0 := SA.c0
  have a1 := SA.c1
  have a2 := SB.out.c0
  have a3 := SB.out.c1
  have a4 := AB.out.c0
  have a5 := AB.out.c1
  have a6 := XB.out.c0
  have a7 := XB.out.c1
  have BB := hid (B4.out.trans ((hbA.trans (hbB.mono hbA.size)).mono B4.out.size))
  clear hbA hbB SA
  go_wp2_with (go_at_call 12; fail)
  refine (j2 _).mono ?_
  rintro r w5 ⟨rfl, b5⟩
  have S5 := SB.out.below b5
  have X5 := XB.out.below b5
  have p0 := S5.c0
  have p1 := S5.c1
  have p2 := X5.c0
  have p3 := X5.c1
  have B5 := hid (BB.out.trans (b5.mono BB.out.size))
  have S5 := hid S5
  have X5 := hid X5
  clear j2 b5 a0 a1 a2 a3 a4 a5 a6 a7 c0 c1
  go_wp2_with (go_at_call 12; fail)
  refine (j3 _).mono ?_
  rintro r w6 ⟨rfl, b6⟩
  have S6 := S5.out.below b6
  have X6 := X5.out.below b6
  have r0 := S6.c0
  have r1 := S6.c1
  have r2 := X6.c0
  have r3 := X6.c1
  have B6 := hid (B5.out.trans (b6.mono B5.out.size))
  have S6 := hid S6
  clear j3 b6 p0 p1 p2 p3
  obtain ⟨L, hL⟩ : ∃ L : Nat, (e : Int) - (b : Int) = (L : Int) := ⟨e - b, by omega⟩
  have hLw : IntKind.i64.wrap ((e : Int) - (b : Int)) = (L : Int) := by rw [IntKind.wrap_i64]; omega
  have g1 : Hid ((2 : Int) < (L : Int) → q2 = false) := fun h => hno.out (by omega)
  have fin : ∀ (wx wy wz : World), Below w.heap.size w wx → Below wx.heap.size wx wy → Below wy.heap.size wy wz → Below w.heap.size w wz := fun wx wy wz h1 h2 h3 => (h1.trans (h2.mono h1.size)).trans (h3.mono (h1.trans (h2.mono h1.size)).size)
  by_cases k1 : (2 : Int) < (L : Int)
  · have e2 := g1.out k1
    subst e2
    by_cases k2 : (0 : Int) < (b : Int)
    · by_cases k3 : (N : Int) < (e : Int) + 1
      · have e3 := hnn.out k3
        subst e3
        go_wp2_with (first
          | (go_at_call 12; (with_reducible refine (j4 _).mono ?_); rintro r w7 ⟨rfl, b7⟩; have S7 := S6.out.below b7; have t0 := S7.c0; have t1 := S7.c1)
          | (go_at_call 12; (with_reducible refine (j5 _).mono ?_); rintro r w8 ⟨rfl, b8⟩))
        go_ret
        exact ⟨rfl, fin _ _ _ B6.out b7 b8⟩
      · go_wp2_with (first
          | (go_at_call 12; (with_reducible refine (j4 _).mono ?_); rintro r w7 ⟨rfl, b7⟩; have S7 := S6.out.below b7; have t0 := S7.c0; have t1 := S7.c1)
          | (go_at_call 12; (with_reducible refine (j5 _).mono ?_); rintro r w8 ⟨rfl, b8⟩))
        go_ret
        exact ⟨rfl, fin _ _ _ B6.out b7 b8⟩
    · by_cases k3 : (N : Int) < (e : Int) + 1
      · have e3 := hnn.out k3
        subst e3
        go_wp2_with (first
          | (go_at_call 12; (with_reducible refine (j4 _).mono ?_); rintro r w7 ⟨rfl, b7⟩; have S7 := S6.out.below b7; have t0 := S7.c0; have t1 := S7.c1)
          | (go_at_call 12; (with_reducible refine (j5 _).mono ?_); rintro r w8 ⟨rfl, b8⟩))
        go_ret
        exact ⟨rfl, fin _ _ _ B6.out b7 b8⟩
      · go_wp2_with (first
          | (go_at_call 12; (with_reducible refine (j4 _).mono ?_); rintro r w7 ⟨rfl, b7⟩; have S7 := S6.out.below b7; have t0 := S7.c0; have t1 := S7.c1)
          | (go_at_call 12; (with_reducible refine (j5 _).mono ?_); rintro r w8 ⟨rfl, b8⟩))
        go_ret
        exact ⟨rfl, fin _ _ _ B6.out b7 b8⟩
  · by_cases k3 : (N : Int) < (e : Int) + 1
    · have e3 := hnn.out k3
      subst e3
      go_wp2_with (first
        | (go_at_call 12; (with_reducible refine (j4 _).mono ?_); rintro r w7 ⟨rfl, b7⟩; have S7 := S6.out.below b7; have t0 := S7.c0; have t1 := S7.c1)
        | (go_at_call 12; (with_reducible refine (j5 _).mono ?_); rintro r w8 ⟨rfl, b8⟩))
      go_ret
      exact ⟨rfl, fin _ _ _ B6.out b7 b8⟩
    · go_wp2_with (first
        | (go_at_call 12; (with_reducible refine (j4 _).mono ?_); rintro r w7 ⟨rfl, b7⟩; have S7 := S6.out.below b7; have t0 := S7.c0; have t1 := S7.c1)
        | (go_at_call 12; (with_reducible refine (j5 _).mono ?_); rintro r w8 ⟨rfl, b8⟩))
      go_ret
      exact ⟨rfl, fin _ _ _ B6.out b7 b8⟩
end Go.Proofs.YtejdecfpegpgcaaDoor

namespace Go.Proofs.YtejdecfpegpgcaaDoor
open Go.RowKit
set_option maxRecDepth 100000 in
set_option maxHeartbeats 2000000 in
theorem rsplit4_any (n : Nat) (h0 : 2 ≤ n) (h1 : n ≤ 4611686018427387903) (w : World) :
    Calls Tryd.prog 84 #[.int .i64 n] w fun e w' => e = .returned (.int .i64 (Tree.sp n : Nat)) ∧ w' = w := by
  go_enter Tryd.func84, Tryd.ntmps84
  go_wp2
  go_loopw [3] (fun k w' => ∃ a x : Nat, Hid (2 ^ a = x) ∧ k = .int .i64 (x : Int) ∧ x < n ∧ 0 < x ∧ w' = w) (fun k _ => n - (intOf k).toNat)
  case atStart => exact ⟨0, 1, rfl, rfl, by omega, by omega, rfl⟩
  case round =>
    obtain ⟨a, x, hx, rfl, hlt, hpos, rfl⟩ := hrel
    by_cases hk : 2 * (x : Int) < n
    · go_wp2
      exact ⟨⟨a + 1, 2 * x, by rw [Hid, Nat.pow_succ, hx.out, Nat.mul_comm], by go_num, by omega, by omega, trivial⟩, by simp [intOf]; omega⟩
    · have e := hid (show Tree.sp n = x by rw [Tree.sp_one h0 a (by rw [hx.out]; omega) (by rw [hx.out]; omega), hx.out])
      go_wp2
      go_ret
      exact ⟨by rw [e.out]; rfl, rfl⟩
set_option maxRecDepth 100000 in
set_option maxHeartbeats 2000000 in
theorem rway_any (n m : Nat) (h0 : n ≤ 1099511627776) (h1 : m < n) (w : World) :
    Calls Tryd.prog 55 #[.int .i64 n, .int .i64 m] w fun e w' => e = .returned (.int .i64 ((Tree.D n m).length : Nat)) ∧ w' = w := by
  obtain ⟨T, hT⟩ : ∃ T, Hid ((Tree.D n m).length = T) := ⟨_, rfl⟩
  go_enter Tryd.func55, Tryd.ntmps55
  go_wp2
  go_loopw [0, 1, 5] (fun s i c w' => ∃ S I C : Nat, s = .int .i64 (S : Int) ∧ i = .int .i64 (I : Int) ∧ c = .int .i64 (C : Int) ∧ I < S ∧ C + S ≤ n ∧ Hid (C + (Tree.D S I).length = T) ∧ w' = w) (fun s _ _ _ => (intOf s).toNat)
  case atStart => exact ⟨n, m, 0, rfl, rfl, rfl, h1, by omega, by unfold Hid; rw [Nat.zero_add]; exact hT.out, rfl⟩
  case round =>
    obtain ⟨S, I, C, rfl, rfl, rfl, hI, hC, hD, rfl⟩ := hrel
    by_cases hS : 2 ≤ S
    · have b0 : (1 : Int) < (S : Int) := by omega
      have k1 := Tree.sp_lt hS
      have k2 := Tree.sp_pos hS
      have hc := rsplit4_any S hS (by omega)
      have dl := hid (@Tree.D_left S I hS)
      have dr := hid (@Tree.D_right S I hS)
      generalize Tree.sp S = k at *
      by_cases hi : I < k
      · have b1 : (I : Int) < (k : Int) := by omega
        go_wp2_with (go_at_call 84; refine (hc _).mono ?_; rintro e w' ⟨rfl, rfl⟩)
        exact ⟨⟨k, I, C + 1, rfl, rfl, by go_num, by omega, by omega, by have := hD.out; rw [dl.out hi] at this; unfold Hid; simp at this; omega, trivial⟩, by simp [intOf]; omega⟩
      · have b1 : ¬ (I : Int) < (k : Int) := by omega
        go_wp2_with (go_at_call 84; refine (hc _).mono ?_; rintro e w' ⟨rfl, rfl⟩)
        exact ⟨⟨S - k, I - k, C + 1, by go_num, by go_num, by go_num, by omega, by omega, by have := hD.out; rw [dr.out hi] at this; unfold Hid; simp at this; omega, trivial⟩, by simp [intOf]; omega⟩
    · have b0 : ¬ (1 : Int) < (S : Int) := by omega
      have e := hid (show T = C by have := hD.out; rw [Tree.D_one _ (by omega)] at this; simpa using this.symm)
      go_wp2
      go_ret
      exact ⟨by rw [hT.out, e.out]; rfl, rfl⟩
/-- V1 -/
def lenOf (n m : Int) : Int × Int := if n < 1 ∨ 1099511627776 < n then (0, 41) else if m < 0 ∨ n ≤ m then (0, 40) else ((Tree.D n.toNat m.toNat).length, 0)
set_option maxRecDepth 100000 in
set_option maxHeartbeats 2000000 in
theorem rPathLen_any (n m : Int) (w : World) :
    Calls Tryd.prog 22 #[.int .i64 n, .int .i64 m] w fun e w' => e = .returned (.tuple #[.int .i64 (lenOf n m).1, .int .i64 (lenOf n m).2]) ∧ w' = w := by
  by_cases h1 : n < 1
  · rw [lenOf, if_pos (Or.inl h1)]
    go_enter Tryd.func22, Tryd.ntmps22
    go_wp2
    go_ret2
    exact ⟨rfl, rfl⟩
  · by_cases h2 : 1099511627776 < n
    · rw [lenOf, if_pos (Or.inr h2)]
      go_enter Tryd.func22, Tryd.ntmps22
      go_wp2
      go_ret2
      exact ⟨rfl, rfl⟩
    · rw [lenOf, if_neg (by omega)]
      by_cases h3 : m < 0
      · rw [if_pos (Or.inl h3)]
        go_enter Tryd.func22, Tryd.ntmps22
        go_wp2
        go_ret2
        exact ⟨rfl, rfl⟩
      · by_cases h4 : n ≤ m
        · rw [if_pos (Or.inr h4)]
          go_enter Tryd.func22, Tryd.ntmps22
          go_wp2
          go_ret2
          exact ⟨rfl, rfl⟩
        · rw [if_neg (by omega)]
          have hc := rway_any n.toNat m.toNat (by omega) (by omega)
          rw [Int.toNat_of_nonneg (by omega), Int.toNat_of_nonneg (by omega)] at hc
          generalize (Tree.D n.toNat m.toNat).length = L at *
          go_enter Tryd.func22, Tryd.ntmps22
          go_wp2_with (go_at_call 55; refine (hc _).mono ?_; rintro e w' ⟨rfl, rfl⟩)
          go_ret2
          exact ⟨rfl, rfl⟩
set_option maxRecDepth 100000 in
set_option maxHeartbeats 2000000 in
theorem told_any : ∀ (f m n : Nat) (whole : Bool) (w : World), n ≤ f → n ≤ 1099511627776 → 1 ≤ m → m ≤ n →
    Calls Tryd.prog 56 #[.int .i64 m, .int .i64 n, .bool whole] w fun e w' => e = .returned (.int .i64 (Tree.pl m n whole : Nat)) ∧ w' = w := by
  intro f
  induction f with
  | zero => intro m n whole w hf _ h1 h2; omega
  | succ f ih =>
    intro m n whole w hf hn h1 h2
    by_cases h : m = n
    · subst h
      rw [Tree.pl_same]
      have b0 : ((m : Int) == (m : Int)) = true := by simp
      clear ih
      cases whole
      · go_enter Tryd.func56, Tryd.ntmps56
        go_wp2
        go_ret
        exact ⟨rfl, rfl⟩
      · go_enter Tryd.func56, Tryd.ntmps56
        go_wp2
        go_ret
        exact ⟨rfl, rfl⟩
    · have b0 : ((m : Int) == (n : Int)) = false := by simp; omega
      have k1 := Tree.sp_lt (n := n) (by omega)
      have k2 := Tree.sp_pos (n := n) (by omega)
      have hc := rsplit4_any n (by omega) (by omega)
      have pL := @Tree.pl_left m n h1 (by omega)
      have pR := @Tree.pl_right m n h1 (by omega)
      generalize Tree.sp n = k at *
      by_cases hm : m ≤ k
      · have b1 : (m : Int) ≤ (k : Int) := by omega
        have i1 := ih m k whole w (by omega) (by omega) h1 hm
        have i2 := Tree.pl_le _ m k whole (Nat.le_refl _) h1 hm
        have e := hid (pL hm whole)
        generalize Tree.pl m k whole = L at *
        generalize Tree.pl m n whole = R at *
        clear ih pL pR
        go_enter Tryd.func56, Tryd.ntmps56
        go_wp2_with (first
          | (go_at_call 84; refine (hc _).mono ?_; rintro e w' ⟨rfl, rfl⟩)
          | (go_at_call 56; refine i1.mono ?_; rintro e w' ⟨rfl, rfl⟩))
        go_ret
        exact ⟨by rw [e.out]; go_num, rfl⟩
      · have b1 : ¬ (m : Int) ≤ (k : Int) := by omega
        have i1 := ih (m - k) (n - k) false w (by omega) (by omega) (by omega) (by omega)
        have i2 := Tree.pl_le _ (m - k) (n - k) false (Nat.le_refl _) (by omega) (by omega)
        have e := hid (pR hm whole)
        rw [show ((m - k : Nat) : Int) = (m : Int) - (k : Int) from by omega, show ((n - k : Nat) : Int) = (n : Int) - (k : Int) from by omega] at i1
        generalize Tree.pl (m - k) (n - k) false = L at *
        generalize Tree.pl m n whole = R at *
        clear ih pL pR
        go_enter Tryd.func56, Tryd.ntmps56
        go_wp2_with (first
          | (go_at_call 84; refine (hc _).mono ?_; rintro e w' ⟨rfl, rfl⟩)
          | (go_at_call 56; refine i1.mono ?_; rintro e w' ⟨rfl, rfl⟩))
        go_ret
        exact ⟨by rw [e.out]; go_num, rfl⟩
/-- V1 -/
def prfLen (m n : Int) : Int × Int := if m < 1 ∨ n < m ∨ 1099511627776 < n then (0, 41) else (Tree.pl m.toNat n.toNat true, 0)
set_option maxRecDepth 100000 in
set_option maxHeartbeats 2000000 in
theorem rProofLen_any (m n : Int) (w : World) :
    Calls Tryd.prog 23 #[.int .i64 m, .int .i64 n] w fun e w' => e = .returned (.tuple #[.int .i64 (prfLen m n).1, .int .i64 (prfLen m n).2]) ∧ w' = w := by
  by_cases h1 : m < 1
  · rw [prfLen, if_pos (Or.inl h1)]
    go_enter Tryd.func23, Tryd.ntmps23
    go_wp2
    go_ret2
    exact ⟨rfl, rfl⟩
  · by_cases h2 : n < m
    · rw [prfLen, if_pos (Or.inr (Or.inl h2))]
      go_enter Tryd.func23, Tryd.ntmps23
      go_wp2
      go_ret2
      exact ⟨rfl, rfl⟩
    · by_cases h3 : 1099511627776 < n
      · rw [prfLen, if_pos (Or.inr (Or.inr h3))]
        go_enter Tryd.func23, Tryd.ntmps23
        go_wp2
        go_ret2
        exact ⟨rfl, rfl⟩
      · rw [prfLen, if_neg (by omega)]
        have hc := told_any _ m.toNat n.toNat true w (Nat.le_refl _) (by omega) (by omega) (by omega)
        rw [Int.toNat_of_nonneg (by omega), Int.toNat_of_nonneg (by omega)] at hc
        generalize Tree.pl m.toNat n.toNat true = L at *
        go_enter Tryd.func23, Tryd.ntmps23
        go_wp2_with (go_at_call 56; refine hc.mono ?_; rintro e w' ⟨rfl, rfl⟩)
        go_ret2
        exact ⟨rfl, rfl⟩
end Go.Proofs.YtejdecfpegpgcaaDoor

namespace Go.Proofs.YtejdecfpegpgcaaDoor
open Go.RowKit Go.Shelf
theorem infoI8 : (Tryd.prog.info? 3).map (fun i => (i.zero, i.size, i.bytes)) = some (some (.int .i64 0), 1, 8) := by kernel_rfl
def iv8 (L : List Int) : List Value := L.map (.int .i64)
theorem iv8_length (L : List Int) : (iv8 L).length = L.length := by simp [iv8]
/-- append(l, i) -/
theorem append_int8 (w : World) (base : Nat) (v : Value) (L : List Int) (p : Int) (hown : Own w base v (iv8 L)) (hlen : L.length ≤ 2000000) (hbase : base ≤ w.heap.size) :
    ∃ v' w', (Builtin.append_ #[41, 41] 41 #[v, .slice (some ⟨w.heap.size, 0, none⟩) 1 1]).run Tryd.prog (w.alloc (.cells #[.int .i64 p] 3)) = .ok v' w' ∧ Own w' base v' (iv8 (L ++ [p])) ∧ Below base w w' := by
  obtain ⟨i0, hi, hz0, hz1, hz2⟩ := info_parts infoI8
  have hsrc : Src Tryd.prog 1 41 (.slice (some ⟨w.heap.size, 0, none⟩) 1 1) 1 [.int .i64 p] (w.alloc (.cells #[.int .i64 p] 3)) :=
    Src.ofSlice _ Tryd.underlying41 ⟨w.heap.size, 0, none⟩ 1 1 [.int .i64 p] (by simp) (fun j u hj => by
      rw [Addr.add_mid, cell_of_row _ _ _ _ _ _ (heap_alloc_new w _), Nat.zero_add]; simpa using hj) (fun u hu => by simp at hu; subst hu; rfl)
  obtain ⟨v', w', h1, h2, h3, h4⟩ := run_append_O (P := Tryd.prog) (w.alloc (.cells #[.int .i64 p] 3)) base 41 41 41 3 i0 (.int .i64 0) Tryd.underlying41 hi hz0 hz1 rfl v (iv8 L) (hown.alloc _) _ 1 [.int .i64 p] hsrc
    (by rw [iv8_length, hz2]; omega) (by rw [iv8_length, maxLen]; omega) (by rw [size_alloc]; omega) (fun _ => by omega)
  refine ⟨v', w', h1, by simpa [iv8] using h2, ?_⟩
  exact ((Below.refl base w).alloc hbase _).trans (Below.ofGrown h3 hown.ge (by rw [size_alloc]; omega))
theorem Own.atI8 {w : World} {base : Nat} {v : Value} {L : List Int} (h : Own w base v (iv8 L)) : ∃ a cap, v = .slice a L.length cap ∧ AtI w a L ∧ L.length ≤ cap ∧ cap ≤ 9223372036854775807 := by
  rcases h with ⟨rfl, h⟩ | ⟨g, cap, rfl, h1, h2, h3, h4, h5, h6⟩
  · obtain rfl : L = [] := by simpa [iv8] using h
    exact ⟨none, 0, rfl, AtI.nil _ _, by simp, by omega⟩
  · rw [iv8_length] at h2
    refine ⟨some ⟨g, 0, none⟩, cap, by rw [iv8_length], fun j p hp => ⟨_, rfl, h6, ?_⟩, h2, h3⟩
    rw [Addr.add_mid]
    exact h4 j (.int .i64 p) (by simp [iv8, hp])
/-- numbers that rise, all of them below A -/
structure Rsn (L : List Int) (A : Nat) : Prop where
  so : L.Pairwise (· < ·)
  all : ∀ x ∈ L, 0 ≤ x ∧ x < (A : Int)
theorem Rsn.nil (A : Nat) : Rsn [] A := ⟨List.Pairwise.nil, fun x h => by cases h⟩
theorem Rsn.push {L : List Int} {A : Nat} (h : Rsn L A) (q : Nat) : Rsn (L ++ [((A + q : Nat) : Int)]) (A + q + 1) :=
  ⟨List.pairwise_append.2 ⟨h.so, List.pairwise_singleton _ _, fun a ha b hb => by
    obtain rfl := List.mem_singleton.1 hb
    have := (h.all a ha).2
    omega⟩, fun x hx => by
    rcases List.mem_append.1 hx with hx | hx
    · have := h.all x hx
      omega
    · obtain rfl := List.mem_singleton.1 hx
      omega⟩
theorem Rsn.ok {L : List Int} {A n : Nat} (h : Rsn L A) (hA : A ≤ n) (h1 : 1 ≤ n) (h2 : n ≤ 1099511627776) (l1 : 0 < L.length) (l2 : L.length ≤ 256) : BatOk n L := by
  have a0 := h.all L[0] (List.getElem_mem _)
  have a1 := h.all (L[L.length - 1]'(by omega)) (List.getElem_mem _)
  exact ⟨by omega, by omega, l1, l2, h.so, by rw [getD_at l1]; omega, by rw [getD_at l1]; omega, by rw [getD_at (by omega)]; omega, by rw [getD_at (by omega)]; omega⟩
/-- rising's answer -/
def RisP (n : Nat) (w : World) (r : Ending) (w' : World) : Prop := ∃ (a : Option Addr) (cap : Nat) (L : List Int), r = .returned (.slice a L.length cap) ∧ AtI w' a L ∧ BatOk n L ∧ Below w.heap.size w w'
set_option maxRecDepth 100000 in
set_option maxHeartbeats 4000000 in
theorem rising8_any (n : Nat) (cs : List Int) (a : Option Addr) (cap : Nat) (hn : 1 ≤ n) (hn2 : n ≤ 1099511627776) (hcs : cs.length ≤ 9223372036854775807) (hw : ∀ x ∈ cs, -9223372036854775808 ≤ x ∧ x ≤ 9223372036854775807) (w : World) (hA : AtI w a cs) :
    Calls Tryd.prog 18 #[.slice a cs.length cap, .int .i64 (n : Int), .int .i64 256] w (RisP n w) := by
  have HA := hid hA
  have HW := hid hw
  clear hA hw
  generalize hN : cs.length = N at *
  go_enter Tryd.func18, Tryd.ntmps18
  go_wp2
  go_loopw [7, 8, 9] (fun v t i w' => ∃ (L : List Int) (A k : Nat), Hid (L.length = k) ∧ t = .int .i64 (A : Int) ∧ i = .int .i64 (k : Int) ∧ A ≤ n ∧ k ≤ N ∧ k ≤ 256 ∧ Hid (Rsn L A) ∧ Hid (Own w' w.heap.size v (iv8 L)) ∧ Hid (Below w.heap.size w w')) (fun _ _ i _ => 256 - (intOf i).toNat)
  case atStart => exact ⟨[], 0, 0, rfl, rfl, rfl, by omega, by omega, by omega, Rsn.nil _, Own.nil _ _, Below.refl _ _⟩
  case round =>
    obtain ⟨L, A, k, hk, rfl, rfl, hAn, hkN, hk2, hR, hO, hB⟩ := hrel
    obtain ⟨oa, oc, hv, hat, -⟩ := hO.out.atI8
    rw [hk.out] at hv
    subst hv
    have hat := hid hat
    by_cases hgo : (k : Int) < (N : Int) ∧ (k : Int) < 256 ∧ (A : Int) < (n : Int)
    · obtain ⟨g1, g2, g3⟩ := hgo
      obtain ⟨x, rfl⟩ := HA.out.pos (by omega)
      have hcell := (HA.out.below hB.out (Nat.le_refl _)).cell k (by omega)
      have hcw := HW.out (cs[k]'(by omega)) (List.getElem_mem _)
      generalize cs[k]'(by omega) = c at *
      obtain ⟨R, hRn⟩ : ∃ R : Nat, (n : Int) - (A : Int) = (R : Int) := ⟨n - A, by omega⟩
      have hRw : IntKind.i64.wrap ((n : Int) - (A : Int)) = (R : Int) := by rw [IntKind.wrap_i64]; omega
      obtain ⟨t, htt⟩ : ∃ t : Int, Int.tmod (k : Int) 2 = t := ⟨_, rfl⟩
      by_cases ht : t = 0
      · subst ht
        by_cases h4 : (40 : Int) < (R : Int)
        · have ip := fun w' => pick_any c (40 : Int) (by omega) (by omega) (by omega) (by omega) w'
          have q0 := pk_nonneg c (40 : Int) (by omega)
          have q1 := pk_lt c (40 : Int) (by omega)
          obtain ⟨q, hq⟩ : ∃ q : Nat, Hid (pk c (40 : Int) = (q : Int)) := ⟨(pk c (40 : Int)).toNat, by unfold Hid; omega⟩
          rw [hq.out] at q0 q1
          have hs : IntKind.i64.wrap ((A : Int) + (q : Int)) = ((A + q : Nat) : Int) := by rw [IntKind.wrap_i64]; omega
          have hs' : IntKind.i64.wrap (((A + q : Nat) : Int) + 1) = ((A + q + 1 : Nat) : Int) := by rw [IntKind.wrap_i64]; omega
          obtain ⟨v3, w3, hap, hO3, hb3⟩ := append_int8 wr w.heap.size _ L ((A + q : Nat) : Int) hO.out (by have := hk.out; omega) hB.out.size
          generalize hG : A + q = G at *
          go_wp2_with (first
            | (go_at_call 10; refine (ip _).mono ?_; rintro e w2 ⟨rfl, h0⟩; have h0 := h0.symm; subst h0; rw [hq.out])
            | (at_builtin; go_must (refine Lib.wpList_append_run _ rfl _ _ 41 41 rfl _ _ rfl rfl _ _ hap ?_)))
          exact ⟨⟨L ++ [((G : Nat) : Int)], G + 1, k + 1, by unfold Hid; have := hk.out; simp; omega, by go_num, by go_num, by omega, by omega, by omega, by unfold Hid; rw [← hG]; exact hR.out.push q, hO3, hB.out.trans hb3⟩, by simp [intOf]; omega⟩
        · have ip := fun w' => pick_any c (R : Int) (by omega) (by omega) (by omega) (by omega) w'
          have q0 := pk_nonneg c (R : Int) (by omega)
          have q1 := pk_lt c (R : Int) (by omega)
          obtain ⟨q, hq⟩ : ∃ q : Nat, Hid (pk c (R : Int) = (q : Int)) := ⟨(pk c (R : Int)).toNat, by unfold Hid; omega⟩
          rw [hq.out] at q0 q1
          have hs : IntKind.i64.wrap ((A : Int) + (q : Int)) = ((A + q : Nat) : Int) := by rw [IntKind.wrap_i64]; omega
          have hs' : IntKind.i64.wrap (((A + q : Nat) : Int) + 1) = ((A + q + 1 : Nat) : Int) := by rw [IntKind.wrap_i64]; omega
          obtain ⟨v3, w3, hap, hO3, hb3⟩ := append_int8 wr w.heap.size _ L ((A + q : Nat) : Int) hO.out (by have := hk.out; omega) hB.out.size
          generalize hG : A + q = G at *
          go_wp2_with (first
            | (go_at_call 10; refine (ip _).mono ?_; rintro e w2 ⟨rfl, h0⟩; have h0 := h0.symm; subst h0; rw [hq.out])
            | (at_builtin; go_must (refine Lib.wpList_append_run _ rfl _ _ 41 41 rfl _ _ rfl rfl _ _ hap ?_)))
          exact ⟨⟨L ++ [((G : Nat) : Int)], G + 1, k + 1, by unfold Hid; have := hk.out; simp; omega, by go_num, by go_num, by omega, by omega, by omega, by unfold Hid; rw [← hG]; exact hR.out.push q, hO3, hB.out.trans hb3⟩, by simp [intOf]; omega⟩
      · have ht' : (t == 0) = false := by simpa using ht
        have ip := fun w' => pick_any c (R : Int) (by omega) (by omega) (by omega) (by omega) w'
        have q0 := pk_nonneg c (R : Int) (by omega)
        have q1 := pk_lt c (R : Int) (by omega)
        obtain ⟨q, hq⟩ : ∃ q : Nat, Hid (pk c (R : Int) = (q : Int)) := ⟨(pk c (R : Int)).toNat, by unfold Hid; omega⟩
        rw [hq.out] at q0 q1
        have hs : IntKind.i64.wrap ((A : Int) + (q : Int)) = ((A + q : Nat) : Int) := by rw [IntKind.wrap_i64]; omega
        have hs' : IntKind.i64.wrap (((A + q : Nat) : Int) + 1) = ((A + q + 1 : Nat) : Int) := by rw [IntKind.wrap_i64]; omega
        obtain ⟨v3, w3, hap, hO3, hb3⟩ := append_int8 wr w.heap.size _ L ((A + q : Nat) : Int) hO.out (by have := hk.out; omega) hB.out.size
        generalize hG : A + q = G at *
        go_wp2_with (first
          | (go_at_call 10; refine (ip _).mono ?_; rintro e w2 ⟨rfl, h0⟩; have h0 := h0.symm; subst h0; rw [hq.out])
          | (at_builtin; go_must (refine Lib.wpList_append_run _ rfl _ _ 41 41 rfl _ _ rfl rfl _ _ hap ?_)))
        exact ⟨⟨L ++ [((G : Nat) : Int)], G + 1, k + 1, by unfold Hid; have := hk.out; simp; omega, by go_num, by go_num, by omega, by omega, by omega, by unfold Hid; rw [← hG]; exact hR.out.push q, hO3, hB.out.trans hb3⟩, by simp [intOf]; omega⟩
    · by_cases g1 : (k : Int) < (N : Int)
      · by_cases g2 : (k : Int) < 256
        · have g3 : ¬ (A : Int) < (n : Int) := fun h => hgo ⟨g1, g2, h⟩
          clear hgo
          by_cases hz : k = 0
          · subst hz
            obtain rfl : L = [] := List.eq_nil_of_length_eq_zero hk.out
            have ip := fun w' => pick_any (n : Int) (n : Int) (by omega) (by omega) (by omega) (by omega) w'
            have q0 := pk_nonneg (n : Int) (n : Int) (by omega)
            have q1 := pk_lt (n : Int) (n : Int) (by omega)
            obtain ⟨q, hq⟩ : ∃ q : Nat, Hid (pk (n : Int) (n : Int) = (q : Int)) := ⟨(pk (n : Int) (n : Int)).toNat, by unfold Hid; omega⟩
            rw [hq.out] at q0 q1
            obtain ⟨v3, w3, hap, hO3, hb3⟩ := append_int8 wr w.heap.size _ [] ((q : Nat) : Int) hO.out (by simp) hB.out.size
            go_wp2_with (first
              | (go_at_call 10; refine (ip _).mono ?_; rintro e w2 ⟨rfl, h0⟩; have h0 := h0.symm; subst h0; rw [hq.out])
              | (at_builtin; go_must (refine Lib.wpList_append_run _ rfl _ _ 41 41 rfl _ _ rfl rfl _ _ hap ?_)))
            go_ret
            obtain ⟨oa, oc, rfl, hat3, -⟩ := hO3.atI8
            refine ⟨oa, oc, _, rfl, hat3, Rsn.ok (A := q + 1) ?_ (by omega) hn hn2 (by simp) (by simp), hB.out.trans hb3⟩
            have := (Rsn.nil 0).push q
            simpa using this
          · have hz' : ¬ (k : Int) = 0 := by omega
            go_wp2
            go_ret
            have hat := hat.out
            refine ⟨oa, oc, L, by rw [hk.out]; rfl, hat, hR.out.ok hAn hn hn2 (by have := hk.out; omega) (by have := hk.out; omega), hB.out⟩
        · clear hgo
          have hz : ¬ k = 0 := by omega
          have hz' : ¬ (k : Int) = 0 := by omega
          go_wp2
          go_ret
          have hat := hat.out
          refine ⟨oa, oc, L, by rw [hk.out]; rfl, hat, hR.out.ok hAn hn hn2 (by have := hk.out; omega) (by have := hk.out; omega), hB.out⟩
      · clear hgo
        by_cases hz : k = 0
        · subst hz
          obtain rfl : L = [] := List.eq_nil_of_length_eq_zero hk.out
          have ip := fun w' => pick_any (n : Int) (n : Int) (by omega) (by omega) (by omega) (by omega) w'
          have q0 := pk_nonneg (n : Int) (n : Int) (by omega)
          have q1 := pk_lt (n : Int) (n : Int) (by omega)
          obtain ⟨q, hq⟩ : ∃ q : Nat, Hid (pk (n : Int) (n : Int) = (q : Int)) := ⟨(pk (n : Int) (n : Int)).toNat, by unfold Hid; omega⟩
          rw [hq.out] at q0 q1
          obtain ⟨v3, w3, hap, hO3, hb3⟩ := append_int8 wr w.heap.size _ [] ((q : Nat) : Int) hO.out (by simp) hB.out.size
          go_wp2_with (first
            | (go_at_call 10; refine (ip _).mono ?_; rintro e w2 ⟨rfl, h0⟩; have h0 := h0.symm; subst h0; rw [hq.out])
            | (at_builtin; go_must (refine Lib.wpList_append_run _ rfl _ _ 41 41 rfl _ _ rfl rfl _ _ hap ?_)))
          go_ret
          obtain ⟨oa, oc, rfl, hat3, -⟩ := hO3.atI8
          refine ⟨oa, oc, _, rfl, hat3, Rsn.ok (A := q + 1) ?_ (by omega) hn hn2 (by simp) (by simp), hB.out.trans hb3⟩
          have := (Rsn.nil 0).push q
          simpa using this
        · have hz' : ¬ (k : Int) = 0 := by omega
          go_wp2
          go_ret
          have hat := hat.out
          refine ⟨oa, oc, L, by rw [hk.out]; rfl, hat, hR.out.ok hAn hn hn2 (by have := hk.out; omega) (by have := hk.out; omega), hB.out⟩
end Go.Proofs.YtejdecfpegpgcaaDoor

/- THE PLAIN MATHEMATICS OF LAYER 8: spans that lie apart, walked from the left; nothing of the program. -/
namespace Go.Proofs.YtejdecfpegpgcaaDoor
namespace Tree
/-- where the next span begins -/
def tgt (n : Nat) : List (Nat × Nat) → Nat
  | [] => n
  | s :: _ => s.1
/-- r's first K numbers lie below A, the others don't; from A on to T all are r's, T is not -/
structure Pos (r : List Nat) (A K T : Nat) : Prop where
  le : A ≤ T
  kl : K ≤ r.length
  lo : ∀ j x, r[j]? = some x → j < K → x < A
  hi : ∀ j x, r[j]? = some x → K ≤ j → A ≤ x
  mid : ∀ i, A ≤ i → i < T → i ∈ r
  no : ¬ T ∈ r
theorem Pos.at {r : List Nat} {A K T : Nat} (h : Pos r A K T) (hs : r.Pairwise (· < ·)) (hA : A < T) : r[K]? = some A ∧ Pos r (A + 1) (K + 1) T := by
  obtain ⟨j, hj⟩ := List.mem_iff_getElem?.1 (h.mid A (Nat.le_refl _) hA)
  have h1 : K ≤ j := by
    rcases Nat.lt_or_ge j K with h1 | h1
    · have := h.lo j A hj h1; omega
    · exact h1
  have hjl : j < r.length := by
    rcases Nat.lt_or_ge j r.length with h2 | h2
    · exact h2
    · rw [List.getElem?_eq_none h2] at hj; cases hj
  have h2 : j = K := by
    rcases Nat.lt_or_ge K j with h2 | h2
    · have e : r[K]? = some (r[K]'(by omega)) := List.getElem?_eq_getElem (by omega)
      have a := h.hi K _ e (Nat.le_refl _)
      have b := List.pairwise_iff_getElem.1 hs K j (by omega) hjl h2
      rw [List.getElem?_eq_getElem hjl] at hj
      have := Option.some.inj hj
      omega
    · omega
  subst h2
  refine ⟨hj, by omega, by omega, fun i x hx hi => ?_, fun i x hx hi => ?_, fun i h1 h2 => h.mid i (by omega) h2, h.no⟩
  · rcases Nat.lt_or_ge i j with h3 | h3
    · have := h.lo i x hx h3; omega
    · obtain rfl : i = j := by omega
      rw [hj] at hx
      have := Option.some.inj hx
      omega
  · have hil : i < r.length := by
      rcases Nat.lt_or_ge i r.length with h2 | h2
      · exact h2
      · rw [List.getElem?_eq_none h2] at hx; cases hx
    have b := List.pairwise_iff_getElem.1 hs j i hjl hil (by omega)
    rw [List.getElem?_eq_getElem hil] at hx
    rw [List.getElem?_eq_getElem hjl] at hj
    have := Option.some.inj hj
    have := Option.some.inj hx
    omega
theorem Pos.done {r : List Nat} {K T : Nat} (h : Pos r T K T) {x : Nat} (hx : r[K]? = some x) : x ≠ T := fun e => h.no (by rw [← e]; exact List.mem_of_getElem? hx)
/-- where the walk stands: what is left of the spans -/
structure Stand (r : List Nat) (n A K : Nat) (rest : List (Nat × Nat)) : Prop where
  kl : K ≤ r.length
  lo : ∀ j x, r[j]? = some x → j < K → x < A
  hi : ∀ j x, r[j]? = some x → K ≤ j → A ≤ x
  ap : Apt A n rest (fun i => decide (i ∈ r))
theorem Stand.pos {r : List Nat} {n A K : Nat} {rest : List (Nat × Nat)} (h : Stand r n A K rest) (hn : ∀ x ∈ r, x < n) : Pos r A K (tgt n rest) := by
  have ap := h.ap
  cases rest with
  | nil => exact ⟨ap.1, h.kl, h.lo, h.hi, fun i h1 h2 => of_decide_eq_true (ap.2 i h1 h2), fun hc => Nat.lt_irrefl _ (hn _ hc)⟩
  | cons s rest =>
    obtain ⟨a1, a2, a3, a4, a5, a6⟩ := ap
    exact ⟨a1, h.kl, h.lo, h.hi, fun i h1 h2 => of_decide_eq_true (a4 i h1 h2), fun hc => by
      have := a5 s.1 (Nat.le_refl _) a2
      have h2 := of_decide_eq_false this
      exact h2 hc⟩
theorem Stand.next {r : List Nat} {n A K A' K' : Nat} {s : Nat × Nat} {rest : List (Nat × Nat)} (h : Stand r n A K (s :: rest)) (p : Pos r A' K' s.1) (he : A' = s.1) : s.1 < s.2 ∧ s.2 ≤ n ∧ Stand r n s.2 K' rest := by
  obtain ⟨a1, a2, a3, a4, a5, a6⟩ := h.ap
  subst he
  refine ⟨a2, a3, p.kl, fun j x hx hj => ?_, fun j x hx hj => ?_, a6⟩
  · have := p.lo j x hx hj; omega
  · have h1 := p.hi j x hx hj
    rcases Nat.lt_or_ge x s.2 with h2 | h2
    · exact absurd (List.mem_of_getElem? hx) (of_decide_eq_false (a5 x h1 h2))
    · exact h2
theorem Stand.last {r : List Nat} {n K' : Nat} (hn : ∀ x ∈ r, x < n) (p : Pos r n K' n) : K' = r.length := by
  rcases Nat.lt_or_ge K' r.length with h | h
  · have e : r[K']? = some r[K'] := List.getElem?_eq_getElem h
    have := p.hi K' _ e (Nat.le_refl _)
    have := hn _ (List.getElem_mem h)
    omega
  · have := p.kl; omega
theorem Stand.start {r : List Nat} {n : Nat} {L : List (Nat × Nat)} (h : Apt 0 n L (fun i => decide (i ∈ r))) : Stand r n 0 0 L := ⟨Nat.zero_le _, fun j x _ h => by omega, fun j x _ _ => Nat.zero_le _, h⟩
/-- a run [x, y) of leaves left out, walked: A is where the walk stands -/
structure Over (x y n A : Nat) (rest : List (Nat × Nat)) : Prop where
  out : A ≤ x ∨ y ≤ A
  le : A ≤ n
  ap : Apt A n rest (fun i => decide (x ≤ i ∧ i < y))
/-- behind the run, where the walk stands at its begin -/
def hop (x y A : Nat) : Nat := if A = x then y else A
theorem Over.next {x y n A : Nat} {s : Nat × Nat} {rest : List (Nat × Nat)} (h : Over x y n A (s :: rest)) (hxy : x < y) : s.1 = hop x y A ∧ s.1 < s.2 ∧ s.2 ≤ n ∧ Over x y n s.2 rest := by
  obtain ⟨a1, a2, a3, a4, a5, a6⟩ := h.ap
  have n1 : ¬ (x ≤ s.1 ∧ s.1 < y) := of_decide_eq_false (a5 s.1 (Nat.le_refl _) a2)
  have ho := h.out
  have e : s.1 = hop x y A := by
    unfold hop
    split
    · rename_i hA
      subst hA
      rcases Nat.lt_or_ge y s.1 with h1 | h1
      · have := of_decide_eq_true (a4 y (by omega) h1); omega
      · omega
    · rename_i hA
      rcases Nat.lt_or_ge A s.1 with h1 | h1
      · have := of_decide_eq_true (a4 A (Nat.le_refl _) h1); omega
      · omega
  refine ⟨e, a2, a3, ?_, a3, a6⟩
  rcases Nat.lt_or_ge s.1 x with h1 | h1
  · rcases Nat.lt_or_ge x s.2 with h2 | h2
    · have : ¬ (x ≤ x ∧ x < y) := of_decide_eq_false (a5 x (by omega) h2)
      omega
    · exact .inl h2
  · exact .inr (by omega)
theorem Over.last {x y n A : Nat} (h : Over x y n A []) (hxy : x < y) (hy : y ≤ n) : hop x y A = n := by
  obtain ⟨a1, a2⟩ := h.ap
  have ho := h.out
  unfold hop
  split
  · rename_i hA
    subst hA
    rcases Nat.lt_or_ge y n with h1 | h1
    · have := of_decide_eq_true (a2 y (by omega) h1); omega
    · omega
  · rename_i hA
    rcases Nat.lt_or_ge A n with h1 | h1
    · have := of_decide_eq_true (a2 A (Nat.le_refl _) h1); omega
    · omega
theorem Over.start {x y n : Nat} {L : List (Nat × Nat)} (h : Apt 0 n L (fun i => decide (x ≤ i ∧ i < y))) : Over x y n 0 L := ⟨.inl (Nat.zero_le _), Nat.zero_le _, h⟩
end Tree
end Go.Proofs.YtejdecfpegpgcaaDoor

namespace Go.Proofs.YtejdecfpegpgcaaDoor
open Go.RowKit Go.Shelf
theorem ix_get {r : List Nat} {j x : Nat} (h : r[j]? = some x) : (ix r)[j]? = some (x : Int) := by unfold ix; rw [List.getElem?_map, h]; rfl
theorem pm_get {L : List (Nat × Nat)} {j : Nat} {s : Nat × Nat} (h : L[j]? = some s) : (L.map fun s => ((s.1 : Int), (s.2 : Int)))[j]? = some ((s.1 : Int), (s.2 : Int)) := by rw [List.getElem?_map, h]; rfl
theorem drop_get {L : List (Nat × Nat)} {j : Nat} {s : Nat × Nat} (h : L[j]? = some s) : L.drop j = s :: L.drop (j + 1) := by
  have hj : j < L.length := by
    rcases Nat.lt_or_ge j L.length with h2 | h2
    · exact h2
    · rw [List.getElem?_eq_none h2] at h; cases h
  rw [List.getElem?_eq_getElem hj] at h
  rw [List.drop_eq_getElem_cons hj, Option.some.inj h]
set_option maxRecDepth 100000 in
set_option maxHeartbeats 4000000 in
theorem apart_any (n : Nat) (L : List (Nat × Nat)) (r : List Nat) (al ar : Option Addr) (cl cr : Nat) (hn : n ≤ 1099511627776) (hL : L.length ≤ 1099511627776) (hrl : r.length ≤ 1099511627776) (hs : r.Pairwise (· < ·)) (hr : ∀ x ∈ r, x < n) (hap : Tree.Apt 0 n L (fun i => decide (i ∈ r))) (w : World) (h1 : AtP w al (L.map fun s => ((s.1 : Int), (s.2 : Int)))) (h2 : AtI w ar (ix r)) :
    Calls Tryd.prog 24 #[.int .i64 (n : Int), .slice al L.length cl, .slice ar r.length cr] w fun e w' => e = .returned (.bool true) ∧ Below w.heap.size w w' := by
  have H1 := hid h1
  have H2 := hid h2
  have HS := hid hs
  have HR := hid hr
  have S0 := hid (Tree.Stand.start hap)
  clear h1 h2 hs hr hap
  obtain ⟨M, hM⟩ : ∃ M, Hid (L.length = M) := ⟨_, rfl⟩
  obtain ⟨N, hN⟩ : ∃ N, Hid (r.length = N) := ⟨_, rfl⟩
  rw [hM.out] at hL ⊢
  rw [hN.out] at hrl ⊢
  go_enter Tryd.func24, Tryd.ntmps24
  go_wp2
  go_loopw [7, 8, 9] (fun a k i wr => ∃ A K I : Nat, a = .int .i64 (A : Int) ∧ k = .int .i64 (K : Int) ∧ i = .int .i64 (I : Int) ∧ I ≤ M ∧ Hid (Tree.Stand r n A K (L.drop I)) ∧ Hid (Below w.heap.size w wr)) (fun _ _ i _ => M + 1 - (intOf i).toNat)
  case atStart => exact ⟨0, 0, 0, rfl, rfl, rfl, by omega, S0, Below.refl _ _⟩
  case round =>
    clear S0
    obtain ⟨A, K, I, rfl, rfl, rfl, hI, hS, hB⟩ := hrel
    have b0 : (I : Int) ≤ (M : Int) := by omega
    obtain ⟨T, hT⟩ : ∃ T, Hid (Tree.tgt n (L.drop I) = T) := ⟨_, rfl⟩
    have hP := hid (hS.out.pos HR.out)
    rw [hT.out] at hP
    have hTn : T ≤ n := by
      rw [← hT.out]
      have ap := hS.out.ap
      cases hd : L.drop I with
      | nil => exact Nat.le_refl _
      | cons s rest =>
        rw [hd] at ap
        obtain ⟨a1, a2, a3, a4, a5, a6⟩ := ap
        show s.1 ≤ n
        omega
    go_wp2
    go_loopw [7, 8] (fun a k ws => ∃ A' K' : Nat, a = .int .i64 (A' : Int) ∧ k = .int .i64 (K' : Int) ∧ A' ≤ T ∧ K' ≤ N ∧ Hid (Tree.Pos r A' K' T) ∧ Hid (Below w.heap.size w ws)) (fun a _ _ => T - (intOf a).toNat)
    case atStart => exact ⟨A, K, rfl, rfl, hP.out.le, by have := hP.out.kl; have := hN.out; omega, hP, hB⟩
    case round =>
      clear hP hB
      obtain ⟨A', K', rfl, rfl, hA', hK', hP, hB⟩ := hrel
      have k0 : (0 : Int) ≤ (K' : Int) := by omega
      by_cases hgo : A' < T
      · obtain ⟨hg, hP2⟩ := hP.out.at HS.out hgo
        have hP2 := hid hP2
        have hKN : K' < N := by
          have := hP2.out.kl
          have := hN.out
          omega
        have b1 : (K' : Int) < (N : Int) := by omega
        obtain ⟨x, rfl, _, hc⟩ := (H2.out.below hB.out (Nat.le_refl _)) K' _ (ix_get hg)
        have wA : IntKind.i64.wrap ((A' : Int) + 1) = ((A' + 1 : Nat) : Int) := by rw [IntKind.wrap_i64]; omega
        have wK : IntKind.i64.wrap ((K' : Int) + 1) = ((K' + 1 : Nat) : Int) := by rw [IntKind.wrap_i64]; omega
        clear hg
        go_wp2
        exact ⟨⟨A' + 1, K' + 1, by go_num, by go_num, by omega, by omega, hP2, hB⟩, by simp [intOf]; omega⟩
      · obtain rfl : A' = T := by omega
        clear hgo
        by_cases hKN : K' < N
        · have b1 : (K' : Int) < (N : Int) := by omega
          obtain ⟨x, hx⟩ : ∃ x, r[K']? = some x := ⟨_, List.getElem?_eq_getElem (by have := hN.out; omega)⟩
          have hne := hP.out.done hx
          have hne' : ¬ (x : Int) = (A' : Int) := by omega
          obtain ⟨xa, rfl, _, hc⟩ := (H2.out.below hB.out (Nat.le_refl _)) K' _ (ix_get hx)
          clear hx hne
          by_cases hIM : I = M
          · subst hIM
            rw [List.drop_eq_nil_of_le (by have := hM.out; omega)] at hT
            have hT : n = A' := hT.out
            subst hT
            have hKe := Tree.Stand.last HR.out hP.out
            rw [hN.out] at hKe
            omega
          · have c0 : ¬ (I : Int) = (M : Int) := by omega
            have i0 : (0 : Int) ≤ (I : Int) := by omega
            have c1 : (I : Int) < (M : Int) := by omega
            obtain ⟨⟨B, E⟩, hq⟩ : ∃ s, L[I]? = some s := ⟨_, List.getElem?_eq_getElem (by have := hM.out; omega)⟩
            have hd := drop_get hq
            rw [hd] at hT hS
            have hT : B = A' := hT.out
            subst hT
            obtain ⟨n1, n2, n3⟩ := hS.out.next hP.out rfl
            have n1 : B < E := n1
            have n2 : E ≤ n := n2
            have n3 : Hid (Tree.Stand r n E K' (L.drop (I + 1))) := n3
            obtain ⟨g1, rfl, _, p0', p1'⟩ := (H1.out.below hB.out (Nat.le_refl _)) I _ (pm_get hq)
            have p0 : wr.cell? ⟨g1, I * 2, none⟩ = some (.int .i64 (B : Int)) := p0'
            have p1 : wr.cell? ⟨g1, I * 2 + 1, none⟩ = some (.int .i64 (E : Int)) := p1'
            have l1 : ¬ (E : Int) ≤ (B : Int) := by omega
            have wI : IntKind.i64.wrap ((I : Int) + 1) = ((I + 1 : Nat) : Int) := by rw [IntKind.wrap_i64]; omega
            clear hq hd hS hP p0' p1'
            go_wp2
            exact ⟨⟨E, K', I + 1, by go_num, by go_num, by go_num, by omega, n3, hB⟩, by simp [intOf]; omega⟩
        · obtain rfl : K' = N := by omega
          have b1 : ¬ (K' : Int) < (K' : Int) := by omega
          clear hKN
          by_cases hIM : I = M
          · subst hIM
            rw [List.drop_eq_nil_of_le (by have := hM.out; omega)] at hT
            have hT : n = A' := hT.out
            subst hT
            have hKe := Tree.Stand.last HR.out hP.out
            rw [hN.out] at hKe
            clear hKe
            go_wp2
            go_ret
            exact ⟨rfl, hB.out⟩
          · have c0 : ¬ (I : Int) = (M : Int) := by omega
            have i0 : (0 : Int) ≤ (I : Int) := by omega
            have c1 : (I : Int) < (M : Int) := by omega
            obtain ⟨⟨B, E⟩, hq⟩ : ∃ s, L[I]? = some s := ⟨_, List.getElem?_eq_getElem (by have := hM.out; omega)⟩
            have hd := drop_get hq
            rw [hd] at hT hS
            have hT : B = A' := hT.out
            subst hT
            obtain ⟨n1, n2, n3⟩ := hS.out.next hP.out rfl
            have n1 : B < E := n1
            have n2 : E ≤ n := n2
            have n3 : Hid (Tree.Stand r n E K' (L.drop (I + 1))) := n3
            obtain ⟨g1, rfl, _, p0', p1'⟩ := (H1.out.below hB.out (Nat.le_refl _)) I _ (pm_get hq)
            have p0 : wr.cell? ⟨g1, I * 2, none⟩ = some (.int .i64 (B : Int)) := p0'
            have p1 : wr.cell? ⟨g1, I * 2 + 1, none⟩ = some (.int .i64 (E : Int)) := p1'
            have l1 : ¬ (E : Int) ≤ (B : Int) := by omega
            have wI : IntKind.i64.wrap ((I : Int) + 1) = ((I + 1 : Nat) : Int) := by rw [IntKind.wrap_i64]; omega
            clear hq hd hS hP p0' p1'
            go_wp2
            exact ⟨⟨E, K', I + 1, by go_num, by go_num, by go_num, by omega, n3, hB⟩, by simp [intOf]; omega⟩
end Go.Proofs.YtejdecfpegpgcaaDoor

namespace Go.Proofs.YtejdecfpegpgcaaDoor
open Go.RowKit Go.Shelf
/-- what the document's lengths are, as closed facts of numbers -/
theorem lenOf_nat (N k : Nat) (h1 : k < N) (h2 : N ≤ 1099511627776) : lenOf (N : Int) (k : Int) = (((Tree.D N k).length : Int), 0) := by
  unfold lenOf
  rw [if_neg (by omega), if_neg (by omega), Int.toNat_natCast, Int.toNat_natCast]
theorem prfLen_nat (m N : Nat) (h0 : 1 ≤ m) (h1 : m ≤ N) (h2 : N ≤ 1099511627776) : prfLen (m : Int) (N : Int) = ((Tree.pl m N true : Int), 0) := by
  unfold prfLen
  rw [if_neg (by omega), Int.toNat_natCast, Int.toNat_natCast]
theorem D_le (N k : Nat) (h1 : k < N) (h2 : N ≤ 1099511627776) : (Tree.D N k).length ≤ 40 := by
  rw [Tree.D_U N N k (Nat.le_refl _) h1]
  exact Tree.U_len 40 _ _ (by omega)
theorem wit_whole {is : List Nat} {N : Nat} (h : ∀ i ∈ is, i < N) : Tree.wit is 0 (0 + N) = is := by
  unfold Tree.wit
  refine List.filter_eq_self.2 fun i hi => ?_
  have := h i hi
  exact decide_eq_true (by omega)
/-- a list of spans as the law reads it -/
abbrev pm (L : List (Nat × Nat)) : List (Int × Int) := L.map fun s => ((s.1 : Int), (s.2 : Int))
theorem path8_ans (N k dl : Nat) (h1 : k < N) (h2 : N ≤ 1099511627776) (hd : Hid ((Tree.D N k).length = dl)) (w : World) :
    Calls Tryd.prog 19 #[.int .i64 (N : Int), .int .i64 (k : Int)] w (Ans dl (pm (Tree.pthF N 0 N k)) w) := by
  have hE : pathE (N : Int) (k : Int) = 0 := by unfold pathE; rw [if_pos (by omega), if_pos (by omega)]
  have hL : pathL (N : Int) (k : Int) = Tree.pthF N 0 N k := by unfold pathL; rw [if_pos hE, Int.toNat_natCast, Int.toNat_natCast]
  refine (path8_any (N : Int) (k : Int) w).mono fun r w' h => h.ans hE ?_ (by rw [hL])
  rw [hL, Tree.pthF_len N 0 N k (Nat.le_refl _) (Nat.zero_le _), Nat.sub_zero, hd.out]
theorem proof8_ans (m N pl : Nat) (h0 : 1 ≤ m) (h1 : m ≤ N) (h2 : N ≤ 1099511627776) (hd : Hid (Tree.pl m N true = pl)) (w : World) :
    Calls Tryd.prog 20 #[.int .i64 (m : Int), .int .i64 (N : Int)] w (Ans pl (pm (Tree.prfF N 0 N m)) w) := by
  have hE : proofE (m : Int) (N : Int) = 0 := by unfold proofE; rw [if_pos (by omega)]
  have hL : proofL (m : Int) (N : Int) = Tree.prfF N 0 N m := by unfold proofL; rw [if_pos hE, Int.toNat_natCast, Int.toNat_natCast]
  refine (proof8_any (m : Int) (N : Int) w).mono fun r w' h => h.ans hE ?_ (by rw [hL])
  rw [hL, Tree.prfF_len N 0 N m (Nat.le_refl _) (by omega) (by omega), Nat.sub_zero]
  exact hd.out
theorem batch8_ans (N bl : Nat) (l : List Int) (h : BatOk (N : Int) l) (a : Option Addr) (cap : Nat) (hb : Hid ((Tree.othF N 0 N (toN l)).length = bl)) (w : World) (hA : AtI w a l) :
    Calls Tryd.prog 21 #[.int .i64 (N : Int), .slice a l.length cap] w (Ans bl (pm (Tree.othF N 0 N (toN l))) w) := by
  have hE := batchE_ok h
  have hL : batchL (N : Int) l = Tree.othF N 0 N (toN l) := by unfold batchL; rw [if_pos hE, Int.toNat_natCast]
  exact (batch8_any (N : Int) l a cap w (by have := h.l2; omega) hA).mono fun r w' h => h.ans hE (by rw [hL, hb.out]) (by rw [hL])
theorem run8_ans (N x y rl : Nat) (h0 : x < y) (h1 : y ≤ N) (h2 : N ≤ 1099511627776) (hd : Hid ((Tree.runF N 0 N x y).length = rl)) (w : World) :
    Calls Tryd.prog 25 #[.int .i64 (N : Int), sg x y] w (Ans rl (pm (Tree.runF N 0 N x y)) w) := by
  have hE : runE (N : Int) (x : Int) (y : Int) = 0 := by unfold runE; rw [if_pos (by omega), if_pos (by omega)]
  have hL : runL (N : Int) (x : Int) (y : Int) = Tree.runF N 0 N x y := by unfold runL; rw [if_pos hE, Int.toNat_natCast, Int.toNat_natCast, Int.toNat_natCast]
  exact (run8_any (N : Int) x y w).mono fun r w' h => h.ans hE (by rw [hL, hd.out]) (by rw [hL])
/-- H6 of a batch: how many spans -/
theorem bat_count {N : Nat} {l : List Int} (h : BatOk (N : Int) l) : (Tree.othF N 0 N (toN l)).length + l.length ≤ N ∧ (Tree.othF N 0 N (toN l)).length ≤ l.length * (Tree.D N 0).length := by
  have hN : 1 ≤ N := by have := h.n1; omega
  have hlt : ∀ i ∈ toN l, i < N := fun i hi => by have := h.lt i hi; rwa [Int.toNat_natCast] at this
  have hw := wit_whole hlt
  have hnd : (toN l).Nodup := h.sorted.imp fun {a b} hab => Nat.ne_of_lt hab
  have c1 := Tree.oth_count (toN l) hnd N 0 N (Nat.le_refl _) hN
  have c2 := Tree.oth_most (toN l) N 0 N (Nat.le_refl _) hN (Tree.tch_mem.2 (by
    have hl : 0 < (toN l).length := by rw [h.len]; exact h.l1
    exact ⟨(toN l)[0], List.getElem_mem hl, Nat.zero_le _, by have := hlt _ (List.getElem_mem hl); omega⟩))
  rw [hw, h.len] at c1 c2
  exact ⟨c1, c2⟩
theorem apart8_any (N bl : Nat) (l : List Int) (h : BatOk (N : Int) l) (al ar : Option Addr) (cl cr : Nat) (hb : Hid ((Tree.othF N 0 N (toN l)).length = bl)) (w : World) (h1 : AtP w al (pm (Tree.othF N 0 N (toN l)))) (h2 : AtI w ar l) :
    Calls Tryd.prog 24 #[.int .i64 (N : Int), .slice al bl cl, .slice ar l.length cr] w fun e w' => e = .returned (.bool true) ∧ Below w.heap.size w w' := by
  have hN : 1 ≤ N := by have := h.n1; omega
  have hN2 : N ≤ 1099511627776 := by have := h.n2; omega
  have hc := bat_count h
  have hi := h.ix
  have hA := Tree.othF_apart (toN l) N 0 N hN (Nat.le_refl _)
  rw [Nat.zero_add] at hA
  have := apart_any N _ (toN l) al ar cl cr hN2 (by omega) (by rw [h.len]; have := h.l2; omega) h.sorted (fun i hx => by have := h.lt i hx; rwa [Int.toNat_natCast] at this) hA w h1 (by rw [hi]; exact h2)
  rw [hb.out, h.len] at this
  exact this
end Go.Proofs.YtejdecfpegpgcaaDoor

namespace Go.Proofs.YtejdecfpegpgcaaDoor
open Go.RowKit Go.Shelf

/-- marks: pairs of a number and nought -/
def mks : Nat → Int → List Value
  | 0, _ => []
  | n + 1, m => mks n m ++ [.int .i64 m, .int .i64 0]
theorem mks_len (m : Int) : ∀ n, (mks n m).length = n * 2
  | 0 => rfl
  | n + 1 => by rw [mks, List.length_append, mks_len m n]; simp; omega
theorem mks_at (m : Int) : ∀ n j, j < n → (mks n m)[j * 2]? = some (.int .i64 m) ∧ (mks n m)[j * 2 + 1]? = some (.int .i64 0)
  | 0, j, h => by omega
  | n + 1, j, h => by
    have hl := mks_len m n
    rw [mks]
    by_cases e : j < n
    · have := mks_at m n j e
      rw [List.getElem?_append_left (by omega), List.getElem?_append_left (by omega)]
      exact this
    · obtain rfl : j = n := by omega
      rw [List.getElem?_append_right (by omega), List.getElem?_append_right (by omega), hl, Nat.sub_self, show j * 2 + 1 - j * 2 = 1 by omega]
      exact ⟨rfl, rfl⟩
theorem OwnM.set {m : Nat} {w : World} {g n c : Nat} {cs : List Value} (h : OwnM m w (.slice (some ⟨g, 0, none⟩) n c) n cs) {j : Nat} (hj : j < cs.length) (u : Value) :
    OwnM m (w.setCell ⟨g, j, none⟩ u) (.slice (some ⟨g, 0, none⟩) n c) n (cs.set j u) ∧ (∃ y, w.cell? ⟨g, j, none⟩ = some y) ∧ w.frozen? ⟨g, j, none⟩ = false := by
  rcases h with ⟨h, _⟩ | ⟨g', cap', h, h2, h3, h0, h4, h5, h6⟩
  · cases h
  injection h with e1 e2 e3
  injection e1 with e1
  injection e1 with e1
  subst e1 e3
  have ht := h5 j (by have := Nat.mul_le_mul_right m h2; omega)
  rw [Nat.zero_add] at ht
  obtain ⟨y, hy⟩ := Option.isSome_iff_exists.1 ht.1
  refine ⟨.inr ⟨g, c, rfl, h2, h3, by rw [List.length_set]; exact h0, ?_, ?_, by simpa [World.setCell] using h6⟩, ⟨y, hy⟩, ht.2⟩
  · intro k u' hk
    rw [List.getElem?_set] at hk
    rw [Nat.zero_add]
    split at hk
    · next e =>
      subst e
      (try split at hk) <;> first | (rw [World.cell?_setCell_same _ _ _ (by rw [hy]; try rfl)]; exact hk) | cases hk
    · next e =>
      rw [World.cell?_setCell_other _ _ _ _ (by simp; try exact fun e' => e e'.symm)]
      have := h4 k u' hk
      rwa [Nat.zero_add] at this
  · intro k hk
    have := h5 k hk
    rw [World.frozen?_setCell]
    refine ⟨?_, this.2⟩
    by_cases e : j = 0 + k
    · rw [← e, World.cell?_setCell_same _ _ _ (by rw [hy]; try rfl)]; rfl
    · rw [World.cell?_setCell_other _ _ _ _ (by simp; try exact fun e' => e (by omega))]; exact this.1
/-- the cells while the marks are written -/
theorem mks_set {cs : List Value} {k n : Nat} (hl : cs.length = n * 2) (hk : k < n) (m : Int) : ((mks k m ++ cs.drop (k * 2)).set (k * 2) (.int .i64 m)).set (k * 2 + 1) (.int .i64 0) = mks (k + 1) m ++ cs.drop ((k + 1) * 2) := by
  have h := mks_len m k
  rw [List.set_append_right _ _ (by omega), h, Nat.sub_self, List.set_append_right _ _ (by omega), h, show k * 2 + 1 - k * 2 = 1 by omega, List.drop_eq_getElem_cons (show k * 2 < cs.length by omega), List.drop_eq_getElem_cons (show k * 2 + 1 < cs.length by omega), mks, show (k + 1) * 2 = k * 2 + 1 + 1 by omega, List.append_assoc]
  rfl
/-- blocks by their roles: only those of role r are written -/
structure Wr (ρ : Nat → Nat) (r : Nat) (w w' : World) : Prop where
  os : w'.os = w.os
  tape : w'.tape = w.tape
  output : w'.output = w.output
  size : w.heap.size ≤ w'.heap.size
  block : ∀ k, k < w.heap.size → ρ k ≠ r → w'.heap[k]? = w.heap[k]?
/-- what is new has this role -/
def rx (ρ : Nat → Nat) (w : World) (r : Nat) : Nat → Nat := fun k => if k < w.heap.size then ρ k else r
theorem rx_old {ρ : Nat → Nat} {w : World} {r k : Nat} (h : k < w.heap.size) : rx ρ w r k = ρ k := if_pos h
theorem rx_new {ρ : Nat → Nat} {w : World} {r k : Nat} (h : w.heap.size ≤ k) : rx ρ w r k = r := if_neg (by omega)
theorem Wr.grow {ρ : Nat → Nat} {r : Nat} {w w' : World} {v v' : Value} (hg : Grow w w' v v') (hr : ∀ k, v.ownBlock = some k → ρ k = r) : Wr ρ r w w' :=
  ⟨hg.os, hg.tape, hg.output, hg.size, fun k hk hne => hg.old k hk (fun e => hne (hr k e))⟩
theorem Wr.setCell {ρ : Nat → Nat} {r : Nat} {w w' : World} (h : Wr ρ r w w') {g : Nat} (hg : g < w.heap.size → ρ g = r) (o : Nat) (u : Value) : Wr ρ r w (w'.setCell ⟨g, o, none⟩ u) :=
  ⟨h.os, h.tape, h.output, by simpa [World.setCell] using h.size, fun k hk hne => (heap_setCell_other w' ⟨g, o, none⟩ k u (fun e => hne (by subst e; exact hg hk))).trans (h.block k hk hne)⟩
theorem Wr.refl (ρ : Nat → Nat) (r : Nat) (w : World) : Wr ρ r w w := ⟨rfl, rfl, rfl, Nat.le_refl _, fun _ _ _ => rfl⟩
theorem Wr.below {ρ : Nat → Nat} {r : Nat} {w w' : World} (h : Below w.heap.size w w') : Wr ρ r w w' := ⟨h.os, h.tape, h.output, h.size, fun k hk _ => h.block k hk⟩
theorem Wr.own {ρ : Nat → Nat} {r : Nat} {w w' : World} {v v' : Value} (hg : Grow w w' v v') (hr : ∀ k, v.ownBlock = some k → ρ k = r) (hl : ∀ k, v.ownBlock = some k → k < w.heap.size) : ∀ k, v'.ownBlock = some k → rx ρ w r k = r := fun k e => by
  rcases hg.alt with e1 | ⟨e1, _⟩
  · rw [e1] at e; rw [rx_old (hl k e)]; exact hr k e
  · exact rx_new (e1 k e)
/-- a list that reads as marks -/
def Mk (w : World) (v : Value) (m : Int) : Prop := ∃ a n c, v = .slice a n c ∧ n ≤ 9223372036854775807 ∧ ∀ j, j < n → ∃ g, a = some ⟨g, 0, none⟩ ∧ g < w.heap.size ∧ w.cell? ⟨g, j * 2, none⟩ = some (.int .i64 m) ∧ w.cell? ⟨g, j * 2 + 1, none⟩ = some (.int .i64 0)
theorem Mk.kept {w w' : World} {v : Value} {m : Int} (h : Mk w v m) (hs : w.heap.size ≤ w'.heap.size) (hb : ∀ k, v.ownBlock = some k → k < w.heap.size → w'.heap[k]? = w.heap[k]?) : Mk w' v m := by
  obtain ⟨a, n, c, rfl, h1, h2⟩ := h
  refine ⟨a, n, c, rfl, h1, fun j hj => ?_⟩
  obtain ⟨g, rfl, h3, h4, h5⟩ := h2 j hj
  have e := hb g rfl h3
  exact ⟨g, rfl, by omega, (World.cell?_of_block (a := ⟨g, j * 2, none⟩) e).trans h4, (World.cell?_of_block (a := ⟨g, j * 2 + 1, none⟩) e).trans h5⟩
theorem OwnM.mk {w : World} {v : Value} {n : Nat} {m : Int} (h : OwnM 2 w v n (mks n m)) : Mk w v m := by
  obtain ⟨a, c, e, h1, h2⟩ := h.shape
  refine ⟨a, n, c, e, by omega, fun j hj => ?_⟩
  obtain ⟨g, c', e1, h3, h4⟩ := h.cell (mks_at m n j hj).1
  obtain ⟨g', c'', e2, h5, _⟩ := h.cell (mks_at m n j hj).2
  rw [e1] at e e2
  injection e with e3
  injection e2 with e4
  injection e4 with e4
  injection e4 with e4
  subst e4
  exact ⟨g, e3.symm, h4, h3, h5⟩
end Go.Proofs.YtejdecfpegpgcaaDoor
