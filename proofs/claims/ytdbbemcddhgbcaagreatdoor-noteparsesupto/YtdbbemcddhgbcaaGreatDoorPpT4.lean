import Derived.Test.YtdbbemcddhgbcaaGreatDoorPpM7
import Derived.Test.YtdbbemcddhgbcaaGreatDoorPpNB4
namespace Go.Proofs.YtdbbemcddhgbcaaGreatDoor
open Go.RowKit

theorem and63i (n : Nat) (h : n < 9223372036854775808) : bits .and .i64 (n : Int) 63 = ((n % 64 : Nat) : Int) := by
  rw [show (63 : Int) = ((63 : Nat) : Int) from rfl, Sha.i64_and_nat _ _ h (by omega), nat_mask6]
namespace Tx
theorem grp_at (g : List UInt8) (h : g.length ≤ 3) (j : Nat) (hj : j < 4) : (grp g)[j]? = some (if g.length < j then 61 else sgn (word3 g / 2 ^ (18 - 6 * j) % 64)) := by
  have hs := signs_at (word3 g) j hj
  unfold grp
  have hl : ((signs (word3 g)).take (g.length + 1)).length = g.length + 1 := by simp [signs]; omega
  by_cases e : g.length < j
  · rw [List.getElem?_append_right (by omega), if_pos e, List.getElem?_replicate, if_pos (by omega)]
  · rw [List.getElem?_append_left (by omega), if_neg e, List.getElem?_take, if_pos (by omega), ← hs, List.getD_eq_getElem?_getD]
    rw [List.getElem?_eq_getElem (by simpa [signs] using hj)]; rfl
theorem grp_take (g : List UInt8) (h : g.length ≤ 3) (j : Nat) (hj : j < 4) : (grp g).take (j + 1) = (grp g).take j ++ [if g.length < j then 61 else sgn (word3 g / 2 ^ (18 - 6 * j) % 64)] := by
  rw [List.take_add_one, grp_at g h j hj]; rfl
theorem b64_next (l : List UInt8) (h : 1 ≤ l.length) : b64 l = grp (l.take 3) ++ b64 (l.drop 3) := by
  by_cases h3 : 3 ≤ l.length
  · exact b64_three l h3
  · rw [b64_last l h (by omega), List.take_of_length_le (by omega), List.drop_of_length_le (by omega)]; simp [b64]
end Tx
theorem mid_getD (l : List UInt8) (a j : Nat) (hj : j < 3) : ((l.drop a).take 3).getD j 0 = l.getD (a + j) 0 := by
  simp only [List.getD_eq_getElem?_getD, List.getElem?_take, List.getElem?_drop, if_pos hj]

set_option maxRecDepth 100000 in
set_option maxHeartbeats 2000000 in
theorem rbase64_any (s : ByteArray) (hs : s.size ≤ 70368744177664) (w : World) :
    Calls Tryz.prog 28 #[.string s] w fun e w' => e = .returned (sv (Tx.b64 s.data.toList)) ∧ Below w.heap.size w w' := by
  have hs' : (s.size : Int) ≤ 70368744177664 := by omega
  obtain ⟨R, hR⟩ : ∃ R, Hid (Tx.b64 s.data.toList = R) := ⟨_, rfl⟩
  have hRl : Hid (R.length = (s.size + 2) / 3 * 4) := by rw [← hR.out, Tx.b64_length, data_length]; rfl
  rw [hR.out]
  go_enter Tryz.func28, Tryz.ntmps28
  go_wp2
  go_loopw [3, 4, 5, 6, 7, 8, 9] (fun v i _ _ _ _ _ w' => ∃ (k : Nat) (r : List UInt8), 3 * k < s.size + 3 ∧ i = .int .i64 ((3 * k : Nat) : Int) ∧ Hid (R = r ++ Tx.b64 (s.data.toList.drop (3 * k))) ∧ Hid (OwnB w' w.heap.size v r) ∧ Hid (Below w.heap.size w w')) (fun _ i _ _ _ _ _ _ => s.size + 3 - (intOf i).toNat)
  case atStart => exact ⟨0, [], by omega, rfl, by rw [List.nil_append]; exact hR.out.symm, Own.nil _ _, Below.refl _ _⟩
  case round =>
    obtain ⟨k, r, hk, rfl, hr, hown, hb⟩ := hrel
    by_cases hlt : 3 * k < s.size
    · have hlt' : ((3 * k : Nat) : Int) < (s.size : Int) := by omega
      obtain ⟨g, hg⟩ : ∃ g, Hid (g = (s.data.toList.drop (3 * k)).take 3) := ⟨_, rfl⟩
      have hgl : g.length = min 3 (s.size - 3 * k) := by rw [hg.out, List.length_take, List.length_drop, data_length]
      have hgd : Hid (∀ j, j < 3 → g.getD j 0 = s.data.toList.getD (3 * k + j) 0) := fun j hj => by rw [hg.out, mid_getD _ _ _ hj]
      have hr2 : Hid (R = (r ++ Tx.grp g) ++ Tx.b64 (s.data.toList.drop (3 * (k + 1)))) := by
        unfold Hid
        rw [hr.out, Tx.b64_next _ (by rw [List.length_drop, data_length]; omega), ← hg.out, List.drop_drop, List.append_assoc, show 3 * k + 3 = 3 * (k + 1) by omega]
      have hrl : r.length ≤ 140737488355000 := by
        have := congrArg List.length hr.out
        rw [hRl.out, List.length_append] at this
        omega
      clear hg hr
      go_wp2
      go_loop [5, 6, 7] (fun n m i => ∃ j : Nat, j ≤ 3 ∧ i = .int .i64 j ∧ n = .int .i64 (Tx.wk g j : Nat) ∧ m = .int .i64 ((min j g.length : Nat) : Int)) (fun _ _ i => 3 - (intOf i).toNat)
      case atStart => exact ⟨0, by omega, rfl, rfl, by simp⟩
      case round =>
        obtain ⟨j, hj, rfl, rfl, rfl⟩ := hrel
        by_cases hj3 : j < 3
        · have b0 : (j : Int) < 3 := by omega
          have lw : Tx.wk g j < 65536 := by
            have := Tx.wk_lt g j
            have h2 : 256 ^ j ≤ 256 ^ 2 := Nat.pow_le_pow_right (by decide) (by omega)
            omega
          have hwk := hid (show Tx.wk g (j + 1) = Tx.wk g j * 256 + (g.getD j 0).toNat from rfl)
          have c1 : IntKind.i64.wrap (256 * (Tx.wk g j : Int)) = 256 * (Tx.wk g j : Int) := wrap_small _ (by omega) (by omega)
          by_cases hin : j < g.length
          · have hin' : 3 * (k : Int) + (j : Int) < (s.size : Int) := by omega
            obtain ⟨x, ex, lx, _, jx⟩ := index_any s (3 * (k : Int) + (j : Int)) (3 * k + j) (by omega) (by omega)
            rw [hgd.out j hj3, ← ex.out] at hwk
            have t1 : (3 * (k : Int) + (j : Int)).toNat = 3 * k + j := by omega
            have hm1 : min j g.length = j := by omega
            have c2 : IntKind.i64.wrap (256 * (Tx.wk g j : Int) + x) = 256 * (Tx.wk g j : Int) + x := wrap_small _ (by omega) (by omega)
            rw [hm1]
            clear hm1
            generalize Tx.wk g j = a at *
            go_wp2
            exact ⟨⟨j + 1, by omega, by go_num, val_int (by rw [hwk.out]; omega), val_int (by omega)⟩, by simp [intOf]; omega⟩
          · have hin' : ¬ 3 * (k : Int) + (j : Int) < (s.size : Int) := by omega
            have hz : (g.getD j 0).toNat = 0 := by rw [List.getD_eq_getElem?_getD, List.getElem?_eq_none (by omega)]; rfl
            rw [hz] at hwk
            have hm1 : min j g.length = g.length := by omega
            rw [hm1]
            clear hm1
            generalize Tx.wk g j = a at *
            go_wp2
            exact ⟨⟨j + 1, by omega, by go_num, val_int (by rw [hwk.out]; omega), val_int (by omega)⟩, by simp [intOf]; omega⟩
        · obtain rfl : j = 3 := by omega
          have ln : Tx.wk g 3 < 16777216 := Tx.wk_lt g 3
          have Hn := hid (Tx.wk_three g)
          have hm3 : min 3 g.length = g.length := by omega
          rw [hm3]
          clear hm3
          generalize Tx.wk g 3 = n at *
          go_wp2
          go_loopw [3, 8, 9] (fun v i _ w' => ∃ j : Nat, j ≤ 4 ∧ i = .int .i64 j ∧ Hid (OwnB w' w.heap.size v (r ++ (Tx.grp g).take j)) ∧ Hid (Below w.heap.size w w')) (fun _ i _ _ => 4 - (intOf i).toNat)
          case atStart => exact ⟨0, by omega, rfl, hid (by simpa using hown.out), hb⟩
          case round =>
            clear hown hb
            obtain ⟨j, hj, rfl, hown, hb⟩ := hrel
            by_cases hj4 : j < 4
            · have b0 : (j : Int) < 4 := by omega
              have b1 : (j : Int) ≤ 3 := by omega
              have ediv : (n : Int) / 2 ^ (18 - 6 * j) = ((n / 2 ^ (18 - 6 * j) : Nat) : Int) := by rw [Int.natCast_ediv, Int.natCast_pow]; rfl
              have ldiv : n / 2 ^ (18 - 6 * j) < 9223372036854775808 := Nat.lt_of_le_of_lt (Nat.div_le_self _ _) (by omega)
              have hand : bits .and .i64 ((n : Int) / 2 ^ (18 - 6 * j)) 63 = (n : Int) / 2 ^ (18 - 6 * j) % 64 := by rw [ediv, and63i _ ldiv]; omega
              have htab := tab_at ((n : Int) / 2 ^ (18 - 6 * j) % 64) (n / 2 ^ (18 - 6 * j) % 64) (by rw [ediv]; omega) (by omega)
              have c0 : (0 : Int) ≤ (n : Int) / 2 ^ (18 - 6 * j) % 64 := by omega
              have c1 : (n : Int) / 2 ^ (18 - 6 * j) % 64 < 64 := by omega
              simp only [Tx.tab] at htab
              have hgt := Tx.grp_take g (by omega) j hj4
              rw [← Hn.out] at hgt
              have hlen : (r ++ (Tx.grp g).take j).length ≤ 140737488355100 := by rw [List.length_append, List.length_take]; omega
              by_cases hjm : g.length < j
              · have hjm' : (g.length : Int) < (j : Int) := by omega
                rw [if_pos hjm] at hgt
                obtain ⟨v2, w2, hc, hown2, hg2, _⟩ := append_new wr w.heap.size u3 _ [61] 1 #[.int .u8 61] rfl rfl hown.out (by omega) hb.out.size (by omega)
                rw [List.append_assoc, ← hgt] at hown2
                have Hown2 := hid hown2
                have Hb2 := hid (hb.out.trans (Below.ofGrown hg2 hown.out.ge hb.out.size))
                clear hown2 hg2 ediv ldiv hgt
                go_wp2_with (at_builtin; go_must (refine Lib.wpList_append_run _ rfl _ _ 43 43 rfl _ _ rfl rfl _ _ hc ?_))
                exact ⟨⟨j + 1, by omega, by go_num, Hown2, Hb2⟩, by simp [intOf]; omega⟩
              · have hjm' : ¬ (g.length : Int) < (j : Int) := by omega
                rw [if_neg hjm] at hgt
                obtain ⟨v2, w2, hc, hown2, hg2, _⟩ := append_new wr w.heap.size u3 _ [Tx.sgn (n / 2 ^ (18 - 6 * j) % 64)] 1 #[.int .u8 (Tx.sgn (n / 2 ^ (18 - 6 * j) % 64)).toNat] rfl rfl hown.out (by omega) hb.out.size (by omega)
                rw [List.append_assoc, ← hgt] at hown2
                have Hown2 := hid hown2
                have Hb2 := hid (hb.out.trans (Below.ofGrown hg2 hown.out.ge hb.out.size))
                clear hown2 hg2 ediv ldiv hgt
                generalize (Tx.sgn (n / 2 ^ (18 - 6 * j) % 64)).toNat = q at *
                go_wp2_with (at_builtin; go_must (refine Lib.wpList_append_run _ rfl _ _ 43 43 rfl _ _ rfl rfl _ _ hc ?_))
                exact ⟨⟨j + 1, by omega, by go_num, Hown2, Hb2⟩, by simp [intOf]; omega⟩
            · obtain rfl : j = 4 := by omega
              have hall := hown.out
              rw [List.take_of_length_le (by rw [Tx.grp_length _ (by omega) (by omega)]; omega)] at hall
              have Hall := hid hall
              clear hall
              go_wp2
              exact ⟨⟨k + 1, _, by omega, by go_num, hr2, Hall, hb⟩, by simp [intOf]; omega⟩
    · have hlt' : ¬ ((3 * k : Nat) : Int) < (s.size : Int) := by omega
      have hcv := conv_all hown.out
      have hf : Hid (R = r) := by
        have := hr.out
        rw [List.drop_of_length_le (by rw [data_length]; omega), Tx.b64, List.append_nil] at this
        exact this
      go_wp2
      go_ret
      exact ⟨by rw [hf.out]; rfl, hb.out⟩
end Go.Proofs.YtdbbemcddhgbcaaGreatDoor

/- Layer 22: the document's bodied, digits -/
namespace Go.Proofs.YtdbbemcddhgbcaaGreatDoor
open Go.RowKit Go.Shelf
namespace Nt
set_option maxRecDepth 100000 in
set_option maxHeartbeats 4000000 in
theorem rbodied_any (O R : ByteArray) (z : Int) (v : Value) (hO : O.size ≤ 9223372036854775807) (B : Bool) (hB : bdB O z R = B) (w : World) : Calls Tryz.prog 39 #[nv O z R v] w fun q w' => q = .returned (.bool B) ∧ Below w.heap.size w w' := by
  have i2 := risName_any O hO (w.alloc (.cells #[.string O, .int .i64 z, .string R, v] 26))
  have B0 := hid ((Below.refl w.heap.size w).alloc (Nat.le_refl _) (.cells #[.string O, .int .i64 z, .string R, v] 26))
  have S0 := hid (Bx.new w O z R v)
  unfold bdB at hB
  unfold nv
  go_enter Tryz.func39, Tryz.ntmps39
  cases hn : nmB O.data.toList with
  | false =>
    rw [hn] at i2
    have hf : B = false := by rw [← hB, hn, Bool.false_and, Bool.false_and]
    subst hf
    clear hB
    go_upto_region 2 with (go_at_call 43; (refine i2.mono ?_); rintro q w1 ⟨rfl, b1⟩)
    have B1 := hid (B0.out.trans (b1.mono B0.out.size))
    clear i2 b1
    go_wp2
    go_ret
    exact ⟨rfl, B1.out⟩
  | true =>
    rw [hn] at i2
    have hf : (decide (0 ≤ z ∧ z ≤ 1099511627776) && decide (R.size = 32)) = B := by rw [← hB, hn, Bool.true_and]
    clear hB
    go_upto_region 2 with (go_at_call 43; (refine i2.mono ?_); rintro q w1 ⟨rfl, b1⟩)
    have B1 := hid (B0.out.trans (b1.mono B0.out.size))
    have s1 := S0.out.below b1
    have p1 := s1.c1
    have p2 := s1.c2
    clear i2 b1 s1
    by_cases z0 : 0 ≤ z
    · by_cases z1 : z ≤ 1099511627776
      · by_cases zr : R.size = 32
        · have hb : B = true := by rw [← hf, decide_eq_true ⟨z0, z1⟩, decide_eq_true zr, Bool.true_and]
          subst hb
          have zr' : (R.size : Int) = 32 := by omega
          clear hf zr
          go_wp2
          all_goals go_ret
          all_goals exact ⟨rfl, B1.out⟩
        · have hb : B = false := by rw [← hf, decide_eq_false zr, Bool.and_false]
          subst hb
          have zr' : ((R.size : Int) == 32) = false := by simp; omega
          clear hf zr
          go_wp2
          all_goals go_ret
          all_goals exact ⟨rfl, B1.out⟩
      · have hb : B = false := by rw [← hf, decide_eq_false (by omega), Bool.false_and]
        subst hb
        clear hf
        go_wp2
        all_goals go_ret
        all_goals exact ⟨rfl, B1.out⟩
    · have hb : B = false := by rw [← hf, decide_eq_false (by omega), Bool.false_and]
      subst hb
      clear hf
      go_wp2
      all_goals go_ret
      all_goals exact ⟨rfl, B1.out⟩
/-- what is left of a number's digits -/
def dgs (k : Nat) : List UInt8 := if k = 0 then [] else Lib.decDigits k
theorem dec_step (k : Nat) : Lib.decDigits k = dgs (k / 10) ++ [UInt8.ofNat (48 + k % 10)] := by
  unfold dgs
  rw [Lib.decDigits]
  split
  · rename_i h
    rw [if_pos (by omega), Nat.mod_eq_of_lt h]
    rfl
  · rename_i h
    rw [if_neg (by omega)]
theorem dgs_step {k : Nat} (h : 0 < k) : dgs k = dgs (k / 10) ++ [UInt8.ofNat (48 + k % 10)] := by
  rw [← dec_step]
  unfold dgs
  rw [if_neg (by omega)]
theorem cons_arr (x : UInt8) (A : List UInt8) : (⟨#[x]⟩ : ByteArray) ++ ⟨A.toArray⟩ = ⟨(x :: A).toArray⟩ := by
  rw [ByteArray.mk_append_mk]
  simp
theorem dig_at : ∀ d, d < 10 → (⟨#[48, 49, 50, 51, 52, 53, 54, 55, 56, 57]⟩ : ByteArray).extract d (d + 1) = ⟨#[UInt8.ofNat (48 + d)]⟩ := by decide +kernel
set_option maxRecDepth 100000 in
set_option maxHeartbeats 4000000 in
theorem rdigits_any (N : Nat) (hN : N ≤ 4611686018427387904) (w : World) : Calls Tryz.prog 44 #[.int .i64 (N : Int)] w fun q w' => q = .returned (.string (iT (N : Int))) ∧ w' = w := by
  have d10 := Nat.mod_lt N (show 0 < 10 by omega)
  have e1 := dig_at (N % 10) d10
  have m0 : (0 : Int) ≤ (N : Int) % 10 := by omega
  have m1 : (N : Int) % 10 ≤ 9 := by omega
  go_enter Tryz.func44, Tryz.ntmps44
  go_upto_region 2 with fail
  rw [e1]
  clear e1 m0 m1
  go_wp2
  go_loopw [0, 3] (fun k v w' => ∃ (K : Nat) (A : List UInt8), w' = w ∧ k = .int .i64 (K : Int) ∧ K ≤ N ∧ v = .string ⟨A.toArray⟩ ∧ Hid (Lib.decDigits N = dgs K ++ A) ∧ Hid (A.length + K ≤ N + 1)) (fun k _ _ => (intOf k).toNat)
  case atStart => exact ⟨N / 10, [UInt8.ofNat (48 + N % 10)], rfl, by go_num, by omega, rfl, dec_step N, by unfold Hid; simp; omega⟩
  case round =>
    obtain ⟨K, A, rfl, rfl, hK, rfl, hD, hL⟩ := hrel
    by_cases hk : 0 < K
    · have e0 : (0 : Int) < (K : Int) := by omega
      have e2 := hid (dig_at (K % 10) (Nat.mod_lt K (by omega)))
      have m0 : (0 : Int) ≤ (K : Int) % 10 := by omega
      have m1 : (K : Int) % 10 ≤ 9 := by omega
      have hD' : Hid (Lib.decDigits N = dgs (K / 10) ++ (UInt8.ofNat (48 + K % 10) :: A)) := by
        unfold Hid
        rw [hD.out, dgs_step hk]
        simp
      have hL' : Hid ((UInt8.ofNat (48 + K % 10) :: A).length + K / 10 ≤ N + 1) := by
        have := hL.out
        unfold Hid
        simp only [List.length_cons]
        omega
      have sz : ¬ 9223372036854775807 < 1 + A.length := by have := hL.out; omega
      clear hD hL
      go_wp2
      exact ⟨⟨K / 10, UInt8.ofNat (48 + K % 10) :: A, trivial, by go_num, by omega, by rw [e2.out, cons_arr], hD', hL'⟩, by simp [intOf]; omega⟩
    · obtain rfl : K = 0 := by omega
      have e0 : ¬ (0 : Int) < ((0 : Nat) : Int) := by omega
      have he : iT (N : Int) = ⟨A.toArray⟩ := by
        unfold iT Lib.itoa
        rw [if_neg (by omega), Int.toNat_natCast, hD.out]
        rfl
      have HE := hid he
      clear he
      go_wp2
      go_ret
      exact ⟨by rw [HE.out]; rfl, rfl⟩
end Nt
end Go.Proofs.YtdbbemcddhgbcaaGreatDoor

/- Layer 22: the document's body -/
namespace Go.Proofs.YtdbbemcddhgbcaaGreatDoor
open Go.RowKit Go.Shelf
namespace Nt
theorem ba_ext {a b : ByteArray} (h : a.data.toList = b.data.toList) : a = b := by
  cases a with | mk a => cases b with | mk b =>
    congr 1
    exact Array.toList_inj.1 h
theorem bdT_eq (O R : ByteArray) (z : Int) : bdT O z R = (((((O ++ ⟨#[10]⟩) ++ iT z) ++ ⟨#[10]⟩) ++ bT R) ++ ⟨#[10]⟩) := by
  apply ba_ext
  unfold bdT
  simp [lnL, ByteArray.data_append]
theorem rb64T_any (s : ByteArray) (hs : s.size ≤ 70368744177664) (w : World) : Calls Tryz.prog 28 #[.string s] w fun e w' => e = .returned (.string (bT s)) ∧ Below w.heap.size w w' := rbase64_any s hs w
set_option maxRecDepth 100000 in
set_option maxHeartbeats 8000000 in
theorem rbody_any (O R : ByteArray) (Z : Nat) (v : Value) (hO : O.size ≤ 1000) (hR : R.size ≤ 1000) (hz : Z ≤ 1099511627776) (w : World) : Calls Tryz.prog 27 #[nv O (Z : Int) R v] w fun q w' => q = .returned (.string (bdT O (Z : Int) R)) ∧ Below w.heap.size w w' := by
  have B0 := hid ((Below.refl w.heap.size w).alloc (Nat.le_refl _) (.cells #[.string O, .int .i64 (Z : Int), .string R, v] 26))
  have S0 := hid (Bx.new w O (Z : Int) R v)
  obtain ⟨W, hW⟩ : ∃ W, w.alloc (.cells #[.string O, .int .i64 (Z : Int), .string R, v] 26) = W := ⟨_, rfl⟩
  unfold Hid at B0 S0
  rw [hW] at B0 S0
  obtain ⟨g, hg⟩ : ∃ g, w.heap.size = g := ⟨_, rfl⟩
  rw [hg] at S0
  have i1 := fun w' => rdigits_any Z (by omega) w'
  have i2 := fun w' => rb64T_any R (by omega) w'
  have sI := iT_size (Z : Int) (by omega) (by omega)
  have sB := bT_size R
  have a1 : ¬ 9223372036854775807 < O.size + (⟨#[10]⟩ : ByteArray).size := by show ¬ _ < O.size + 1; omega
  have a1' : ¬ 9223372036854775807 < O.size + 1 := by omega
  have cs : ∀ w' : World, Below W.heap.size W w' → w'.cell? ⟨g, 0, none⟩ = some (.string O) ∧ w'.cell? ⟨g, 1, none⟩ = some (.int .i64 (Z : Int)) ∧ w'.cell? ⟨g, 2, none⟩ = some (.string R) := fun w' bb => ⟨(S0.below bb).c0, (S0.below bb).c1, (S0.below bb).c2⟩
  have d0 := cs W (Below.refl _ _)
  have CS := hid cs
  have HB := hid (bdT_eq O R (Z : Int))
  obtain ⟨I, hI⟩ : ∃ I, iT (Z : Int) = I := ⟨_, rfl⟩
  obtain ⟨T, hT⟩ : ∃ T, bT R = T := ⟨_, rfl⟩
  unfold Hid at HB
  rw [hI] at i1 sI HB
  rw [hT] at i2 sB HB
  have a2 : ¬ 9223372036854775807 < O.size + 1 + I.size := by omega
  have a3 : ¬ 9223372036854775807 < O.size + 1 + I.size + 1 := by omega
  have a4 : ¬ 9223372036854775807 < O.size + 1 + I.size + 1 + T.size := by omega
  have a5 : ¬ 9223372036854775807 < O.size + 1 + I.size + 1 + T.size + 1 := by omega
  have HB := hid HB
  have B0 := hid B0
  have HG := hid hg
  have HW := hid hW
  clear hg hW S0 cs hI hT sI sB
  rw [HB.out]
  unfold nv
  go_enter Tryz.func27, Tryz.ntmps27
  go_upto_region 1 with fail
  rw [HW.out, HG.out]
  go_region_held3 (fun W => W.cell? ⟨g, 0, none⟩ = some (.string O) ∧ W.cell? ⟨g, 1, none⟩ = some (.int .i64 (Z : Int)) ∧ W.cell? ⟨g, 2, none⟩ = some (.string R)) (first | exact d0 | exact d2) (first
    | (go_at_call 44; (refine (i1 _).mono ?_); rintro q w1 ⟨rfl, h0⟩; have h0 := h0.symm; subst h0)
    | (go_at_call 28; (refine (i2 _).mono ?_); rintro q w2 ⟨rfl, b2⟩; have b2 := (bw_drew W).trans b2; have d2 := CS.out w2 b2; have B2 := hid b2; clear b2))
  all_goals go_wp2
  all_goals go_ret
  all_goals exact ⟨rfl, B0.out.trans (B2.out.mono B0.out.size)⟩
end Nt
end Go.Proofs.YtdbbemcddhgbcaaGreatDoor
