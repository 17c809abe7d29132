import Derived.Test.YteilkpihddfpeaaGreatDoorPkF1
namespace Go.Proofs.YteilkpihddfpeaaGreatDoor
open Go.RowKit Cod

theorem i64_small (n : Nat) (h : n < 9223372036854775808) : IntKind.i64.wrap (n : Int) = (n : Int) := by rw [IntKind.wrap_i64]; omega
theorem i64_or_nat (a b : Nat) (ha : a < 9223372036854775808) (hb : b < 9223372036854775808) : bits .or .i64 (a : Int) (b : Int) = ((a ||| b : Nat) : Int) := by
  have hx : a ||| b < 2 ^ 63 := Nat.or_lt_two_pow (by omega) (by omega)
  show IntKind.i64.wrap ((BitVec.ofInt 64 (a : Int) ||| BitVec.ofInt 64 (b : Int)).toNat : Int) = _
  rw [BitVec.toNat_or, ofInt_u64 a (by omega), ofInt_u64 b (by omega)]
  exact i64_small _ hx
theorem u8_and (x : Nat) (h : x < 256) : bits .and .u8 (x : Int) 127 = ((x % 128 : Nat) : Int) := by
  have key : ∀ m : Fin 256, bits .and .u8 ((m.val : Nat) : Int) 127 = ((m.val % 128 : Nat) : Int) := by decide +kernel
  exact key ⟨x, h⟩
theorem pow7 (k : Nat) : 2 ^ (7 * k) = 128 ^ k := by rw [Nat.pow_mul]
theorem pow128_le {k : Nat} (h : k ≤ 8) : 128 ^ k ≤ 72057594037927936 := by
  have := Nat.pow_le_pow_right (show 0 < 128 by omega) h
  have e : 128 ^ 8 = 72057594037927936 := by decide
  omega
theorem or_dig (acc y k : Nat) (hk : k ≤ 8) (ha : acc < 128 ^ k) (hy : y < 128) : bits .or .i64 (acc : Int) ((y : Int) * 2 ^ (7 * k)) = ((acc + y * 128 ^ k : Nat) : Int) := by
  have hp := pow128_le hk
  have e : (y : Int) * 2 ^ (7 * k) = ((y * 128 ^ k : Nat) : Int) := by rw [Int.natCast_mul, ← pow7]; rfl
  have hm : y * 128 ^ k ≤ 127 * 72057594037927936 := Nat.mul_le_mul (by omega) hp
  rw [e, i64_or_nat _ _ (by omega) (by omega)]
  congr 1
  rw [← pow7] at ha ⊢
  rw [Nat.or_comm, Nat.mul_comm y, ← Nat.two_pow_add_eq_or_of_lt ha, Nat.add_comm]
theorem dig_lt (acc y k : Nat) (hk : k ≤ 8) (ha : acc < 128 ^ k) (hy : y < 128) : acc + y * 128 ^ k < 128 ^ (k + 1) ∧ acc + y * 128 ^ k ≤ 9223372036854775807 := by
  have hp := pow128_le hk
  have h2 : y * 128 ^ k ≤ 127 * 128 ^ k := Nat.mul_le_mul_right _ (by omega)
  rw [Nat.pow_succ]
  omega
theorem wrap_dig (y k : Nat) (hk : k ≤ 8) (hy : y < 128) : IntKind.i64.wrap ((y : Int) * 2 ^ (7 * k)) = (y : Int) * 2 ^ (7 * k) := by
  have hp := pow128_le hk
  have e : (y : Int) * 2 ^ (7 * k) = ((y * 128 ^ k : Nat) : Int) := by rw [Int.natCast_mul, ← pow7]; rfl
  have hm : y * 128 ^ k ≤ 127 * 72057594037927936 := Nat.mul_le_mul (by omega) hp
  rw [e]; exact i64_small _ (by omega)

/-- what is read, as a tuple -/
def tupN : Rd Nat → Value
  | .bad e => .tuple #[.int .i64 0, sv [], .int .i64 (e : Int)]
  | .good n r => .tuple #[.int .i64 (n : Int), sv r, .int .i64 0]
def tupS : Rd (List UInt8) → Value
  | .bad e => .tuple #[sv [], sv [], .int .i64 (e : Int)]
  | .good t r => .tuple #[sv t, sv r, .int .i64 0]

theorem sv_of (b : ByteArray) : sv b.data.toList = .string b := by
  cases b with
  | mk d => simp [sv]
theorem sv_drop (s : ByteArray) (k : Nat) : sv (s.data.toList.drop k) = .string (s.extract k s.size) := by
  rw [← sv_of, Lib.extract_data, List.take_of_length_le (by rw [List.length_drop, data_length]; omega)]
theorem sv_take (s : ByteArray) (k : Nat) : sv (s.data.toList.take k) = .string (s.extract 0 k) := by
  rw [← sv_of, Lib.extract_data, List.drop_zero]; rfl
set_option maxRecDepth 100000 in
set_option maxHeartbeats 1000000 in
theorem numAt_any (s : ByteArray) (w : World) (hs : s.size ≤ maxLen) :
    Calls Tryz.prog 44 #[.string s] w fun r w' => r = .returned (tupN (rdNum s.data.toList)) ∧ Below w.heap.size w w' := by
  unfold maxLen at hs
  obtain ⟨R, hR⟩ : ∃ R, Hid (rdNum s.data.toList = R) := ⟨_, rfl⟩
  rw [hR.out]
  go_enter Tryz.func44, Tryz.ntmps44
  go_wp2
  go_loopw [5, 8] (fun n i w' => ∃ (k acc : Nat), k ≤ 9 ∧ k ≤ s.size ∧ i = .int .i64 k ∧ n = .int .i64 (acc : Int) ∧ Hid (acc < 128 ^ k) ∧ Hid (rdDig (s.data.toList.drop k) k acc = R) ∧ w' = w) (fun _ i _ => 9 - (intOf i).toNat)
  case atStart => exact ⟨0, 0, by omega, by omega, rfl, rfl, by show 0 < 1; omega, hR.out, rfl⟩
  case round =>
    obtain ⟨k, acc, hk, hks, rfl, rfl, ha, hr, rfl⟩ := hrel
    by_cases hk9 : k < 9
    · have b0 : (k : Int) < 9 := by omega
      by_cases hlt : k < s.size
      · have b1 : (k : Int) < (s.size : Int) := by omega
        have b2 : ((k : Int) == (s.size : Int)) = false := by simp; omega
        obtain ⟨x, hx, hx2, hi, hi2⟩ := index_any s (k : Int) k rfl hlt
        obtain ⟨z, hz⟩ : ∃ z : Nat, Hid (x % 128 * 128 ^ k = z) := ⟨_, rfl⟩
        obtain ⟨n2, hn2⟩ : ∃ n2 : Nat, Hid (acc + z = n2) := ⟨_, rfl⟩
        have hz63 : z < 9223372036854775808 := by
          have hp := pow128_le (show k ≤ 8 by omega)
          have hm : x % 128 * 128 ^ k ≤ 127 * 72057594037927936 := Nat.mul_le_mul (by omega) hp
          rw [← hz.out]; omega
        obtain ⟨y, hy⟩ : ∃ y : Nat, Hid (x % 128 = y) := ⟨_, rfl⟩
        have hy2 : y < 128 := by rw [← hy.out]; omega
        have h0 : bits .and .u8 (x : Int) 127 = (y : Int) := by rw [u8_and x hx2, hy.out]
        have h1 : wrap64 ((y : Int) * 2 ^ (7 * k)) = (z : Int) := by
          have e2 : (y : Int) * 2 ^ (7 * k) = (z : Int) := by
            rw [← hz.out, hy.out, Int.natCast_mul, ← pow7]; rfl
          rw [e2]
          unfold wrap64
          omega
        have h3 : bits .or .i64 (acc : Int) (z : Int) = (n2 : Int) := by
          have e := or_dig acc (x % 128) k (by omega) ha.out (by omega)
          rw [← hn2.out, ← hz.out, ← e]
          congr 1
          rw [Int.natCast_mul, ← pow7]; rfl
        have t1 : (7 * (k : Int)).toNat = 7 * k := by omega
        obtain ⟨hl1, hl2⟩ := dig_lt acc (x % 128) k (by omega) ha.out (by omega)
        have hHl := hid hl1
        rw [hz.out, hn2.out] at hl2
        clear hl1
        have hcons : s.data.toList.drop k = UInt8.ofNat x :: s.data.toList.drop (k + 1) := by
          have hk' : k < s.data.toList.length := by rw [data_length]; exact hlt
          rw [List.drop_eq_getElem_cons hk']
          congr 1
          rw [hx.out, List.getD_eq_getElem?_getD, List.getElem?_eq_getElem hk']
          simp
        have hxu : (UInt8.ofNat x).toNat = x := by simp; omega
        have hr2 := hr.out
        rw [hcons, rdDig, if_neg (by omega), hxu] at hr2
        have HI2 := hid hi2
        clear hi2
        by_cases hge : 128 ≤ x
        · rw [if_pos hge, hz.out, hn2.out] at hr2
          have HR2 := hid hr2
          have b3 : (128 : Int) ≤ (x : Int) := by omega
          clear hr2 hxu hcons
          go_wp2
          exact ⟨⟨k + 1, n2, by omega, by omega, by go_num, rfl, by show _ < _; rw [← hn2.out, ← hz.out]; exact hHl.out, HR2, trivial⟩, by simp [intOf]; omega⟩
        · rw [if_neg hge] at hr2
          have b3 : ¬ (128 : Int) ≤ (x : Int) := by omega
          by_cases h0 : x = 0 ∧ 0 < k
          · rw [if_pos h0] at hr2
            subst hr2
            have b4 : ((x : Int) == 0) = true := by simp; omega
            have b5 : (0 : Int) < (k : Int) := by omega
            clear hxu hcons
            go_wp2
            go_ret3
            exact ⟨rfl, Below.refl _ _⟩
          · rw [if_neg h0] at hr2
            have ez : x * 128 ^ k = z := by rw [← hz.out, Nat.mod_eq_of_lt (by omega)]
            rw [ez, hn2.out] at hr2
            by_cases ht : top < n2
            · rw [if_pos ht] at hr2
              subst hr2
              have e : decide (0 ≤ (n2 : Int) ∧ (n2 : Int) ≤ 4611686018427387904) = false := decide_eq_false (by rw [top] at ht; omega)
              clear hxu hcons ez ht
              by_cases hx0 : x = 0
              · exfalso
                have hk0 : k = 0 := by omega
                subst hk0 hx0
                have h5 := ha.out
                have h6 := hz.out
                have h7 := hn2.out
                have h8 := of_decide_eq_false e
                simp at h5 h6
                omega
              · have b4 : ((x : Int) == 0) = false := by simp; omega
                go_wp2_with (go_at_call 63; refine (isNumber_any (n2 : Int) (by omega) (by omega) _).mono ?_; rw [e]; rintro e w' ⟨rfl, hw'⟩; rw [hw']; clear hw' w')
                go_ret3
                exact ⟨rfl, Below.refl _ _⟩
            · rw [if_neg ht] at hr2
              subst hr2
              have e : decide (0 ≤ (n2 : Int) ∧ (n2 : Int) ≤ 4611686018427387904) = true := decide_eq_true (by rw [top] at ht; omega)
              clear hxu hcons ez ht
              by_cases hx0 : x = 0
              · have hk0 : k = 0 := by omega
                subst hk0 hx0
                have h5 := ha.out
                have h6 := hz.out
                have h7 := hn2.out
                simp at h5 h6
                obtain rfl : z = 0 := by omega
                obtain rfl : n2 = 0 := by omega
                subst h5
                have g0 : bits .and .u8 0 127 = 0 := by decide +kernel
                have g1 : bits .or .i64 0 0 = 0 := by decide +kernel
                have g2 : wrap64 0 = 0 := by unfold wrap64; omega
                have hs0 := HI2.out hlt
                clear h0 h1 h3 h6 h7 hn2 hz t1 hl2
                go_wp2_with (go_at_call 63; fail)
                go_at_call 63
                refine (isNumber_any 0 (by omega) (by omega) _).mono ?_
                rw [show decide ((0 : Int) ≤ 0 ∧ (0 : Int) ≤ 4611686018427387904) = true from rfl]
                rintro e w' ⟨rfl, hw'⟩; rw [hw']; clear hw' w'
                go_wp2
                go_quiet (fail)
                go_wp2
                go_ret3
                exact ⟨by rw [tupN, sv_drop]; rfl, below_drewN (Below.refl _ _) _⟩
              · have b4 : ((x : Int) == 0) = false := by simp; omega
                go_wp2_with (go_at_call 63; refine (isNumber_any (n2 : Int) (by omega) (by omega) _).mono ?_; rw [e]; rintro e w' ⟨rfl, hw'⟩; rw [hw']; clear hw' w')
                go_quiet (fail)
                go_wp2
                go_ret3
                exact ⟨by rw [tupN, sv_drop]; rfl, below_drewN (Below.refl _ _) _⟩
      · have e1 : k = s.size := by omega
        have b1 : ((k : Int) == (s.size : Int)) = true := by simp; omega
        have hb : R = .bad 21 := by
          rw [← hr.out, e1, ← data_length, List.drop_length, rdDig, if_neg (by rw [data_length]; omega)]
        subst hb
        go_wp2
        go_ret3
        exact ⟨rfl, Below.refl _ _⟩
    · have e1 : k = 9 := by omega
      subst e1
      have hb : R = .bad 20 := by
        rw [← hr.out]
        cases s.data.toList.drop 9 with
        | nil => rw [rdDig, if_pos rfl]
        | cons b r => rw [rdDig, if_pos rfl]
      subst hb
      go_wp2
      go_ret3
      exact ⟨rfl, Below.refl _ _⟩
end Go.Proofs.YteilkpihddfpeaaGreatDoor
