import Derived.Test.YtdbbemcddhgbcaaGreatDoorPpX1
/- THE PLAIN MATHEMATICS OF READING Base64. -/
namespace Go.Proofs.YtdbbemcddhgbcaaGreatDoor.Tx
open Go

/-- the 24 bits of the first k signs, with noughts behind them -/
def wOf (l : List UInt8) : Nat → Option Nat
  | 0 => some 0
  | k + 1 => match wOf l k, val (l.getD k 0).toNat with
    | some a, some x => some (a + x * 2 ^ (18 - 6 * k))
    | _, _ => none
theorem wOf_none (l : List UInt8) : ∀ (j k : Nat), wOf l k = none → wOf l (k + j) = none
  | 0, k, h => h
  | j + 1, k, h => by
    have := wOf_none l j k h
    rw [show k + (j + 1) = (k + j) + 1 from by omega, wOf, this]
theorem wOf_some (l : List UInt8) (k a x : Nat) (ha : wOf l k = some a) (hx : val (l.getD k 0).toNat = some x) : wOf l (k + 1) = some (a + x * 2 ^ (18 - 6 * k)) := by rw [wOf, ha, hx]
theorem wOf_bad (l : List UInt8) (k : Nat) (hx : val (l.getD k 0).toNat = none) : wOf l (k + 1) = none := by
  rw [wOf, hx]; cases wOf l k <;> rfl
theorem wOf_inv (l : List UInt8) : ∀ (k a : Nat), k ≤ 4 → wOf l k = some a → a % 2 ^ (24 - 6 * k) = 0 ∧ a < 16777216
  | 0, a, _, h => by cases h; decide
  | k + 1, a, hk, h => by
    rw [wOf] at h
    split at h
    · rename_i b x hb hx
      injection h with h
      have := wOf_inv l k b (by omega) hb
      have hx := val_lt hx
      subst h
      have hk4 : k = 0 ∨ k = 1 ∨ k = 2 ∨ k = 3 := by omega
      rcases hk4 with rfl | rfl | rfl | rfl <;> simp at this ⊢ <;> omega
    · cases h
theorem or_word (a x k : Nat) (hk : k < 4) (ha : a % 2 ^ (24 - 6 * k) = 0) (hl : a < 16777216) (hx : x < 64) : bits .or .u32 (a : Int) ((x : Int) * 2 ^ (18 - 6 * k)) = ((a + x * 2 ^ (18 - 6 * k) : Nat) : Int) := by
  have hk4 : k = 0 ∨ k = 1 ∨ k = 2 ∨ k = 3 := by omega
  rcases hk4 with rfl | rfl | rfl | rfl
  · rw [show (x : Int) * 2 ^ (18 - 6 * 0) = ((x * 2 ^ 18 : Nat) : Int) from by simp, u32_or_nat _ _ (by omega) (by omega), nat_join 24 a (x * 2 ^ 18) (by simpa using ha) (by omega)]
  · rw [show (x : Int) * 2 ^ (18 - 6 * 1) = ((x * 2 ^ 12 : Nat) : Int) from by simp, u32_or_nat _ _ (by omega) (by omega), nat_join 18 a (x * 2 ^ 12) (by simpa using ha) (by omega)]
  · rw [show (x : Int) * 2 ^ (18 - 6 * 2) = ((x * 2 ^ 6 : Nat) : Int) from by simp, u32_or_nat _ _ (by omega) (by omega), nat_join 12 a (x * 2 ^ 6) (by simpa using ha) (by omega)]
  · rw [show (x : Int) * 2 ^ (18 - 6 * 3) = ((x : Nat) : Int) from by simp, u32_or_nat _ _ (by omega) (by omega), nat_join 6 a x (by simpa using ha) (by omega)]
    simp
/-- how many of a group's last signs are filling -/
def fillOf (l : List UInt8) : Nat := if l.getD 2 0 = 61 ∧ l.getD 3 0 = 61 then 2 else if l.getD 3 0 = 61 then 1 else 0
/-- a group's bytes -/
def bytesOf (n f : Nat) : List UInt8 := [UInt8.ofNat (n / 65536), UInt8.ofNat (n / 256), UInt8.ofNat n].take (3 - f)
/-- a group is read -/
def ungrp (g : List UInt8) (f : Nat) : Option (List UInt8) := match wOf g (4 - f) with
  | some n => if n % 2 ^ (8 * f) = 0 then some (bytesOf n f) else none
  | none => none
/-- reading group by group: what is behind the last group is nothing -/
def unb64 : List UInt8 → Option (List UInt8)
  | a :: b :: c :: d :: l => match ungrp [a, b, c, d] (if l = [] then fillOf [a, b, c, d] else 0), unb64 l with
    | some x, some r => some (x ++ r)
    | _, _ => none
  | [] => some []
  | _ => none
/-- D5: FromBase64 -/
def fromB64 (l : List UInt8) : List UInt8 × Int := match unb64 l with
  | some r => (r, 0)
  | none => ([], 11)
theorem unb64_odd : ∀ l : List UInt8, l.length % 4 ≠ 0 → unb64 l = none
  | [], h => by simp at h
  | [_], _ => rfl
  | [_, _], _ => rfl
  | [_, _, _], _ => rfl
  | a :: b :: c :: d :: l, h => by
    rw [unb64, unb64_odd l (by simp at h; omega)]
    cases ungrp [a, b, c, d] (if l = [] then fillOf [a, b, c, d] else 0) <;> rfl
theorem unb64_four (l : List UInt8) (h : 4 ≤ l.length) : unb64 l = (match ungrp (l.take 4) (if l.length = 4 then fillOf (l.take 4) else 0), unb64 (l.drop 4) with
    | some x, some r => some (x ++ r)
    | _, _ => none) := by
  match l, h with
  | a :: b :: c :: d :: l, _ =>
    have : (l = []) = ((a :: b :: c :: d :: l).length = 4) := by cases l <;> simp
    simp only [unb64, this, List.take_succ_cons, List.take_zero, List.drop_succ_cons, List.drop_zero]
theorem ungrp_length {g : List UInt8} {f : Nat} {x : List UInt8} (h : ungrp g f = some x) : x.length ≤ 3 := by
  rw [ungrp] at h
  split at h
  · split at h
    · injection h with h; subst h; simp [bytesOf]
    · cases h
  · cases h
theorem unb64_length : ∀ (l r : List UInt8), unb64 l = some r → r.length ≤ l.length
  | [], r, h => by cases h; simp
  | [_], r, h => by cases h
  | [_, _], r, h => by cases h
  | [_, _, _], r, h => by cases h
  | a :: b :: c :: d :: l, r, h => by
    rw [unb64] at h
    split at h
    · rename_i x r' hx hr
      injection h with h; subst h
      have := ungrp_length hx
      have := unb64_length l r' hr
      simp; omega
    · cases h
theorem bytesOf_take (n f j : Nat) (hj : j < 3 - f) : (bytesOf n f).take (j + 1) = (bytesOf n f).take j ++ [UInt8.ofNat (n / 2 ^ (16 - 8 * j))] := by
  have hj3 : j = 0 ∨ j = 1 ∨ j = 2 := by omega
  unfold bytesOf
  rw [List.take_take, List.take_take, Nat.min_eq_left (by omega), Nat.min_eq_left (by omega)]
  rcases hj3 with rfl | rfl | rfl <;> simp
theorem bytesOf_all (n f : Nat) : (bytesOf n f).take (3 - f) = bytesOf n f := by
  rw [bytesOf, List.take_take, Nat.min_self]
theorem bytesOf_length (n f : Nat) : (bytesOf n f).length = 3 - f := by simp [bytesOf]
theorem mask_walk (n f : Nat) (hf : f ≤ 2) (hn : n < 16777216) : bits .and .u32 (n : Int) ((2 ^ (8 * f) - 1) % 4294967296) = ((n % 2 ^ (8 * f) : Nat) : Int) := by
  have h3 : f = 0 ∨ f = 1 ∨ f = 2 := by omega
  rcases h3 with rfl | rfl | rfl
  · rw [show ((2 : Int) ^ (8 * 0) - 1) % 4294967296 = ((0 : Nat) : Int) from by decide, u32_and_nat _ _ (by omega) (by omega)]; simp
  · rw [show ((2 : Int) ^ (8 * 1) - 1) % 4294967296 = ((255 : Nat) : Int) from by decide, u32_and_nat _ _ (by omega) (by omega), nat_mask8]
  · rw [show ((2 : Int) ^ (8 * 2) - 1) % 4294967296 = ((65535 : Nat) : Int) from by decide, u32_and_nat _ _ (by omega) (by omega), nat_mask16]
theorem byte_mod (n m : Nat) : (n : Int) / 2 ^ m % 256 = (((UInt8.ofNat (n / 2 ^ m)).toNat : Nat) : Int) := by
  rw [← Sha.byte_walk, IntKind.wrap_u8']
theorem wOf_take (l : List UInt8) (m : Nat) : ∀ k, k ≤ m → wOf (l.take m) k = wOf l k
  | 0, _ => rfl
  | k + 1, h => by
    have e : (l.take m).getD k 0 = l.getD k 0 := by
      simp only [List.getD_eq_getElem?_getD]
      rw [List.getElem?_take, if_pos (by omega)]
    rw [wOf, wOf, wOf_take l m k (by omega), e]
theorem fillOf_le (l : List UInt8) : fillOf l ≤ 2 := by unfold fillOf; split; omega; split <;> omega
/-- one group more -/
theorem unb64_step (l r x : List UInt8) (k f : Nat) (hk : 4 * k + 4 ≤ l.length) (hr : unb64 l = (unb64 (l.drop (4 * k))).map (r ++ ·)) (hf : f = if 4 * k + 4 = l.length then fillOf ((l.drop (4 * k)).take 4) else 0) (hx : ungrp ((l.drop (4 * k)).take 4) f = some x) :
    unb64 l = (unb64 (l.drop (4 * (k + 1)))).map ((r ++ x) ++ ·) := by
  rw [hr, unb64_four (l.drop (4 * k)) (by simp; omega), List.drop_drop]
  have e : ((l.drop (4 * k)).length = 4) = (4 * k + 4 = l.length) := by simp; omega
  simp only [e]
  rw [← hf, hx, show 4 * k + 4 = 4 * (k + 1) from by omega]
  cases unb64 (l.drop (4 * (k + 1))) <;> simp
theorem unb64_bad (l r : List UInt8) (k f : Nat) (hk : 4 * k + 4 ≤ l.length) (hr : unb64 l = (unb64 (l.drop (4 * k))).map (r ++ ·)) (hf : f = if 4 * k + 4 = l.length then fillOf ((l.drop (4 * k)).take 4) else 0) (hx : ungrp ((l.drop (4 * k)).take 4) f = none) :
    unb64 l = none := by
  rw [hr, unb64_four (l.drop (4 * k)) (by simp; omega)]
  have e : ((l.drop (4 * k)).length = 4) = (4 * k + 4 = l.length) := by simp; omega
  simp only [e]
  rw [← hf, hx]
  rfl
end Go.Proofs.YtdbbemcddhgbcaaGreatDoor.Tx

namespace Go.Proofs.YtdbbemcddhgbcaaGreatDoor
open Go.RowKit

/-- what wordOf says of k signs -/
def WordSays (l : List UInt8) (k : Nat) (w : World) (e : Ending) (w' : World) : Prop :=
  ∃ (n : Nat) (b : Bool), e = .returned (.tuple #[.int .u32 (n : Int), .bool b]) ∧ w' = w ∧ n < 16777216 ∧ Hid ((b = true → Tx.wOf l k = some n) ∧ (b = false → Tx.wOf l k = none))
set_option maxRecDepth 100000 in
set_option maxHeartbeats 1000000 in
theorem wordOf_any (s : ByteArray) (hs : s.size ≤ 4) (w : World) :
    Calls Tryz.prog 97 #[.string s] w fun e w' => WordSays s.data.toList s.size w e w' := by
  have hs' : (s.size : Int) ≤ 4 := by omega
  go_enter Tryz.func97, Tryz.ntmps97
  go_wp2
  go_loop [4, 10] (fun n i => ∃ k a : Nat, k ≤ s.size ∧ i = .int .i64 k ∧ n = .int .u32 (a : Int) ∧ Hid (Tx.wOf s.data.toList k = some a)) (fun _ i => s.size - (intOf i).toNat)
  case atStart => exact ⟨0, 0, by omega, rfl, rfl, rfl⟩
  case round =>
    obtain ⟨k, a, hk, rfl, rfl, ha⟩ := hrel
    have hinv := Tx.wOf_inv _ k a (by omega) ha.out
    have la := hinv.2
    have Hinv := hid hinv.1
    clear hinv
    by_cases hlt : k < s.size
    · have hlt' : (k : Int) < (s.size : Int) := by omega
      obtain ⟨x, ex, lx, _, jx⟩ := index_any s (k : Int) k rfl hlt
      have b1 : (k : Int) ≤ 3 := by omega
      go_wp2_with (go_at_call 119; fail)
      refine (baseValue_any x _).mono ?_
      rintro e w1 ⟨y, b, rfl, rfl, ly, hy⟩
      cases b
      · have hn := hid (Tx.wOf_bad s.data.toList k (by rw [← ex.out]; exact hy.out.2 rfl))
        go_wp2
        go_ret2
        refine ⟨0, false, rfl, rfl, by omega, hid ⟨(fun h => by cases h), (fun _ => ?_)⟩⟩
        have := Tx.wOf_none s.data.toList (s.size - (k + 1)) (k + 1) hn.out
        rwa [show k + 1 + (s.size - (k + 1)) = s.size from by omega] at this
      · have hn := hid (Tx.wOf_some s.data.toList k a y ha.out (by rw [← ex.out]; exact hy.out.1 rfl))
        have hor := Tx.or_word a y k (by omega) Hinv.out la ly
        have hw : (y : Int) * 2 ^ (18 - 6 * k) % 4294967296 = (y : Int) * 2 ^ (18 - 6 * k) := by
          have h2 : y * 2 ^ (18 - 6 * k) < 4294967296 := by
            have : 2 ^ (18 - 6 * k) ≤ 2 ^ 18 := Nat.pow_le_pow_right (by decide) (by omega)
            calc y * 2 ^ (18 - 6 * k) ≤ y * 2 ^ 18 := Nat.mul_le_mul_left _ this
              _ < 4294967296 := by omega
          have e2 : (y : Int) * 2 ^ (18 - 6 * k) = ((y * 2 ^ (18 - 6 * k) : Nat) : Int) := by rw [Int.natCast_mul, Int.natCast_pow]; rfl
          rw [e2]; omega
        generalize a + y * 2 ^ (18 - 6 * k) = a2 at *
        go_wp2
        exact ⟨⟨k + 1, a2, by omega, by go_num, rfl, hn⟩, by simp [intOf]; omega⟩
    · obtain rfl : k = s.size := by omega
      go_wp2
      go_ret2
      exact ⟨a, true, rfl, rfl, la, hid ⟨(fun _ => ha.out), (fun h => by cases h)⟩⟩

set_option maxRecDepth 100000 in
set_option maxHeartbeats 1000000 in
theorem hasSuffix_any (s t : ByteArray) (hs : s.size ≤ 1000) (h : t.size ≤ s.size) (w : World) :
    Calls Tryz.prog 146 #[.string s, .string t] w fun e w' => e = .returned (.bool (s.data.toList.drop (s.size - t.size) == t.data.toList)) ∧ w' = w := by
  have hs' : (s.size : Int) ≤ 1000 := by omega
  have h' : (t.size : Int) ≤ (s.size : Int) := by omega
  have t1 : ((s.size : Int) - (t.size : Int)).toNat = s.size - t.size := by omega
  have b1 : (0 : Int) ≤ (s.size : Int) - (t.size : Int) := by omega
  have e0 := hid (drop_rest s (s.size - t.size))
  go_enter Tryz.func146, Tryz.ntmps146
  go_wp2
  go_ret
  refine ⟨?_, rfl⟩
  show Ending.returned (.bool ((s.extract (s.size - t.size) s.size).toList == t.toList)) = _
  rw [ByteArray.toList_eq, ByteArray.toList_eq, e0.out]
theorem hasSuffix_top (s t : ByteArray) (hs : s.size ≤ 1000) (h : t.size ≤ s.size) (w : World) :
    Calls Tryz.prog 118 #[.string s, .string t] w fun e w' => e = .returned (.bool (s.data.toList.drop (s.size - t.size) == t.data.toList)) ∧ w' = w := by
  go_enter Tryz.func118, Tryz.ntmps118
  go_wp2_with (go_at_call 146; refine (hasSuffix_any s t hs h _).mono ?_; rintro e w1 ⟨rfl, rfl⟩)
  go_ret
  exact ⟨rfl, rfl⟩

theorem suffix_two (l : List UInt8) (h : l.length = 4) : (l.drop 2 == [61, 61]) = decide (l.getD 2 0 = 61 ∧ l.getD 3 0 = 61) := by
  match l, h with
  | [a, b, c, d], _ => simp [List.getD]; rfl
theorem suffix_one (l : List UInt8) (h : l.length = 4) : (l.drop 3 == [61]) = decide (l.getD 3 0 = 61) := by
  match l, h with
  | [a, b, c, d], _ => simp [List.getD]; rfl
set_option maxRecDepth 100000 in
set_option maxHeartbeats 1000000 in
theorem fillOf_any (g : ByteArray) (hg : g.size = 4) (w : World) :
    Calls Tryz.prog 96 #[.string g] w fun e w' => e = .returned (.int .i64 (Tx.fillOf g.data.toList : Nat)) ∧ w' = w := by
  have hl : g.data.toList.length = 4 := by rw [data_length]; exact hg
  have c2 := fun w => hasSuffix_top g (ByteArray.extract ⟨#[61, 61]⟩ 0 2) (by omega) (by rw [hg]; decide) w
  have c1 := fun w => hasSuffix_top g (ByteArray.extract ⟨#[61, 61]⟩ 0 1) (by omega) (by rw [hg]; decide) w
  have c0 := fun w => hasSuffix_top g (ByteArray.extract ⟨#[61, 61]⟩ 0 0) (by omega) (by rw [hg]; decide) w
  rw [hg, show 4 - (ByteArray.extract ⟨#[61, 61]⟩ 0 2).size = 2 from rfl, show (ByteArray.extract ⟨#[61, 61]⟩ 0 2).data.toList = [61, 61] from by decide +kernel, suffix_two _ hl] at c2
  rw [hg, show 4 - (ByteArray.extract ⟨#[61, 61]⟩ 0 1).size = 3 from rfl, show (ByteArray.extract ⟨#[61, 61]⟩ 0 1).data.toList = [61] from by decide +kernel, suffix_one _ hl] at c1
  rw [hg, show 4 - (ByteArray.extract ⟨#[61, 61]⟩ 0 0).size = 4 from rfl, show (ByteArray.extract ⟨#[61, 61]⟩ 0 0).data.toList = [] from by decide +kernel, List.drop_eq_nil_of_le (by omega)] at c0
  by_cases h2 : g.data.toList.getD 2 0 = 61 ∧ g.data.toList.getD 3 0 = 61
  · rw [Tx.fillOf, if_pos h2]
    rw [decide_eq_true h2] at c2
    have C2 := hid c2
    clear c0 c1 c2
    go_enter Tryz.func96, Tryz.ntmps96
    go_wp2
    refine wp_loop_rounds 1 ?_
    rw [rounds_succ]
    go_wp2_with (go_at_call 118; go_must (refine (C2.out _).mono ?_); rintro e w1 ⟨rfl, rfl⟩)
    go_ret
    exact ⟨rfl, rfl⟩
  · rw [decide_eq_false h2] at c2
    by_cases h1 : g.data.toList.getD 3 0 = 61
    · rw [Tx.fillOf, if_neg h2, if_pos h1]
      rw [decide_eq_true h1] at c1
      have C2 := hid c2
      have C1 := hid c1
      clear c0 c1 c2
      go_enter Tryz.func96, Tryz.ntmps96
      go_wp2
      refine wp_loop_rounds 2 ?_
      rw [rounds_succ]
      go_wp2_with (go_at_call 118; fail)
      refine (C2.out _).mono ?_
      rintro e w1 ⟨rfl, rfl⟩
      go_wp2_with (go_at_call 118; fail)
      rw [rounds_succ]
      go_wp2_with (go_at_call 118; fail)
      refine (C1.out _).mono ?_
      rintro e w1 ⟨rfl, rfl⟩
      go_wp2
      go_ret
      exact ⟨rfl, rfl⟩
    · rw [Tx.fillOf, if_neg h2, if_neg h1]
      rw [decide_eq_false h1] at c1
      have C2 := hid c2
      have C1 := hid c1
      have C0 := hid c0
      clear c0 c1 c2
      go_enter Tryz.func96, Tryz.ntmps96
      go_wp2
      refine wp_loop_rounds 3 ?_
      rw [rounds_succ]
      go_wp2_with (go_at_call 118; fail)
      refine (C2.out _).mono ?_
      rintro e w1 ⟨rfl, rfl⟩
      go_wp2_with (go_at_call 118; fail)
      rw [rounds_succ]
      go_wp2_with (go_at_call 118; fail)
      refine (C1.out _).mono ?_
      rintro e w1 ⟨rfl, rfl⟩
      go_wp2_with (go_at_call 118; fail)
      rw [rounds_succ]
      go_wp2_with (go_at_call 118; fail)
      refine (C0.out _).mono ?_
      rintro e w1 ⟨rfl, rfl⟩
      go_wp2
      go_ret
      exact ⟨rfl, rfl⟩
end Go.Proofs.YtdbbemcddhgbcaaGreatDoor
