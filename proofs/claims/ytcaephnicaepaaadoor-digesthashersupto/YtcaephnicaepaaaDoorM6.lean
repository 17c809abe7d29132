/- THE PLAIN MATHEMATICS OF READING Base64. -/
import Derived.Test.YtcaephnicaepaaaDoorM5
namespace Go.Proofs.YtcaephnicaepaaaDoor.Tx
open Go

/-- the 24 bits of the first k signs, with noughts behind them -/
def wOf (l : List UInt8) : Nat → Option Nat
  | 0 => some 0
  | k + 1 => match wOf l k, val (l.getD k 0).toNat with
    | some a, some x => some (a + x * 2 ^ (18 - 6 * k))
    | _, _ => none
theorem wOf_none (l : List UInt8) : ∀ (j k : Nat), wOf l k = none → wOf l (k + j) = none
  | 0, k, h => h
  | j + 1, k, h => by
    have := wOf_none l j k h
    rw [show k + (j + 1) = (k + j) + 1 from by omega, wOf, this]
theorem wOf_some (l : List UInt8) (k a x : Nat) (ha : wOf l k = some a) (hx : val (l.getD k 0).toNat = some x) : wOf l (k + 1) = some (a + x * 2 ^ (18 - 6 * k)) := by rw [wOf, ha, hx]
theorem wOf_bad (l : List UInt8) (k : Nat) (hx : val (l.getD k 0).toNat = none) : wOf l (k + 1) = none := by
  rw [wOf, hx]; cases wOf l k <;> rfl
theorem wOf_inv (l : List UInt8) : ∀ (k a : Nat), k ≤ 4 → wOf l k = some a → a % 2 ^ (24 - 6 * k) = 0 ∧ a < 16777216
  | 0, a, _, h => by cases h; decide
  | k + 1, a, hk, h => by
    rw [wOf] at h
    split at h
    · rename_i b x hb hx
      injection h with h
      have := wOf_inv l k b (by omega) hb
      have hx := val_lt hx
      subst h
      have hk4 : k = 0 ∨ k = 1 ∨ k = 2 ∨ k = 3 := by omega
      rcases hk4 with rfl | rfl | rfl | rfl <;> simp at this ⊢ <;> omega
    · cases h
theorem or_word (a x k : Nat) (hk : k < 4) (ha : a % 2 ^ (24 - 6 * k) = 0) (hl : a < 16777216) (hx : x < 64) : bits .or .u32 (a : Int) ((x : Int) * 2 ^ (18 - 6 * k)) = ((a + x * 2 ^ (18 - 6 * k) : Nat) : Int) := by
  have hk4 : k = 0 ∨ k = 1 ∨ k = 2 ∨ k = 3 := by omega
  rcases hk4 with rfl | rfl | rfl | rfl
  · rw [show (x : Int) * 2 ^ (18 - 6 * 0) = ((x * 2 ^ 18 : Nat) : Int) from by simp, u32_or_nat _ _ (by omega) (by omega), nat_join 24 a (x * 2 ^ 18) (by simpa using ha) (by omega)]
  · rw [show (x : Int) * 2 ^ (18 - 6 * 1) = ((x * 2 ^ 12 : Nat) : Int) from by simp, u32_or_nat _ _ (by omega) (by omega), nat_join 18 a (x * 2 ^ 12) (by simpa using ha) (by omega)]
  · rw [show (x : Int) * 2 ^ (18 - 6 * 2) = ((x * 2 ^ 6 : Nat) : Int) from by simp, u32_or_nat _ _ (by omega) (by omega), nat_join 12 a (x * 2 ^ 6) (by simpa using ha) (by omega)]
  · rw [show (x : Int) * 2 ^ (18 - 6 * 3) = ((x : Nat) : Int) from by simp, u32_or_nat _ _ (by omega) (by omega), nat_join 6 a x (by simpa using ha) (by omega)]
    simp
/-- how many of a group's last signs are filling -/
def fillOf (l : List UInt8) : Nat := if l.getD 2 0 = 61 ∧ l.getD 3 0 = 61 then 2 else if l.getD 3 0 = 61 then 1 else 0
/-- a group's bytes -/
def bytesOf (n f : Nat) : List UInt8 := [UInt8.ofNat (n / 65536), UInt8.ofNat (n / 256), UInt8.ofNat n].take (3 - f)
/-- a group is read -/
def ungrp (g : List UInt8) (f : Nat) : Option (List UInt8) := match wOf g (4 - f) with
  | some n => if n % 2 ^ (8 * f) = 0 then some (bytesOf n f) else none
  | none => none
/-- reading group by group: what is behind the last group is nothing -/
def unb64 : List UInt8 → Option (List UInt8)
  | a :: b :: c :: d :: l => match ungrp [a, b, c, d] (if l = [] then fillOf [a, b, c, d] else 0), unb64 l with
    | some x, some r => some (x ++ r)
    | _, _ => none
  | [] => some []
  | _ => none
/-- D5: FromBase64 -/
def fromB64 (l : List UInt8) : List UInt8 × Int := match unb64 l with
  | some r => (r, 0)
  | none => ([], 11)
theorem unb64_odd : ∀ l : List UInt8, l.length % 4 ≠ 0 → unb64 l = none
  | [], h => by simp at h
  | [_], _ => rfl
  | [_, _], _ => rfl
  | [_, _, _], _ => rfl
  | a :: b :: c :: d :: l, h => by
    rw [unb64, unb64_odd l (by simp at h; omega)]
    cases ungrp [a, b, c, d] (if l = [] then fillOf [a, b, c, d] else 0) <;> rfl
theorem unb64_four (l : List UInt8) (h : 4 ≤ l.length) : unb64 l = (match ungrp (l.take 4) (if l.length = 4 then fillOf (l.take 4) else 0), unb64 (l.drop 4) with
    | some x, some r => some (x ++ r)
    | _, _ => none) := by
  match l, h with
  | a :: b :: c :: d :: l, _ =>
    have : (l = []) = ((a :: b :: c :: d :: l).length = 4) := by cases l <;> simp
    simp only [unb64, this, List.take_succ_cons, List.take_zero, List.drop_succ_cons, List.drop_zero]
theorem ungrp_length {g : List UInt8} {f : Nat} {x : List UInt8} (h : ungrp g f = some x) : x.length ≤ 3 := by
  rw [ungrp] at h
  split at h
  · split at h
    · injection h with h; subst h; simp [bytesOf]
    · cases h
  · cases h
theorem unb64_length : ∀ (l r : List UInt8), unb64 l = some r → r.length ≤ l.length
  | [], r, h => by cases h; simp
  | [_], r, h => by cases h
  | [_, _], r, h => by cases h
  | [_, _, _], r, h => by cases h
  | a :: b :: c :: d :: l, r, h => by
    rw [unb64] at h
    split at h
    · rename_i x r' hx hr
      injection h with h; subst h
      have := ungrp_length hx
      have := unb64_length l r' hr
      simp; omega
    · cases h
theorem bytesOf_take (n f j : Nat) (hj : j < 3 - f) : (bytesOf n f).take (j + 1) = (bytesOf n f).take j ++ [UInt8.ofNat (n / 2 ^ (16 - 8 * j))] := by
  have hj3 : j = 0 ∨ j = 1 ∨ j = 2 := by omega
  unfold bytesOf
  rw [List.take_take, List.take_take, Nat.min_eq_left (by omega), Nat.min_eq_left (by omega)]
  rcases hj3 with rfl | rfl | rfl <;> simp
theorem bytesOf_all (n f : Nat) : (bytesOf n f).take (3 - f) = bytesOf n f := by
  rw [bytesOf, List.take_take, Nat.min_self]
theorem bytesOf_length (n f : Nat) : (bytesOf n f).length = 3 - f := by simp [bytesOf]
theorem mask_walk (n f : Nat) (hf : f ≤ 2) (hn : n < 16777216) : bits .and .u32 (n : Int) ((2 ^ (8 * f) - 1) % 4294967296) = ((n % 2 ^ (8 * f) : Nat) : Int) := by
  have h3 : f = 0 ∨ f = 1 ∨ f = 2 := by omega
  rcases h3 with rfl | rfl | rfl
  · rw [show ((2 : Int) ^ (8 * 0) - 1) % 4294967296 = ((0 : Nat) : Int) from by decide, u32_and_nat _ _ (by omega) (by omega)]; simp
  · rw [show ((2 : Int) ^ (8 * 1) - 1) % 4294967296 = ((255 : Nat) : Int) from by decide, u32_and_nat _ _ (by omega) (by omega), nat_mask8]
  · rw [show ((2 : Int) ^ (8 * 2) - 1) % 4294967296 = ((65535 : Nat) : Int) from by decide, u32_and_nat _ _ (by omega) (by omega), nat_mask16]
theorem byte_mod (n m : Nat) : (n : Int) / 2 ^ m % 256 = (((UInt8.ofNat (n / 2 ^ m)).toNat : Nat) : Int) := by
  rw [← Sha.byte_walk, IntKind.wrap_u8']
theorem wOf_take (l : List UInt8) (m : Nat) : ∀ k, k ≤ m → wOf (l.take m) k = wOf l k
  | 0, _ => rfl
  | k + 1, h => by
    have e : (l.take m).getD k 0 = l.getD k 0 := by
      simp only [List.getD_eq_getElem?_getD]
      rw [List.getElem?_take, if_pos (by omega)]
    rw [wOf, wOf, wOf_take l m k (by omega), e]
theorem fillOf_le (l : List UInt8) : fillOf l ≤ 2 := by unfold fillOf; split; omega; split <;> omega
/-- one group more -/
theorem unb64_step (l r x : List UInt8) (k f : Nat) (hk : 4 * k + 4 ≤ l.length) (hr : unb64 l = (unb64 (l.drop (4 * k))).map (r ++ ·)) (hf : f = if 4 * k + 4 = l.length then fillOf ((l.drop (4 * k)).take 4) else 0) (hx : ungrp ((l.drop (4 * k)).take 4) f = some x) :
    unb64 l = (unb64 (l.drop (4 * (k + 1)))).map ((r ++ x) ++ ·) := by
  rw [hr, unb64_four (l.drop (4 * k)) (by simp; omega), List.drop_drop]
  have e : ((l.drop (4 * k)).length = 4) = (4 * k + 4 = l.length) := by simp; omega
  simp only [e]
  rw [← hf, hx, show 4 * k + 4 = 4 * (k + 1) from by omega]
  cases unb64 (l.drop (4 * (k + 1))) <;> simp
theorem unb64_bad (l r : List UInt8) (k f : Nat) (hk : 4 * k + 4 ≤ l.length) (hr : unb64 l = (unb64 (l.drop (4 * k))).map (r ++ ·)) (hf : f = if 4 * k + 4 = l.length then fillOf ((l.drop (4 * k)).take 4) else 0) (hx : ungrp ((l.drop (4 * k)).take 4) f = none) :
    unb64 l = none := by
  rw [hr, unb64_four (l.drop (4 * k)) (by simp; omega)]
  have e : ((l.drop (4 * k)).length = 4) = (4 * k + 4 = l.length) := by simp; omega
  simp only [e]
  rw [← hf, hx]
  rfl
end Go.Proofs.YtcaephnicaepaaaDoor.Tx
