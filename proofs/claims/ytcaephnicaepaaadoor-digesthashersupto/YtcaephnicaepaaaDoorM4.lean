/- THE PLAIN MATHEMATICS OF LAYER 1's TEXTS: hex and Base64. -/
import Derived.Test.YtcaephnicaepaaaDoorM3
namespace Go.Proofs.YtcaephnicaepaaaDoor.Tx
open Go

/-- the sign of four bits -/
def hexSign (n : Nat) : UInt8 := if n < 10 then UInt8.ofNat (48 + n) else UInt8.ofNat (87 + n)
def hex : List UInt8 → List UInt8
  | [] => []
  | b :: l => hexSign (b.toNat / 16) :: hexSign (b.toNat % 16) :: hex l
theorem hex_append (a b : List UInt8) : hex (a ++ b) = hex a ++ hex b := by
  induction a with
  | nil => rfl
  | cons x a ih => simp [hex, ih]
theorem hex_length (l : List UInt8) : (hex l).length = 2 * l.length := by
  induction l with
  | nil => rfl
  | cons x a ih => simp [hex, ih]; omega
theorem hex_take (l : List UInt8) (k : Nat) (h : k < l.length) : hex (l.take (k + 1)) = hex (l.take k) ++ [hexSign ((l.getD k 0).toNat / 16), hexSign ((l.getD k 0).toNat % 16)] := by
  rw [List.take_succ_eq_append_getElem h, hex_append, List.getD_eq_getElem?_getD, List.getElem?_eq_getElem h]
  rfl
/-- the signs as they stand in a constant -/
def hexTab : List UInt8 := [48, 49, 50, 51, 52, 53, 54, 55, 56, 57, 97, 98, 99, 100, 101, 102]
theorem hexTab_at : ∀ n, n < 16 → hexTab.getD n 0 = hexSign n := by decide +kernel

/-- what a sign stands for -/
def hexVal (c : Nat) : Option Nat := if 48 ≤ c ∧ c ≤ 57 then some (c - 48) else if 97 ≤ c ∧ c ≤ 102 then some (c - 87) else none
def unhex : List UInt8 → Option (List UInt8)
  | [] => some []
  | [_] => none
  | a :: b :: l => match hexVal a.toNat, hexVal b.toNat, unhex l with
    | some x, some y, some r => some (UInt8.ofNat (16 * x + y) :: r)
    | _, _, _ => none
theorem hexVal_lt {c x : Nat} (h : hexVal c = some x) : x < 16 := by
  unfold hexVal at h
  split at h
  · injection h; omega
  · split at h
    · injection h; omega
    · cases h
theorem hexVal_sign : ∀ n, n < 16 → hexVal (hexSign n).toNat = some n := by decide +kernel
theorem sign_hexVal {c : UInt8} {x : Nat} (h : hexVal c.toNat = some x) : hexSign x = c := by
  have : ∀ c : UInt8, ∀ x, x < 16 → hexVal c.toNat = some x → hexSign x = c := by
    intro c x hx hc
    unfold hexVal at hc
    unfold hexSign
    apply UInt8.toNat_inj.1
    split at hc
    · injection hc with hc
      rw [if_pos (by omega)]; simp; omega
    · split at hc
      · injection hc with hc
        rw [if_neg (by omega)]; simp; omega
      · cases hc
  exact this c x (hexVal_lt h) h
theorem unhex_hex : ∀ l, unhex (hex l) = some l
  | [] => rfl
  | b :: l => by
    have hb := UInt8.toNat_lt b
    rw [hex, unhex, hexVal_sign _ (by omega), hexVal_sign _ (by omega), unhex_hex l]
    simp only
    congr 2
    apply UInt8.toNat_inj.1
    simp; omega
theorem hex_unhex : ∀ (l r : List UInt8), unhex l = some r → hex r = l
  | [], r, h => by cases h; rfl
  | [_], r, h => by cases h
  | a :: b :: l, r, h => by
    rw [unhex] at h
    split at h
    · rename_i x y r' hx hy hr
      injection h with h
      subst h
      have := hexVal_lt hx
      have := hexVal_lt hy
      rw [hex, hex_unhex l r' hr]
      have e : (UInt8.ofNat (16 * x + y)).toNat = 16 * x + y := by simp; omega
      rw [e, show (16 * x + y) / 16 = x from by omega, show (16 * x + y) % 16 = y from by omega, sign_hexVal hx, sign_hexVal hy]
    · cases h
theorem unhex_app : ∀ (a b r : List UInt8), unhex a = some r → unhex (a ++ b) = (unhex b).map (r ++ ·)
  | [], b, r, h => by cases h; rw [List.nil_append]; cases unhex b <;> rfl
  | [_], b, r, h => by cases h
  | x :: y :: a, b, r, h => by
    rw [unhex] at h
    split at h
    · rename_i u v r' hx hy hr
      injection h with h
      subst h
      rw [List.cons_append, List.cons_append, unhex, hx, hy, unhex_app a b r' hr]
      cases unhex b <;> rfl
    · cases h
theorem unhex_odd : ∀ l : List UInt8, l.length % 2 = 1 → unhex l = none
  | [], h => by simp at h
  | [_], _ => rfl
  | a :: b :: l, h => by
    rw [unhex, unhex_odd l (by simp at h; omega)]
    cases hexVal a.toNat <;> cases hexVal b.toNat <;> rfl
theorem unhex_length : ∀ (l r : List UInt8), unhex l = some r → l.length = 2 * r.length := fun l r h => by
  have := congrArg List.length (hex_unhex l r h)
  rw [hex_length] at this; omega
/-- D4: FromHex -/
def fromHex (l : List UInt8) : List UInt8 × Int := match unhex l with
  | some r => (r, 0)
  | none => ([], 10)
theorem pair_at (l : List UInt8) (k : Nat) (h : 2 * k + 1 < l.length) : l.take (2 * k + 2) = l.take (2 * k) ++ [l.getD (2 * k) 0, l.getD (2 * k + 1) 0] := by
  rw [List.take_succ_eq_append_getElem (i := 2 * k + 1) (by omega), List.take_succ_eq_append_getElem (i := 2 * k) (by omega), List.append_assoc]
  simp only [List.getD_eq_getElem?_getD]
  rw [List.getElem?_eq_getElem (by omega), List.getElem?_eq_getElem (by omega)]
  rfl
theorem unhex_step (l r : List UInt8) (k x y : Nat) (h : 2 * k + 1 < l.length) (hr : unhex (l.take (2 * k)) = some r) (hx : hexVal (l.getD (2 * k) 0).toNat = some x) (hy : hexVal (l.getD (2 * k + 1) 0).toNat = some y) :
    unhex (l.take (2 * (k + 1))) = some (r ++ [UInt8.ofNat (16 * x + y)]) := by
  rw [show 2 * (k + 1) = 2 * k + 2 from by omega, pair_at l k h, unhex_app _ _ r hr, unhex, hx, hy, unhex]
  rfl
theorem unhex_bad (l r : List UInt8) (k : Nat) (h : 2 * k + 1 < l.length) (hr : unhex (l.take (2 * k)) = some r) (hb : hexVal (l.getD (2 * k) 0).toNat = none ∨ hexVal (l.getD (2 * k + 1) 0).toNat = none) : unhex l = none := by
  have e : l = l.take (2 * k) ++ (l.getD (2 * k) 0 :: l.getD (2 * k + 1) 0 :: l.drop (2 * k + 2)) := by
    have h1 : l.drop (2 * k) = l.getD (2 * k) 0 :: l.drop (2 * k + 1) := by
      rw [List.drop_eq_getElem_cons (by omega), List.getD_eq_getElem?_getD, List.getElem?_eq_getElem (by omega)]; rfl
    have h2 : l.drop (2 * k + 1) = l.getD (2 * k + 1) 0 :: l.drop (2 * k + 2) := by
      rw [List.drop_eq_getElem_cons (by omega), List.getD_eq_getElem?_getD, List.getElem?_eq_getElem (by omega)]; rfl
    rw [← h2, ← h1, List.take_append_drop]
  rw [e, unhex_app _ _ r hr, unhex]
  rcases hb with hb | hb
  · rw [hb]; rfl
  · rw [hb]; cases hexVal (l.getD (2 * k) 0).toNat <;> rfl
theorem orByte (x y : Nat) (hx : x < 16) (hy : y < 16) : bits .or .u8 ((x : Int) * 16) (y : Int) = (((UInt8.ofNat (16 * x + y)).toNat : Nat) : Int) := by
  rw [show (x : Int) * 16 = ((x * 16 : Nat) : Int) from by omega, u8_or_nat _ _ (by omega) (by omega), nat_join 4 (x * 16) y (by omega) (by omega)]
  simp; omega
end Go.Proofs.YtcaephnicaepaaaDoor.Tx
