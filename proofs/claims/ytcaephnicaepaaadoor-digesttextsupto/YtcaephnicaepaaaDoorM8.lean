/- Base64 AS THE REFERENCE READS IT: loosely, and written again. -/
import Derived.Test.YtcaephnicaepaaaDoorM7
namespace Go.Proofs.YtcaephnicaepaaaDoor.Tx
open Go

def lval (c : Nat) : Nat := (val c).getD 0
theorem lval_lt (c : Nat) : lval c < 64 := by
  unfold lval
  cases h : val c with
  | none => simp
  | some x => have := val_lt h; simpa using this
def lw (g : List UInt8) : Nat → Nat
  | 0 => 0
  | k + 1 => 64 * lw g k + lval (g.getD k 0).toNat
theorem lw_lt (g : List UInt8) : ∀ k, lw g k < 64 ^ k
  | 0 => by simp [lw]
  | k + 1 => by
    have := lw_lt g k
    have h2 := lval_lt (g.getD k 0).toNat
    rw [lw, Nat.pow_succ]; omega
def bd (g : List UInt8) : Nat → Nat
  | 0 => 0
  | k + 1 => bd g k + (if val (g.getD k 0).toNat = none then 1 else 0)
theorem bd_le (g : List UInt8) : ∀ k, bd g k ≤ k
  | 0 => by simp [bd]
  | k + 1 => by
    have := bd_le g k
    rw [bd]; split <;> omega
def lgrp (g : List UInt8) : Option (List UInt8) := if bd g 4 < 3 then some (bytesOf (lw g 4) (bd g 4)) else none
def loose : List UInt8 → Option (List UInt8)
  | a :: b :: c :: d :: l => match lgrp [a, b, c, d], loose l with
    | some x, some r => some (x ++ r)
    | _, _ => none
  | [] => some []
  | _ => none
theorem lval_mod (n : Nat) : lval (sgn (n % 64)).toNat = n % 64 := by rw [lval, val_mod]; rfl
theorem lval_61 : lval (61 : UInt8).toNat = 0 := by decide
theorem val_61' : val (61 : UInt8).toNat = none := by decide
theorem lgrp1 (a : UInt8) : lgrp (grp [a]) = some [a] := by
  have ha := UInt8.toNat_lt a
  have e := word1 a
  rw [grp1]
  generalize word3 [a] = n at *
  have hb : bd [sgn (n / 2 ^ 18 % 64), sgn (n / 2 ^ 12 % 64), 61, 61] 4 = 2 := by simp only [bd, List.getD_cons_zero, List.getD_cons_succ, val_mod, val_61']; simp
  have hl : lw [sgn (n / 2 ^ 18 % 64), sgn (n / 2 ^ 12 % 64), 61, 61] 4 = n := by simp only [lw, List.getD_cons_zero, List.getD_cons_succ, lval_mod, lval_61]; omega
  rw [lgrp, hb, hl, if_pos (by omega)]
  simp only [bytesOf, show 3 - 2 = 1 from rfl, List.take_succ_cons, List.take_zero]
  rw [u8_eq (show n / 65536 % 256 = a.toNat by omega)]
theorem lgrp2 (a b : UInt8) : lgrp (grp [a, b]) = some [a, b] := by
  have ha := UInt8.toNat_lt a
  have hb := UInt8.toNat_lt b
  have e := word2 a b
  rw [grp2]
  generalize word3 [a, b] = n at *
  have hbd : bd [sgn (n / 2 ^ 18 % 64), sgn (n / 2 ^ 12 % 64), sgn (n / 2 ^ 6 % 64), 61] 4 = 1 := by simp only [bd, List.getD_cons_zero, List.getD_cons_succ, val_mod, val_61']; simp
  have hl : lw [sgn (n / 2 ^ 18 % 64), sgn (n / 2 ^ 12 % 64), sgn (n / 2 ^ 6 % 64), 61] 4 = n := by simp only [lw, List.getD_cons_zero, List.getD_cons_succ, lval_mod, lval_61]; omega
  rw [lgrp, hbd, hl, if_pos (by omega)]
  simp only [bytesOf, show 3 - 1 = 2 from rfl, List.take_succ_cons, List.take_zero]
  rw [u8_eq (show n / 65536 % 256 = a.toNat by omega), u8_eq (show n / 256 % 256 = b.toNat by omega)]
theorem lgrp3 (a b c : UInt8) : lgrp (grp [a, b, c]) = some [a, b, c] := by
  have ha := UInt8.toNat_lt a
  have hb := UInt8.toNat_lt b
  have hc := UInt8.toNat_lt c
  have e := word33 a b c
  rw [grp3]
  generalize word3 [a, b, c] = n at *
  have hbd : bd [sgn (n / 2 ^ 18 % 64), sgn (n / 2 ^ 12 % 64), sgn (n / 2 ^ 6 % 64), sgn (n % 64)] 4 = 0 := by simp only [bd, List.getD_cons_zero, List.getD_cons_succ, val_mod]; simp
  have hl : lw [sgn (n / 2 ^ 18 % 64), sgn (n / 2 ^ 12 % 64), sgn (n / 2 ^ 6 % 64), sgn (n % 64)] 4 = n := by simp only [lw, List.getD_cons_zero, List.getD_cons_succ, lval_mod]; omega
  rw [lgrp, hbd, hl, if_pos (by omega)]
  simp only [bytesOf, show 3 - 0 = 3 from rfl, List.take_succ_cons, List.take_zero]
  rw [u8_eq (show n / 65536 % 256 = a.toNat by omega), u8_eq (show n / 256 % 256 = b.toNat by omega), u8_eq (show n % 256 = c.toNat by omega)]
theorem loose_of (g l : List UInt8) (hg : g.length = 4) : loose (g ++ l) = (match lgrp g, loose l with
    | some x, some r => some (x ++ r)
    | _, _ => none) := by
  match g, hg with
  | [a, b, c, d], _ => rfl
theorem loose_b64 : ∀ l, loose (b64 l) = some l
  | [] => rfl
  | [a] => by
    have := loose_of (grp [a]) [] (grp_length _ (by simp) (by simp))
    rw [List.append_nil, lgrp1] at this
    rw [b64, this]; rfl
  | [a, b] => by
    have := loose_of (grp [a, b]) [] (grp_length _ (by simp) (by simp))
    rw [List.append_nil, lgrp2] at this
    rw [b64, this]; rfl
  | a :: b :: c :: l => by
    have := loose_of (grp [a, b, c]) (b64 l) (grp_length _ (by simp) (by simp))
    rw [lgrp3, loose_b64 l] at this
    rw [b64, this]; rfl
theorem loose_none {l : List UInt8} (h : loose l = none) : fromB64 l = ([], 11) := by
  rw [fromB64]
  cases hu : unb64 l with
  | none => rfl
  | some r =>
    have := loose_b64 r
    rw [b64_unb64 l r hu, h] at this
    cases this
theorem loose_ne {l r : List UInt8} (h : loose l = some r) (hne : b64 r ≠ l) : fromB64 l = ([], 11) := by
  rw [fromB64]
  cases hu : unb64 l with
  | none => rfl
  | some r' =>
    have e := b64_unb64 l r' hu
    have := loose_b64 r'
    rw [e, h] at this
    cases this
    exact (hne e).elim
theorem loose_eq {l r : List UInt8} (h : b64 r = l) : fromB64 l = (r, 0) := by
  rw [fromB64, ← h, unb64_b64]
theorem loose_four (l : List UInt8) (h : 4 ≤ l.length) : loose l = (match lgrp (l.take 4), loose (l.drop 4) with
    | some x, some r => some (x ++ r)
    | _, _ => none) := by
  match l, h with
  | a :: b :: c :: d :: l, _ => rfl
theorem loose_step (l r x : List UInt8) (k : Nat) (hk : 4 * k + 4 ≤ l.length) (hr : loose l = (loose (l.drop (4 * k))).map (r ++ ·)) (hx : lgrp ((l.drop (4 * k)).take 4) = some x) :
    loose l = (loose (l.drop (4 * (k + 1)))).map ((r ++ x) ++ ·) := by
  rw [hr, loose_four (l.drop (4 * k)) (by simp; omega), List.drop_drop, hx, show 4 * k + 4 = 4 * (k + 1) from by omega]
  cases loose (l.drop (4 * (k + 1))) <;> simp
theorem loose_bad (l r : List UInt8) (k : Nat) (hk : 4 * k + 4 ≤ l.length) (hr : loose l = (loose (l.drop (4 * k))).map (r ++ ·)) (hx : lgrp ((l.drop (4 * k)).take 4) = none) : loose l = none := by
  rw [hr, loose_four (l.drop (4 * k)) (by simp; omega), hx]
  rfl
end Go.Proofs.YtcaephnicaepaaaDoor.Tx
