/- Base64, THERE AND BACK. -/
import Derived.Test.YtcaephnicaepaaaDoorM6
namespace Go.Proofs.YtcaephnicaepaaaDoor.Tx
open Go

theorem grp1 (a : UInt8) : grp [a] = [sgn (word3 [a] / 2 ^ 18 % 64), sgn (word3 [a] / 2 ^ 12 % 64), 61, 61] := by simp [grp, signs, List.replicate]
theorem grp2 (a b : UInt8) : grp [a, b] = [sgn (word3 [a, b] / 2 ^ 18 % 64), sgn (word3 [a, b] / 2 ^ 12 % 64), sgn (word3 [a, b] / 2 ^ 6 % 64), 61] := by simp [grp, signs]
theorem grp3 (a b c : UInt8) : grp [a, b, c] = [sgn (word3 [a, b, c] / 2 ^ 18 % 64), sgn (word3 [a, b, c] / 2 ^ 12 % 64), sgn (word3 [a, b, c] / 2 ^ 6 % 64), sgn (word3 [a, b, c] % 64)] := by simp [grp, signs]
theorem word1 (a : UInt8) : word3 [a] = a.toNat * 65536 := by simp [word3]
theorem word2 (a b : UInt8) : word3 [a, b] = a.toNat * 65536 + b.toNat * 256 := by simp [word3]
theorem word33 (a b c : UInt8) : word3 [a, b, c] = a.toNat * 65536 + b.toNat * 256 + c.toNat := by simp [word3]
theorem val_mod (n : Nat) : val (sgn (n % 64)).toNat = some (n % 64) := val_sgn _ (by omega)
theorem sgn_ne' (n : Nat) : sgn (n % 64) ≠ 61 := sgn_ne _ (by omega)
theorem wOf2 (n : Nat) (c d : UInt8) : wOf [sgn (n / 2 ^ 18 % 64), sgn (n / 2 ^ 12 % 64), c, d] 2 = some (n / 2 ^ 18 % 64 * 2 ^ 18 + n / 2 ^ 12 % 64 * 2 ^ 12) := by
  simp [wOf, val_mod]
theorem wOf3 (n : Nat) (d : UInt8) : wOf [sgn (n / 2 ^ 18 % 64), sgn (n / 2 ^ 12 % 64), sgn (n / 2 ^ 6 % 64), d] 3 = some (n / 2 ^ 18 % 64 * 2 ^ 18 + n / 2 ^ 12 % 64 * 2 ^ 12 + n / 2 ^ 6 % 64 * 2 ^ 6) := by
  simp [wOf, val_mod]
theorem wOf4 (n : Nat) : wOf [sgn (n / 2 ^ 18 % 64), sgn (n / 2 ^ 12 % 64), sgn (n / 2 ^ 6 % 64), sgn (n % 64)] 4 = some (n / 2 ^ 18 % 64 * 2 ^ 18 + n / 2 ^ 12 % 64 * 2 ^ 12 + n / 2 ^ 6 % 64 * 2 ^ 6 + n % 64) := by
  simp [wOf, val_mod]
theorem u8_eq {a : UInt8} {n : Nat} (h : n % 256 = a.toNat) : UInt8.ofNat n = a := by
  apply UInt8.toNat_inj.1; simpa using h
theorem ungrp1 (a : UInt8) : ungrp (grp [a]) 2 = some [a] := by
  have ha := UInt8.toNat_lt a
  have e := word1 a
  rw [grp1]
  generalize word3 [a] = n at *
  have h : n / 2 ^ 18 % 64 * 2 ^ 18 + n / 2 ^ 12 % 64 * 2 ^ 12 = n := by omega
  rw [ungrp, show 4 - 2 = 2 from rfl, wOf2, h]
  simp only
  rw [if_pos (by omega)]
  simp only [bytesOf, List.take_succ_cons, List.take_zero]
  rw [u8_eq (show n / 65536 % 256 = a.toNat by omega)]
theorem ungrp2 (a b : UInt8) : ungrp (grp [a, b]) 1 = some [a, b] := by
  have ha := UInt8.toNat_lt a
  have hb := UInt8.toNat_lt b
  have e := word2 a b
  rw [grp2]
  generalize word3 [a, b] = n at *
  have h : n / 2 ^ 18 % 64 * 2 ^ 18 + n / 2 ^ 12 % 64 * 2 ^ 12 + n / 2 ^ 6 % 64 * 2 ^ 6 = n := by omega
  rw [ungrp, show 4 - 1 = 3 from rfl, wOf3, h]
  simp only
  rw [if_pos (by omega)]
  simp only [bytesOf, List.take_succ_cons, List.take_zero]
  rw [u8_eq (show n / 65536 % 256 = a.toNat by omega), u8_eq (show n / 256 % 256 = b.toNat by omega)]
theorem ungrp3 (a b c : UInt8) : ungrp (grp [a, b, c]) 0 = some [a, b, c] := by
  have ha := UInt8.toNat_lt a
  have hb := UInt8.toNat_lt b
  have hc := UInt8.toNat_lt c
  have e := word33 a b c
  rw [grp3]
  generalize word3 [a, b, c] = n at *
  have h : n / 2 ^ 18 % 64 * 2 ^ 18 + n / 2 ^ 12 % 64 * 2 ^ 12 + n / 2 ^ 6 % 64 * 2 ^ 6 + n % 64 = n := by omega
  rw [ungrp, show 4 - 0 = 4 from rfl, wOf4, h]
  simp only
  rw [if_pos (by omega)]
  simp only [bytesOf, List.take_succ_cons, List.take_zero]
  rw [u8_eq (show n / 65536 % 256 = a.toNat by omega), u8_eq (show n / 256 % 256 = b.toNat by omega), u8_eq (show n % 256 = c.toNat by omega)]
theorem fill1 (a : UInt8) : fillOf (grp [a]) = 2 := by rw [grp1]; simp [fillOf]
theorem fill2 (a b : UInt8) : fillOf (grp [a, b]) = 1 := by
  rw [grp2]; simp [fillOf]; exact sgn_ne' _
theorem fill3 (a b c : UInt8) : fillOf (grp [a, b, c]) = 0 := by
  rw [grp3]; simp [fillOf, sgn_ne']
theorem unb64_of (g l : List UInt8) (hg : g.length = 4) : unb64 (g ++ l) = (match ungrp g (if l = [] then fillOf g else 0), unb64 l with
    | some x, some r => some (x ++ r)
    | _, _ => none) := by
  match g, hg with
  | [a, b, c, d], _ => rfl
theorem unb64_b64 : ∀ l, unb64 (b64 l) = some l
  | [] => rfl
  | [a] => by
    have := unb64_of (grp [a]) [] (grp_length _ (by simp) (by simp))
    rw [List.append_nil, if_pos rfl, fill1, ungrp1] at this
    rw [b64, this]; rfl
  | [a, b] => by
    have := unb64_of (grp [a, b]) [] (grp_length _ (by simp) (by simp))
    rw [List.append_nil, if_pos rfl, fill2, ungrp2] at this
    rw [b64, this]; rfl
  | a :: b :: c :: l => by
    have := unb64_of (grp [a, b, c]) (b64 l) (grp_length _ (by simp) (by simp))
    rw [fill3, ite_self, ungrp3, unb64_b64 l] at this
    rw [b64, this]; rfl

theorem wOf_two {a b c d : UInt8} {n : Nat} (h : wOf [a, b, c, d] 2 = some n) : ∃ x y, val a.toNat = some x ∧ val b.toNat = some y ∧ n = x * 2 ^ 18 + y * 2 ^ 12 := by
  simp only [wOf, List.getD_cons_zero, List.getD_cons_succ] at h
  cases ha : val a.toNat <;> cases hb : val b.toNat <;> simp [ha, hb] at h
  exact ⟨_, _, rfl, rfl, by omega⟩
theorem wOf_three {a b c d : UInt8} {n : Nat} (h : wOf [a, b, c, d] 3 = some n) : ∃ x y z, val a.toNat = some x ∧ val b.toNat = some y ∧ val c.toNat = some z ∧ n = x * 2 ^ 18 + y * 2 ^ 12 + z * 2 ^ 6 := by
  simp only [wOf, List.getD_cons_zero, List.getD_cons_succ] at h
  cases ha : val a.toNat <;> cases hb : val b.toNat <;> cases hc : val c.toNat <;> simp [ha, hb, hc] at h
  exact ⟨_, _, _, rfl, rfl, rfl, by omega⟩
theorem wOf_four {a b c d : UInt8} {n : Nat} (h : wOf [a, b, c, d] 4 = some n) : ∃ x y z u, val a.toNat = some x ∧ val b.toNat = some y ∧ val c.toNat = some z ∧ val d.toNat = some u ∧ n = x * 2 ^ 18 + y * 2 ^ 12 + z * 2 ^ 6 + u := by
  simp only [wOf, List.getD_cons_zero, List.getD_cons_succ] at h
  cases ha : val a.toNat <;> cases hb : val b.toNat <;> cases hc : val c.toNat <;> cases hd : val d.toNat <;> simp [ha, hb, hc, hd] at h
  exact ⟨_, _, _, _, rfl, rfl, rfl, rfl, by omega⟩
theorem ofNat_toNat' (n : Nat) : (UInt8.ofNat n).toNat = n % 256 := by simp
theorem back0 {a b c d : UInt8} {x : List UInt8} (h : ungrp [a, b, c, d] 0 = some x) : x.length = 3 ∧ grp x = [a, b, c, d] := by
  rw [ungrp, show 4 - 0 = 4 from rfl] at h
  split at h
  · rename_i n hn
    split at h
    · injection h with h
      obtain ⟨p, q, r, u, h1, h2, h3, h4, hn⟩ := wOf_four hn
      have l1 := val_lt h1
      have l2 := val_lt h2
      have l3 := val_lt h3
      have l4 := val_lt h4
      simp only [bytesOf, Nat.sub_zero, List.take_succ_cons, List.take_zero] at h
      subst h
      refine ⟨rfl, ?_⟩
      rw [grp3, word33, ofNat_toNat', ofNat_toNat', ofNat_toNat', ← sgn_val h1, ← sgn_val h2, ← sgn_val h3, ← sgn_val h4]
      have e : n / 65536 % 256 * 65536 + n / 256 % 256 * 256 + n % 256 = n := by omega
      rw [e, show n / 2 ^ 18 % 64 = p by omega, show n / 2 ^ 12 % 64 = q by omega, show n / 2 ^ 6 % 64 = r by omega, show n % 64 = u by omega]
    · cases h
  · cases h
theorem back1 {a b c : UInt8} {x : List UInt8} (h : ungrp [a, b, c, 61] 1 = some x) : x.length = 2 ∧ grp x = [a, b, c, 61] := by
  rw [ungrp, show 4 - 1 = 3 from rfl] at h
  split at h
  · rename_i n hn
    split at h
    · rename_i hm
      injection h with h
      obtain ⟨p, q, r, h1, h2, h3, hn⟩ := wOf_three hn
      have l1 := val_lt h1
      have l2 := val_lt h2
      have l3 := val_lt h3
      simp only [bytesOf, show 3 - 1 = 2 from rfl, List.take_succ_cons, List.take_zero] at h
      subst h
      refine ⟨rfl, ?_⟩
      rw [grp2, word2, ofNat_toNat', ofNat_toNat', ← sgn_val h1, ← sgn_val h2, ← sgn_val h3]
      have e : n / 65536 % 256 * 65536 + n / 256 % 256 * 256 = n := by omega
      rw [e, show n / 2 ^ 18 % 64 = p by omega, show n / 2 ^ 12 % 64 = q by omega, show n / 2 ^ 6 % 64 = r by omega]
    · cases h
  · cases h
theorem back2 {a b : UInt8} {x : List UInt8} (h : ungrp [a, b, 61, 61] 2 = some x) : x.length = 1 ∧ grp x = [a, b, 61, 61] := by
  rw [ungrp, show 4 - 2 = 2 from rfl] at h
  split at h
  · rename_i n hn
    split at h
    · rename_i hm
      injection h with h
      obtain ⟨p, q, h1, h2, hn⟩ := wOf_two hn
      have l1 := val_lt h1
      have l2 := val_lt h2
      simp only [bytesOf, show 3 - 2 = 1 from rfl, List.take_succ_cons, List.take_zero] at h
      subst h
      refine ⟨rfl, ?_⟩
      rw [grp1, word1, ofNat_toNat', ← sgn_val h1, ← sgn_val h2]
      have e : n / 65536 % 256 * 65536 = n := by omega
      rw [e, show n / 2 ^ 18 % 64 = p by omega, show n / 2 ^ 12 % 64 = q by omega]
    · cases h
  · cases h
theorem backFill {a b c d : UInt8} {x : List UInt8} (h : ungrp [a, b, c, d] (fillOf [a, b, c, d]) = some x) : b64 x = [a, b, c, d] := by
  have hf : fillOf [a, b, c, d] = if c = 61 ∧ d = 61 then 2 else if d = 61 then 1 else 0 := rfl
  rw [hf] at h
  split at h
  · rename_i hcd
    obtain ⟨rfl, rfl⟩ := hcd
    obtain ⟨hl, hg⟩ := back2 h
    rw [b64_last x (by omega) (by omega), hg]
  · split at h
    · rename_i hd
      subst hd
      obtain ⟨hl, hg⟩ := back1 h
      rw [b64_last x (by omega) (by omega), hg]
    · obtain ⟨hl, hg⟩ := back0 h
      rw [b64_three x (by omega), List.take_of_length_le (by omega), List.drop_of_length_le (by omega), hg]; rfl
theorem b64_unb64 : ∀ (l r : List UInt8), unb64 l = some r → b64 r = l
  | [], r, h => by cases h; rfl
  | [_], r, h => by cases h
  | [_, _], r, h => by cases h
  | [_, _, _], r, h => by cases h
  | a :: b :: c :: d :: l, r, h => by
    rw [unb64] at h
    split at h
    · rename_i x r' hx hr
      injection h with h
      subst h
      have ih := b64_unb64 l r' hr
      by_cases hl : l = []
      · rw [if_pos hl] at hx
        subst hl
        cases hr
        rw [List.append_nil, backFill hx]
      · rw [if_neg hl] at hx
        obtain ⟨hl3, hg⟩ := back0 hx
        rw [b64_three (x ++ r') (by simp; omega), List.take_left' hl3, List.drop_left' hl3, hg, ih]; rfl
    · cases h
end Go.Proofs.YtcaephnicaepaaaDoor.Tx
