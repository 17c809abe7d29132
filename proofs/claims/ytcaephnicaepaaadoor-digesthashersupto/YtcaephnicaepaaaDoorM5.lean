/- THE PLAIN MATHEMATICS OF LAYER 1's TEXTS: Base64. -/
import Derived.Test.YtcaephnicaepaaaDoorM4
namespace Go.Proofs.YtcaephnicaepaaaDoor.Tx
open Go

def tab : List UInt8 := [65, 66, 67, 68, 69, 70, 71, 72, 73, 74, 75, 76, 77, 78, 79, 80, 81, 82, 83, 84, 85, 86, 87, 88, 89, 90,
  97, 98, 99, 100, 101, 102, 103, 104, 105, 106, 107, 108, 109, 110, 111, 112, 113, 114, 115, 116, 117, 118, 119, 120, 121, 122,
  48, 49, 50, 51, 52, 53, 54, 55, 56, 57, 43, 47]
theorem tab_length : tab.length = 64 := by decide +kernel
def sgn (n : Nat) : UInt8 := tab.getD n 0
/-- the 24 bits of one to three bytes -/
def word3 (g : List UInt8) : Nat := (g.getD 0 0).toNat * 65536 + (g.getD 1 0).toNat * 256 + (g.getD 2 0).toNat
def wk (g : List UInt8) : Nat → Nat
  | 0 => 0
  | k + 1 => wk g k * 256 + (g.getD k 0).toNat
theorem wk_three (g : List UInt8) : wk g 3 = word3 g := by simp only [wk, word3]; omega
theorem wk_lt (g : List UInt8) : ∀ k, wk g k < 256 ^ k
  | 0 => by simp [wk]
  | k + 1 => by
    have := wk_lt g k
    have hb := UInt8.toNat_lt (g.getD k 0)
    rw [wk, Nat.pow_succ]; omega
def signs (n : Nat) : List UInt8 := [sgn (n / 2 ^ 18 % 64), sgn (n / 2 ^ 12 % 64), sgn (n / 2 ^ 6 % 64), sgn (n % 64)]
theorem signs_at (n k : Nat) (hk : k < 4) : (signs n).getD k 0 = sgn (n / 2 ^ (18 - 6 * k) % 64) := by
  match k, hk with
  | 0, _ => rfl
  | 1, _ => rfl
  | 2, _ => rfl
  | 3, _ => simp [signs]
theorem signs_take (n k : Nat) (hk : k < 4) : (signs n).take (k + 1) = (signs n).take k ++ [sgn (n / 2 ^ (18 - 6 * k) % 64)] := by
  rw [List.take_succ_eq_append_getElem (by simpa [signs] using hk), ← signs_at n k hk, List.getD_eq_getElem?_getD, List.getElem?_eq_getElem (by simpa [signs] using hk)]
  rfl
/-- a group's four signs -/
def grp (g : List UInt8) : List UInt8 := (signs (word3 g)).take (g.length + 1) ++ List.replicate (3 - g.length) 61
def b64 : List UInt8 → List UInt8
  | [] => []
  | [a] => grp [a]
  | [a, b] => grp [a, b]
  | a :: b :: c :: l => grp [a, b, c] ++ b64 l
theorem grp_length (g : List UInt8) (h1 : 1 ≤ g.length) (h3 : g.length ≤ 3) : (grp g).length = 4 := by simp [grp, signs]; omega
theorem b64_three (l : List UInt8) (h : 3 ≤ l.length) : b64 l = grp (l.take 3) ++ b64 (l.drop 3) := by
  match l, h with
  | a :: b :: c :: l, _ => simp [b64]
theorem b64_last (l : List UInt8) (h1 : 1 ≤ l.length) (h : l.length < 3) : b64 l = grp l := by
  match l, h1, h with
  | [a], _, _ => rfl
  | [a, b], _, _ => rfl
theorem b64_length : ∀ l : List UInt8, (b64 l).length = (l.length + 2) / 3 * 4
  | [] => rfl
  | [a] => by rw [b64, grp_length _ (by simp) (by simp)]; simp
  | [a, b] => by rw [b64, grp_length _ (by simp) (by simp)]; simp
  | a :: b :: c :: l => by
    rw [b64, List.length_append, grp_length _ (by simp) (by simp), b64_length l]
    simp only [List.length_cons]; omega

/-- what a sign stands for -/
def val (c : Nat) : Option Nat :=
  if 65 ≤ c ∧ c ≤ 90 then some (c - 65) else if 97 ≤ c ∧ c ≤ 122 then some (c - 71) else if 48 ≤ c ∧ c ≤ 57 then some (c + 4) else if c = 43 then some 62 else if c = 47 then some 63 else none
theorem val_lt {c x : Nat} (h : val c = some x) : x < 64 := by
  unfold val at h
  repeat (split at h; · injection h; omega)
  cases h
theorem val_sgn : ∀ n, n < 64 → val (sgn n).toNat = some n := by decide +kernel
theorem sgn_ne : ∀ n, n < 64 → sgn n ≠ 61 := by decide +kernel
theorem sgn_val_all : ∀ c, c < 256 → ∀ x, val c = some x → sgn x = UInt8.ofNat c := by
  intro c hc x h
  have h2 : (List.range 256).all (fun c => match val c with | some x => sgn x == UInt8.ofNat c | none => true) = true := by decide +kernel
  have := List.all_eq_true.1 h2 c (by simpa using hc)
  rw [h] at this
  simpa using this
theorem sgn_val {c : UInt8} {x : Nat} (h : val c.toNat = some x) : sgn x = c := by
  have := sgn_val_all c.toNat (UInt8.toNat_lt c) x h
  rwa [UInt8.ofNat_toNat] at this
theorem val_61 : val 61 = none := by decide
end Go.Proofs.YtcaephnicaepaaaDoor.Tx
