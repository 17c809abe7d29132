import Derived.Test.YtdbbemcddhgbcaaGreatDoorPpM6
import Derived.Test.YtdbbemcddhgbcaaGreatDoorPpR5
/- Base64, THERE AND BACK. -/
namespace Go.Proofs.YtdbbemcddhgbcaaGreatDoor.Tx
open Go

theorem grp1 (a : UInt8) : grp [a] = [sgn (word3 [a] / 2 ^ 18 % 64), sgn (word3 [a] / 2 ^ 12 % 64), 61, 61] := by simp [grp, signs, List.replicate]
theorem grp2 (a b : UInt8) : grp [a, b] = [sgn (word3 [a, b] / 2 ^ 18 % 64), sgn (word3 [a, b] / 2 ^ 12 % 64), sgn (word3 [a, b] / 2 ^ 6 % 64), 61] := by simp [grp, signs]
theorem grp3 (a b c : UInt8) : grp [a, b, c] = [sgn (word3 [a, b, c] / 2 ^ 18 % 64), sgn (word3 [a, b, c] / 2 ^ 12 % 64), sgn (word3 [a, b, c] / 2 ^ 6 % 64), sgn (word3 [a, b, c] % 64)] := by simp [grp, signs]
theorem word1 (a : UInt8) : word3 [a] = a.toNat * 65536 := by simp [word3]
theorem word2 (a b : UInt8) : word3 [a, b] = a.toNat * 65536 + b.toNat * 256 := by simp [word3]
theorem word33 (a b c : UInt8) : word3 [a, b, c] = a.toNat * 65536 + b.toNat * 256 + c.toNat := by simp [word3]
theorem val_mod (n : Nat) : val (sgn (n % 64)).toNat = some (n % 64) := val_sgn _ (by omega)
theorem sgn_ne' (n : Nat) : sgn (n % 64) ≠ 61 := sgn_ne _ (by omega)
theorem wOf2 (n : Nat) (c d : UInt8) : wOf [sgn (n / 2 ^ 18 % 64), sgn (n / 2 ^ 12 % 64), c, d] 2 = some (n / 2 ^ 18 % 64 * 2 ^ 18 + n / 2 ^ 12 % 64 * 2 ^ 12) := by
  simp [wOf, val_mod]
theorem wOf3 (n : Nat) (d : UInt8) : wOf [sgn (n / 2 ^ 18 % 64), sgn (n / 2 ^ 12 % 64), sgn (n / 2 ^ 6 % 64), d] 3 = some (n / 2 ^ 18 % 64 * 2 ^ 18 + n / 2 ^ 12 % 64 * 2 ^ 12 + n / 2 ^ 6 % 64 * 2 ^ 6) := by
  simp [wOf, val_mod]
theorem wOf4 (n : Nat) : wOf [sgn (n / 2 ^ 18 % 64), sgn (n / 2 ^ 12 % 64), sgn (n / 2 ^ 6 % 64), sgn (n % 64)] 4 = some (n / 2 ^ 18 % 64 * 2 ^ 18 + n / 2 ^ 12 % 64 * 2 ^ 12 + n / 2 ^ 6 % 64 * 2 ^ 6 + n % 64) := by
  simp [wOf, val_mod]
theorem u8_eq {a : UInt8} {n : Nat} (h : n % 256 = a.toNat) : UInt8.ofNat n = a := by
  apply UInt8.toNat_inj.1; simpa using h
theorem ungrp1 (a : UInt8) : ungrp (grp [a]) 2 = some [a] := by
  have ha := UInt8.toNat_lt a
  have e := word1 a
  rw [grp1]
  generalize word3 [a] = n at *
  have h : n / 2 ^ 18 % 64 * 2 ^ 18 + n / 2 ^ 12 % 64 * 2 ^ 12 = n := by omega
  rw [ungrp, show 4 - 2 = 2 from rfl, wOf2, h]
  simp only
  rw [if_pos (by omega)]
  simp only [bytesOf, List.take_succ_cons, List.take_zero]
  rw [u8_eq (show n / 65536 % 256 = a.toNat by omega)]
theorem ungrp2 (a b : UInt8) : ungrp (grp [a, b]) 1 = some [a, b] := by
  have ha := UInt8.toNat_lt a
  have hb := UInt8.toNat_lt b
  have e := word2 a b
  rw [grp2]
  generalize word3 [a, b] = n at *
  have h : n / 2 ^ 18 % 64 * 2 ^ 18 + n / 2 ^ 12 % 64 * 2 ^ 12 + n / 2 ^ 6 % 64 * 2 ^ 6 = n := by omega
  rw [ungrp, show 4 - 1 = 3 from rfl, wOf3, h]
  simp only
  rw [if_pos (by omega)]
  simp only [bytesOf, List.take_succ_cons, List.take_zero]
  rw [u8_eq (show n / 65536 % 256 = a.toNat by omega), u8_eq (show n / 256 % 256 = b.toNat by omega)]
theorem ungrp3 (a b c : UInt8) : ungrp (grp [a, b, c]) 0 = some [a, b, c] := by
  have ha := UInt8.toNat_lt a
  have hb := UInt8.toNat_lt b
  have hc := UInt8.toNat_lt c
  have e := word33 a b c
  rw [grp3]
  generalize word3 [a, b, c] = n at *
  have h : n / 2 ^ 18 % 64 * 2 ^ 18 + n / 2 ^ 12 % 64 * 2 ^ 12 + n / 2 ^ 6 % 64 * 2 ^ 6 + n % 64 = n := by omega
  rw [ungrp, show 4 - 0 = 4 from rfl, wOf4, h]
  simp only
  rw [if_pos (by omega)]
  simp only [bytesOf, List.take_succ_cons, List.take_zero]
  rw [u8_eq (show n / 65536 % 256 = a.toNat by omega), u8_eq (show n / 256 % 256 = b.toNat by omega), u8_eq (show n % 256 = c.toNat by omega)]
theorem fill1 (a : UInt8) : fillOf (grp [a]) = 2 := by rw [grp1]; simp [fillOf]
theorem fill2 (a b : UInt8) : fillOf (grp [a, b]) = 1 := by
  rw [grp2]; simp [fillOf]; exact sgn_ne' _
theorem fill3 (a b c : UInt8) : fillOf (grp [a, b, c]) = 0 := by
  rw [grp3]; simp [fillOf, sgn_ne']
theorem unb64_of (g l : List UInt8) (hg : g.length = 4) : unb64 (g ++ l) = (match ungrp g (if l = [] then fillOf g else 0), unb64 l with
    | some x, some r => some (x ++ r)
    | _, _ => none) := by
  match g, hg with
  | [a, b, c, d], _ => rfl
theorem unb64_b64 : ∀ l, unb64 (b64 l) = some l
  | [] => rfl
  | [a] => by
    have := unb64_of (grp [a]) [] (grp_length _ (by simp) (by simp))
    rw [List.append_nil, if_pos rfl, fill1, ungrp1] at this
    rw [b64, this]; rfl
  | [a, b] => by
    have := unb64_of (grp [a, b]) [] (grp_length _ (by simp) (by simp))
    rw [List.append_nil, if_pos rfl, fill2, ungrp2] at this
    rw [b64, this]; rfl
  | a :: b :: c :: l => by
    have := unb64_of (grp [a, b, c]) (b64 l) (grp_length _ (by simp) (by simp))
    rw [fill3, ite_self, ungrp3, unb64_b64 l] at this
    rw [b64, this]; rfl

theorem wOf_two {a b c d : UInt8} {n : Nat} (h : wOf [a, b, c, d] 2 = some n) : ∃ x y, val a.toNat = some x ∧ val b.toNat = some y ∧ n = x * 2 ^ 18 + y * 2 ^ 12 := by
  simp only [wOf, List.getD_cons_zero, List.getD_cons_succ] at h
  cases ha : val a.toNat <;> cases hb : val b.toNat <;> simp [ha, hb] at h
  exact ⟨_, _, rfl, rfl, by omega⟩
theorem wOf_three {a b c d : UInt8} {n : Nat} (h : wOf [a, b, c, d] 3 = some n) : ∃ x y z, val a.toNat = some x ∧ val b.toNat = some y ∧ val c.toNat = some z ∧ n = x * 2 ^ 18 + y * 2 ^ 12 + z * 2 ^ 6 := by
  simp only [wOf, List.getD_cons_zero, List.getD_cons_succ] at h
  cases ha : val a.toNat <;> cases hb : val b.toNat <;> cases hc : val c.toNat <;> simp [ha, hb, hc] at h
  exact ⟨_, _, _, rfl, rfl, rfl, by omega⟩
theorem wOf_four {a b c d : UInt8} {n : Nat} (h : wOf [a, b, c, d] 4 = some n) : ∃ x y z u, val a.toNat = some x ∧ val b.toNat = some y ∧ val c.toNat = some z ∧ val d.toNat = some u ∧ n = x * 2 ^ 18 + y * 2 ^ 12 + z * 2 ^ 6 + u := by
  simp only [wOf, List.getD_cons_zero, List.getD_cons_succ] at h
  cases ha : val a.toNat <;> cases hb : val b.toNat <;> cases hc : val c.toNat <;> cases hd : val d.toNat <;> simp [ha, hb, hc, hd] at h
  exact ⟨_, _, _, _, rfl, rfl, rfl, rfl, by omega⟩
theorem ofNat_toNat' (n : Nat) : (UInt8.ofNat n).toNat = n % 256 := by simp
theorem back0 {a b c d : UInt8} {x : List UInt8} (h : ungrp [a, b, c, d] 0 = some x) : x.length = 3 ∧ grp x = [a, b, c, d] := by
  rw [ungrp, show 4 - 0 = 4 from rfl] at h
  split at h
  · rename_i n hn
    split at h
    · injection h with h
      obtain ⟨p, q, r, u, h1, h2, h3, h4, hn⟩ := wOf_four hn
      have l1 := val_lt h1
      have l2 := val_lt h2
      have l3 := val_lt h3
      have l4 := val_lt h4
      simp only [bytesOf, Nat.sub_zero, List.take_succ_cons, List.take_zero] at h
      subst h
      refine ⟨rfl, ?_⟩
      rw [grp3, word33, ofNat_toNat', ofNat_toNat', ofNat_toNat', ← sgn_val h1, ← sgn_val h2, ← sgn_val h3, ← sgn_val h4]
      have e : n / 65536 % 256 * 65536 + n / 256 % 256 * 256 + n % 256 = n := by omega
      rw [e, show n / 2 ^ 18 % 64 = p by omega, show n / 2 ^ 12 % 64 = q by omega, show n / 2 ^ 6 % 64 = r by omega, show n % 64 = u by omega]
    · cases h
  · cases h
theorem back1 {a b c : UInt8} {x : List UInt8} (h : ungrp [a, b, c, 61] 1 = some x) : x.length = 2 ∧ grp x = [a, b, c, 61] := by
  rw [ungrp, show 4 - 1 = 3 from rfl] at h
  split at h
  · rename_i n hn
    split at h
    · rename_i hm
      injection h with h
      obtain ⟨p, q, r, h1, h2, h3, hn⟩ := wOf_three hn
      have l1 := val_lt h1
      have l2 := val_lt h2
      have l3 := val_lt h3
      simp only [bytesOf, show 3 - 1 = 2 from rfl, List.take_succ_cons, List.take_zero] at h
      subst h
      refine ⟨rfl, ?_⟩
      rw [grp2, word2, ofNat_toNat', ofNat_toNat', ← sgn_val h1, ← sgn_val h2, ← sgn_val h3]
      have e : n / 65536 % 256 * 65536 + n / 256 % 256 * 256 = n := by omega
      rw [e, show n / 2 ^ 18 % 64 = p by omega, show n / 2 ^ 12 % 64 = q by omega, show n / 2 ^ 6 % 64 = r by omega]
    · cases h
  · cases h
theorem back2 {a b : UInt8} {x : List UInt8} (h : ungrp [a, b, 61, 61] 2 = some x) : x.length = 1 ∧ grp x = [a, b, 61, 61] := by
  rw [ungrp, show 4 - 2 = 2 from rfl] at h
  split at h
  · rename_i n hn
    split at h
    · rename_i hm
      injection h with h
      obtain ⟨p, q, h1, h2, hn⟩ := wOf_two hn
      have l1 := val_lt h1
      have l2 := val_lt h2
      simp only [bytesOf, show 3 - 2 = 1 from rfl, List.take_succ_cons, List.take_zero] at h
      subst h
      refine ⟨rfl, ?_⟩
      rw [grp1, word1, ofNat_toNat', ← sgn_val h1, ← sgn_val h2]
      have e : n / 65536 % 256 * 65536 = n := by omega
      rw [e, show n / 2 ^ 18 % 64 = p by omega, show n / 2 ^ 12 % 64 = q by omega]
    · cases h
  · cases h
theorem backFill {a b c d : UInt8} {x : List UInt8} (h : ungrp [a, b, c, d] (fillOf [a, b, c, d]) = some x) : b64 x = [a, b, c, d] := by
  have hf : fillOf [a, b, c, d] = if c = 61 ∧ d = 61 then 2 else if d = 61 then 1 else 0 := rfl
  rw [hf] at h
  split at h
  · rename_i hcd
    obtain ⟨rfl, rfl⟩ := hcd
    obtain ⟨hl, hg⟩ := back2 h
    rw [b64_last x (by omega) (by omega), hg]
  · split at h
    · rename_i hd
      subst hd
      obtain ⟨hl, hg⟩ := back1 h
      rw [b64_last x (by omega) (by omega), hg]
    · obtain ⟨hl, hg⟩ := back0 h
      rw [b64_three x (by omega), List.take_of_length_le (by omega), List.drop_of_length_le (by omega), hg]; rfl
theorem b64_unb64 : ∀ (l r : List UInt8), unb64 l = some r → b64 r = l
  | [], r, h => by cases h; rfl
  | [_], r, h => by cases h
  | [_, _], r, h => by cases h
  | [_, _, _], r, h => by cases h
  | a :: b :: c :: d :: l, r, h => by
    rw [unb64] at h
    split at h
    · rename_i x r' hx hr
      injection h with h
      subst h
      have ih := b64_unb64 l r' hr
      by_cases hl : l = []
      · rw [if_pos hl] at hx
        subst hl
        cases hr
        rw [List.append_nil, backFill hx]
      · rw [if_neg hl] at hx
        obtain ⟨hl3, hg⟩ := back0 hx
        rw [b64_three (x ++ r') (by simp; omega), List.take_left' hl3, List.drop_left' hl3, hg, ih]; rfl
    · cases h
end Go.Proofs.YtdbbemcddhgbcaaGreatDoor.Tx

namespace Go.Proofs.YtdbbemcddhgbcaaGreatDoor
open Go.RowKit

def byteOf (z : Int) : UInt8 := UInt8.ofNat (z % 256).toNat
theorem byteOf_wrap (z : Int) : IntKind.u8.wrap z = ((byteOf z).toNat : Int) := by
  rw [IntKind.wrap_u8']; unfold byteOf; simp; omega
theorem Own.set {w : World} {base g cap : Nat} {cs : List Value} (h : Own w base (.slice (some ⟨g, 0, none⟩) cs.length cap) cs) (k : Nat) (hk : k < cs.length) (x : Value) :
    Own (w.setCell ⟨g, k, none⟩ x) base (.slice (some ⟨g, 0, none⟩) (cs.set k x).length cap) (cs.set k x) := by
  rcases h with ⟨h, _⟩ | ⟨g', cap', h, h1, h2, h3, h4, h5, h6⟩
  · cases h
  · injection h with e1 e2 e3
    injection e1 with e1
    injection e1 with e1
    subst e1 e3
    refine .inr ⟨g, cap, rfl, h1, by rw [List.length_set]; exact h2, h3, fun j v hv => ?_, fun j hj => ?_, by simpa [World.setCell] using h6⟩
    · rw [Nat.zero_add]
      rw [List.getElem?_set] at hv
      split at hv
      · rename_i e
        subst e
        cases hv
        have := (h5 k (by omega)).1
        rw [Nat.zero_add] at this
        exact World.cell?_setCell_same' _ _ _ this
      · rename_i e
        have := h4 j v hv
        rw [Nat.zero_add] at this
        exact (World.cell?_setCell_other _ _ _ _ (by intro h; injection h; omega)).trans this
    · have := h5 j hj
      rw [Nat.zero_add] at this ⊢
      refine ⟨?_, by rw [World.frozen?_setCell]; exact this.2⟩
      by_cases e : j = k
      · subst e
        rw [World.cell?_setCell_same' _ _ _ this.1]; rfl
      · rw [World.cell?_setCell_other _ _ _ _ (by intro h; injection h; omega)]
        exact this.1
theorem Own.cell {w : World} {base g cap n : Nat} {cs : List Value} (h : Own w base (.slice (some ⟨g, 0, none⟩) n cap) cs) {k : Nat} {x : Value} (hk : cs[k]? = some x) : w.cell? ⟨g, k, none⟩ = some x ∧ w.frozen? ⟨g, k, none⟩ = false := by
  rcases h with ⟨h, _⟩ | ⟨g', cap', h, h1, h2, h3, h4, h5, h6⟩
  · cases h
  · injection h with e1 e2 e3
    injection e1 with e1
    injection e1 with e1
    subst e1 e3
    have a := h4 k x hk
    have b := (h5 k (by have := (List.getElem?_eq_some_iff.1 hk).1; omega)).2
    rw [Nat.zero_add] at a b
    exact ⟨a, b⟩
theorem bv_set' (l : List UInt8) (k : Nat) (x : UInt8) : (bv l).set k (.int .u8 (x.toNat : Int)) = bv (l.set k x) := by simp [bv, List.map_set]

end Go.Proofs.YtdbbemcddhgbcaaGreatDoor

namespace Go.Proofs.YtdbbemcddhgbcaaGreatDoor
open Go.RowKit

theorem b64_at {s x : ByteArray} (h : Hid (Tx.b64 s.data.toList = x.data.toList)) (hs : s.size ≤ 70368744177664) (w : World) :
    Calls Tryz.prog 54 #[.string s] w fun e w' => e = .returned (.string x) ∧ Below w.heap.size w w' := by
  have := base64_any s hs w
  rwa [h.out, ← sv_eta] at this
theorem fromB64_ok {s r : ByteArray} (h : Hid (Tx.unb64 s.data.toList = some r.data.toList)) (hs : s.size ≤ 140737488355328) (w : World) :
    Calls Tryz.prog 81 #[.string s] w fun e w' => e = .returned (.tuple #[.string r, .int .i64 0]) ∧ Below w.heap.size w w' := by
  have := fromBase64_any s hs w
  rwa [Tx.fromB64, h.out, ← sv_eta] at this
theorem fromB64_bad {s : ByteArray} (h : Hid (Tx.unb64 s.data.toList = none)) (hs : s.size ≤ 140737488355328) (w : World) :
    Calls Tryz.prog 81 #[.string s] w fun e w' => e = .returned (.tuple #[.string { data := #[] }, .int .i64 11]) ∧ Below w.heap.size w w' := by
  have := fromBase64_any s hs w
  rwa [Tx.fromB64, h.out] at this
theorem ba_exists (l : List UInt8) : ∃ x : ByteArray, l = x.data.toList := ⟨⟨l.toArray⟩, (sv_data l).symm⟩
/-- four texts in a row -/
def Four (w : World) (G : Nat) (Z : List ByteArray) : Prop := Z.length = 4 ∧ (∀ z ∈ Z, z.size ≤ 10000000) ∧ G < w.heap.size ∧ ∀ j z, Z[j]? = some z → w.cell? ⟨G, j, none⟩ = some (.string z)
theorem Four.below {w w' : World} {G B : Nat} {Z : List ByteArray} (h : Four w G Z) (hb : Below B w w') (hB : G < B) : Four w' G Z :=
  ⟨h.1, h.2.1, Nat.lt_of_lt_of_le h.2.2.1 hb.size, fun j z hz => (hb.cell (p := ⟨G, j, none⟩) hB).trans (h.2.2.2 j z hz)⟩
theorem four_mk (w : World) (a b c d : ByteArray) (ha : a.size ≤ 10000000) (hb : b.size ≤ 10000000) (hc : c.size ≤ 10000000) (hd : d.size ≤ 10000000) (t : TypeId) :
    Four (w.alloc (.cells #[.string a, .string b, .string c, .string d] t)) w.heap.size [a, b, c, d] := by
  refine ⟨rfl, fun z hz => ?_, by rw [size_alloc]; omega, fun j z hz => ?_⟩
  · simp only [List.mem_cons, List.not_mem_nil, or_false] at hz
    rcases hz with rfl | rfl | rfl | rfl <;> assumption
  · rw [cell_of_row _ _ _ _ _ _ (heap_alloc_new w _)]
    match j, hz with
    | 0, h => obtain rfl := Option.some.inj h; rfl
    | 1, h => obtain rfl := Option.some.inj h; rfl
    | 2, h => obtain rfl := Option.some.inj h; rfl
    | 3, h => obtain rfl := Option.some.inj h; rfl

theorem b64Case (z : ByteArray) (hz : z.size ≤ 10000000) : ∃ (c : ByteArray) (g : Int) (p : ByteArray),
    Hid (∀ w, Calls Tryz.prog 81 #[.string z] w fun e w' => e = .returned (.tuple #[.string c, .int .i64 g]) ∧ Below w.heap.size w w') ∧
    Hid (∀ w, Calls Tryz.prog 54 #[.string c] w fun e w' => e = .returned (.string p) ∧ Below w.heap.size w w') ∧
    ((g = 0 ∧ p = z) ∨ (g = 11 ∧ c = { data := #[] } ∧ p = { data := #[] })) := by
  cases hu : Tx.unb64 z.data.toList with
  | none => exact ⟨_, _, _, fun w => fromB64_bad (hid hu) (by omega) w, fun w => b64_at (x := { data := #[] }) (hid rfl) (by rw [emptySize]; omega) w, .inr ⟨rfl, rfl, rfl⟩⟩
  | some r =>
    obtain ⟨c, rfl⟩ := ba_exists r
    have hl := Tx.unb64_length _ _ hu
    rw [data_length, data_length] at hl
    exact ⟨c, 0, z, fun w => fromB64_ok (hid hu) (by omega) w, fun w => b64_at (hid (Tx.b64_unb64 _ _ hu)) (by omega) w, .inl ⟨rfl, rfl⟩⟩

end Go.Proofs.YtdbbemcddhgbcaaGreatDoor

namespace Go.Proofs.YtdbbemcddhgbcaaGreatDoor
open Go.RowKit

/-- where c stands first in a list, counted from k on; -1: nowhere -/
def sgnAt (c : Nat) : List UInt8 → Nat → Int
  | [], _ => -1
  | x :: l, k => if x.toNat = c then (k : Int) else sgnAt c l (k + 1)
theorem sgnAt_drop (c : Nat) (l : List UInt8) (k : Nat) (h : k < l.length) : sgnAt c (l.drop k) k = if (l.getD k 0).toNat = c then (k : Int) else sgnAt c (l.drop (k + 1)) (k + 1) := by
  rw [List.drop_eq_getElem_cons h, sgnAt, List.getD_eq_getElem?_getD, List.getElem?_eq_getElem h]; rfl
set_option maxRecDepth 100000 in
set_option maxHeartbeats 1000000 in
theorem sign_any (c : Nat) (s : ByteArray) (hs : s.size ≤ 1000) (w : World) :
    Calls Tryz.prog 90 #[.int .u8 (c : Int), .string s] w fun e w' => e = .returned (.int .i64 (sgnAt c s.data.toList 0)) ∧ w' = w := by
  have hs' : (s.size : Int) ≤ 1000 := by omega
  obtain ⟨D, hD⟩ : ∃ D, Hid (sgnAt c s.data.toList 0 = D) := ⟨_, rfl⟩
  rw [hD.out]
  go_enter Tryz.func90, Tryz.ntmps90
  go_wp2
  go_loopw [5] (fun i w' => ∃ k : Nat, k ≤ s.size ∧ i = .int .i64 k ∧ Hid (sgnAt c (s.data.toList.drop k) k = D) ∧ w' = w) (fun i _ => s.size - (intOf i).toNat)
  case atStart => exact ⟨0, by omega, rfl, hD, rfl⟩
  case round =>
    obtain ⟨k, hk, rfl, hd, hwr⟩ := hrel
    have Hwr := hid hwr
    clear hwr
    by_cases hlt : k < s.size
    · have hlt' : (k : Int) < (s.size : Int) := by omega
      obtain ⟨x, ex, lx, ix, jx⟩ := index_any s (k : Int) k rfl hlt
      have hst := sgnAt_drop c s.data.toList k (by rw [data_length]; exact hlt)
      rw [hd.out, ← ex.out] at hst
      by_cases hc : x = c
      · rw [if_pos hc] at hst
        have HD := hid hst
        have hc' : ((x : Int) == (c : Int)) = true := by simp; omega
        clear hst
        subst hc
        go_wp2
        go_ret
        exact ⟨by rw [HD.out]; rfl, Hwr.out⟩
      · rw [if_neg hc] at hst
        have HD := hid hst.symm
        have hc' : ((x : Int) == (c : Int)) = false := by simp; omega
        clear hst
        go_wp2
        exact ⟨⟨k + 1, by omega, by go_num, HD, Hwr.out⟩, by simp [intOf]; omega⟩
    · obtain rfl : k = s.size := by omega
      have e : Hid (D = -1) := by rw [← hd.out, List.drop_of_length_le (by rw [data_length]; omega)]; rfl
      go_wp2
      go_ret
      exact ⟨by rw [e.out]; rfl, Hwr.out⟩
end Go.Proofs.YtdbbemcddhgbcaaGreatDoor

namespace Go.Proofs.YtdbbemcddhgbcaaGreatDoor
open Go.RowKit

theorem conv_nil (w : World) : (convert 43 9 (.slice none 0 0)).run Tryz.prog w = .ok (sv []) w := by
  rw [run_convert_bytes_string (P := Tryz.prog) w 43 9 5 none 0 0 Tryz.underlying43 Tryz.underlying5 Tryz.underlying9]
  rfl
theorem conv_all {w : World} {base : Nat} {v : Value} {bs : List UInt8} (h : OwnB w base v bs) : (convert 43 9 v).run Tryz.prog w = .ok (sv bs) w := by
  by_cases hv : v = .slice none 0 0
  · subst hv
    rcases h with ⟨_, h⟩ | ⟨g, cap, h, _⟩
    · have : bs = [] := by cases bs with | nil => rfl | cons a l => simp [bv] at h
      subst this
      exact conv_nil w
    · cases h
  · exact conv_own h hv
theorem hex_signs : ∀ c, c < 256 → (sgnAt c Tx.hexTab 0 = -1 ∧ Tx.hexVal c = none) ∨ ∃ p : Nat, sgnAt c Tx.hexTab 0 = (p : Int) ∧ Tx.hexVal c = some p ∧ p < 16 := by
  intro c hc
  have h : (List.range 256).all (fun c => match Tx.hexVal c with | some p => decide (sgnAt c Tx.hexTab 0 = (p : Int)) | none => decide (sgnAt c Tx.hexTab 0 = -1)) = true := by decide +kernel
  have := List.all_eq_true.1 h c (by simpa using hc)
  cases hv : Tx.hexVal c with
  | none => rw [hv] at this; exact .inl ⟨of_decide_eq_true this, rfl⟩
  | some p => rw [hv] at this; exact .inr ⟨p, of_decide_eq_true this, rfl, Tx.hexVal_lt hv⟩
theorem b64_signs : ∀ c, c < 256 → (sgnAt c Tx.tab 0 = -1 ∧ Tx.val c = none) ∨ ∃ p : Nat, sgnAt c Tx.tab 0 = (p : Int) ∧ Tx.val c = some p ∧ p < 64 := by
  intro c hc
  have h : (List.range 256).all (fun c => match Tx.val c with | some p => decide (sgnAt c Tx.tab 0 = (p : Int)) | none => decide (sgnAt c Tx.tab 0 = -1)) = true := by decide +kernel
  have := List.all_eq_true.1 h c (by simpa using hc)
  cases hv : Tx.val c with
  | none => rw [hv] at this; exact .inl ⟨of_decide_eq_true this, rfl⟩
  | some p => rw [hv] at this; exact .inr ⟨p, of_decide_eq_true this, rfl, Tx.val_lt hv⟩
theorem sign_at {c : Nat} {tab : List UInt8} {p : Int} (h : Hid (sgnAt c tab 0 = p)) (ht : tab.length ≤ 1000) (w : World) :
    Calls Tryz.prog 90 #[.int .u8 (c : Int), .string ⟨tab.toArray⟩] w fun e w' => e = .returned (.int .i64 p) ∧ w' = w := by
  have := sign_any c ⟨tab.toArray⟩ (by rw [sv_size]; exact ht) w
  rwa [sv_data, h.out] at this
theorem byteOf_nat (n : Nat) : byteOf (n : Int) = UInt8.ofNat n := by
  apply UInt8.toNat_inj.1
  unfold byteOf
  simp; omega

end Go.Proofs.YtdbbemcddhgbcaaGreatDoor
