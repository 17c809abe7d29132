import Derived.Test.YtkpfpfjjkcefkaaCDX1
namespace Go.Proofs.Ytkpfpfjjkcefkaa
open Go.RowKit Go.Maps

theorem at_get {L : List (List UInt8)} {i : Nat} (h : i < L.length) : L[i]! = L[i] := getElem!_pos L i h
/-- what is pending, by the law's own list: an empty text says that nothing is -/
def pnl (N : List (List UInt8)) : Nat → Option (List UInt8) := fun i => if N[i]! = [] then none else some N[i]!
theorem pnl_nil (k : Nat) : pnl (List.replicate k []) = fun _ => none := by
  funext i
  have : (List.replicate k ([] : List UInt8))[i]! = [] := by
    rw [List.getElem!_eq_getElem?_getD, List.getElem?_replicate]
    split <;> rfl
  rw [pnl, if_pos this]
theorem pnl_set {N : List (List UInt8)} {n : Nat} {s : List UInt8} (hn : n < N.length) (hs : s ≠ []) : pnl (N.set n s) = upd (pnl N) n s := by
  funext i
  unfold pnl upd
  by_cases e : i = n
  · subst e; rw [set_eq hn, if_neg hs, if_pos rfl]
  · rw [set_ne e, if_neg e]
theorem pnl_some {N : List (List UInt8)} {n : Nat} (h : N[n]! ≠ []) : pnl N n = some N[n]! := if_neg h
theorem pnl_none {N : List (List UInt8)} {n : Nat} (h : N[n]! = []) : pnl N n = none := if_pos h
/-- what lasts behind a flush -/
def flL (L N : List (List UInt8)) : List (List UInt8) := (List.range 6).map fun i => (pnl N i).getD L[i]!
theorem flL_len (L N : List (List UInt8)) : (flL L N).length = 6 := by simp [flL]
theorem flL_at (L N : List (List UInt8)) {i : Nat} (hi : i < 6) : (flL L N)[i]'(by rw [flL_len]; exact hi) = (pnl N i).getD L[i]! := by simp [flL]
theorem flush_l {w : World} {a g b left : Nat} {dead : Bool} {L N : List (List UInt8)} (h : Dv w a g b L (pnl N) left dead) (h6 : L.length = 6) : stL L (tks L.length (pnl N) fun _ => 256) = flL L N := by
  obtain ⟨D, _, hP⟩ := h.mp
  apply List.ext_getElem
  · rw [stL_len, h6, flL_len]
  · intro i h1 h2
    rw [flL_len] at h2
    rw [flL_at L N h2, ← flush_at (L := L) (i := i) (by omega) h.pg hP, at_get h1]
def flK (L N : List (List UInt8)) (k : Nat) : List (List UInt8) := (flL L N).take k ++ L.drop k
def noK (N : List (List UInt8)) (k : Nat) : List (List UInt8) := List.replicate k [] ++ N.drop k
theorem flK_zero (L N : List (List UInt8)) : flK L N 0 = L := by simp [flK]
theorem noK_zero (N : List (List UInt8)) : noK N 0 = N := by simp [noK]
theorem flK_six {L : List (List UInt8)} (N : List (List UInt8)) (h : L.length = 6) : flK L N 6 = flL L N := by
  rw [flK, List.take_of_length_le (by rw [flL_len]; omega), List.drop_eq_nil_of_le (by omega), List.append_nil]
theorem noK_six {N : List (List UInt8)} (h : N.length = 6) : noK N 6 = List.replicate 6 [] := by
  rw [noK, List.drop_eq_nil_of_le (by omega), List.append_nil]
theorem flK_len {L : List (List UInt8)} (N : List (List UInt8)) (h : L.length = 6) {k : Nat} (hk : k ≤ 6) : (flK L N k).length = 6 := by
  rw [flK, List.length_append, List.length_take, flL_len, List.length_drop, h]; omega
theorem noK_len {N : List (List UInt8)} (h : N.length = 6) {k : Nat} (hk : k ≤ 6) : (noK N k).length = 6 := by
  rw [noK, List.length_append, List.length_replicate, List.length_drop, h]; omega
theorem noK_at {N : List (List UInt8)} (h : N.length = 6) {k : Nat} (hk : k < 6) : (noK N k)[k]'(by rw [noK_len h (by omega)]; exact hk) = N[k]! := by
  simp only [noK]
  rw [List.getElem_append_right (by simp)]
  simp [at_get (show k < N.length by omega)]
theorem drop_cons {L : List (List UInt8)} {k : Nat} (h : k < L.length) : L.drop k = L[k]! :: L.drop (k + 1) := by
  rw [at_get h, List.drop_eq_getElem_cons h]
theorem mid_set (A : List (List UInt8)) (x y : List UInt8) (B : List (List UInt8)) {k : Nat} (h : A.length = k) : (A ++ x :: B).set k y = A ++ y :: B := by
  subst h; simp
theorem flK_set {L : List (List UInt8)} {N : List (List UInt8)} (h : L.length = 6) {k : Nat} (hk : k < 6) (hN : N[k]! ≠ []) : (flK L N k).set k N[k]! = flK L N (k + 1) := by
  have hl : ((flL L N).take k).length = k := by rw [List.length_take, flL_len]; omega
  rw [flK, flK, drop_cons (show k < L.length by omega), mid_set _ _ _ _ hl, take_snoc _ (show k < (flL L N).length by rw [flL_len]; exact hk), flL_at L N hk, pnl_some hN, List.append_assoc]
  rfl
theorem flK_same {L : List (List UInt8)} {N : List (List UInt8)} (h : L.length = 6) {k : Nat} (hk : k < 6) (hN : N[k]! = []) : flK L N k = flK L N (k + 1) := by
  rw [flK, flK, drop_cons (show k < L.length by omega), take_snoc _ (show k < (flL L N).length by rw [flL_len]; exact hk), flL_at L N hk, pnl_none hN, List.append_assoc]
  rfl
theorem noK_set {N : List (List UInt8)} (h : N.length = 6) {k : Nat} (hk : k < 6) : (noK N k).set k [] = noK N (k + 1) := by
  rw [noK, noK, drop_cons (show k < N.length by omega), mid_set _ _ _ _ (by simp), List.replicate_succ', List.append_assoc]
  rfl
/-- the first pages of noughts -/
def zrK (z : List UInt8) (k : Nat) : List (List UInt8) := List.replicate k z ++ List.replicate (6 - k) []
theorem zrK_zero (z : List UInt8) : zrK z 0 = List.replicate 6 [] := by simp [zrK]
theorem zrK_six (z : List UInt8) : zrK z 6 = List.replicate 6 z := by simp [zrK]
theorem zrK_len (z : List UInt8) {k : Nat} (hk : k ≤ 6) : (zrK z k).length = 6 := by simp [zrK]; omega
theorem zrK_set (z : List UInt8) {k : Nat} (hk : k < 6) : (zrK z k).set k z = zrK z (k + 1) := by
  rw [zrK, zrK, show 6 - k = (6 - (k + 1)) + 1 by omega, List.replicate_succ, mid_set _ _ _ _ (by simp), List.replicate_succ', List.append_assoc]
  rfl
/-- the number of what is pending ahead of a page -/
def rk (N : List (List UInt8)) (n : Nat) : Nat := (pks n (pnl N)).length
theorem rk_zero (N : List (List UInt8)) : rk N 0 = 0 := by simp [rk, pks]
theorem rk_some {N : List (List UInt8)} {n : Nat} (h : N[n]! ≠ []) : rk N (n + 1) = rk N n + 1 := by
  rw [rk, pks_succ, if_pos (by rw [pnl_some h]; rfl), List.length_append]; rfl
theorem rk_none {N : List (List UInt8)} {n : Nat} (h : N[n]! = []) : rk N (n + 1) = rk N n := by
  rw [rk, pks_succ, if_neg (by rw [pnl_none h]; decide), List.append_nil]; rfl
theorem rk_le (N : List (List UInt8)) (n : Nat) : rk N n ≤ n := pks_len _ _
theorem rk_six (N : List (List UInt8)) : (pls 6 (pnl N)).length = rk N 6 := pls_len _ _
theorem rk_lt {N : List (List UInt8)} {n : Nat} (hn : n < 6) (h : N[n]! ≠ []) : rk N n < rk N 6 := by
  have hr := pks_rank (p := pnl N) (i := n) (by rw [pnl_some h]; rfl) 6 hn
  exact (List.getElem?_eq_some_iff.1 hr).1
theorem pls_rk {N : List (List UInt8)} {n : Nat} (hn : n < 6) (h : N[n]! ≠ []) : (pls 6 (pnl N))[rk N n]? = some (n, N[n]!) := by
  have hr := pks_rank (p := pnl N) (i := n) (by rw [pnl_some h]; rfl) 6 hn
  rw [pls, List.getElem?_map, rk, hr, Option.map_some, pnl_some h]; rfl
/-- how many bytes of the i-th one stay -/
def bfn (bs : List Int) (i : Nat) : Nat := (pk bs[i]! 257).toNat
theorem bfn_le (bs : List Int) (i : Nat) : bfn bs i ≤ 256 := by
  have h0 := pk_nonneg bs[i]! 257 (by omega)
  have h1 := pk_lt bs[i]! 257 (by omega)
  rw [bfn]; omega
theorem bfn_pk (bs : List Int) (i : Nat) : pk bs[i]! 257 = (bfn bs i : Int) := by
  have h0 := pk_nonneg bs[i]! 257 (by omega)
  rw [bfn]; omega
/-- what each page is behind the crash -/
def wn1 (L N : List (List UInt8)) (bs : List Int) (i : Nat) : List UInt8 := if N[i]! = [] then L[i]! else if rk N i < bs.length then torn N[i]! L[i]! (bfn bs (rk N i)) else L[i]!
def wnL (L N : List (List UInt8)) (bs : List Int) : List (List UInt8) := (List.range 6).map (wn1 L N bs)
theorem wnL_len (L N : List (List UInt8)) (bs : List Int) : (wnL L N bs).length = 6 := by simp [wnL]
theorem wnL_at (L N : List (List UInt8)) (bs : List Int) {i : Nat} (hi : i < 6) : (wnL L N bs)[i]'(by rw [wnL_len]; exact hi) = wn1 L N bs i := by simp [wnL]
def wnK (L N : List (List UInt8)) (bs : List Int) (k : Nat) : List (List UInt8) := (wnL L N bs).take k ++ L.drop k
theorem wnK_zero (L N : List (List UInt8)) (bs : List Int) : wnK L N bs 0 = L := by simp [wnK]
theorem wnK_six {L : List (List UInt8)} (N : List (List UInt8)) (bs : List Int) (h : L.length = 6) : wnK L N bs 6 = wnL L N bs := by
  rw [wnK, List.take_of_length_le (by rw [wnL_len]; omega), List.drop_eq_nil_of_le (by omega), List.append_nil]
theorem wnK_len {L : List (List UInt8)} (N : List (List UInt8)) (bs : List Int) (h : L.length = 6) {k : Nat} (hk : k ≤ 6) : (wnK L N bs k).length = 6 := by
  rw [wnK, List.length_append, List.length_take, wnL_len, List.length_drop, h]; omega
theorem wnK_set {L : List (List UInt8)} {N : List (List UInt8)} {bs : List Int} (h : L.length = 6) {k : Nat} (hk : k < 6) (hN : N[k]! ≠ []) (hb : rk N k < bs.length) : (wnK L N bs k).set k (torn N[k]! L[k]! (bfn bs (rk N k))) = wnK L N bs (k + 1) := by
  have hl : ((wnL L N bs).take k).length = k := by rw [List.length_take, wnL_len]; omega
  rw [wnK, wnK, drop_cons (show k < L.length by omega), mid_set _ _ _ _ hl, take_snoc _ (show k < (wnL L N bs).length by rw [wnL_len]; exact hk), wnL_at L N bs hk, wn1, if_neg hN, if_pos hb, List.append_assoc]
  rfl
theorem wnK_same {L : List (List UInt8)} {N : List (List UInt8)} {bs : List Int} (h : L.length = 6) {k : Nat} (hk : k < 6) (hN : N[k]! = [] ∨ ¬ rk N k < bs.length) : wnK L N bs k = wnK L N bs (k + 1) := by
  have e : wn1 L N bs k = L[k]! := by
    unfold wn1
    split
    · rfl
    · next h1 => rw [if_neg (hN.resolve_left h1)]
  rw [wnK, wnK, drop_cons (show k < L.length by omega), take_snoc _ (show k < (wnL L N bs).length by rw [wnL_len]; exact hk), wnL_at L N bs hk, e, List.append_assoc]
  rfl
/-- the keeps ahead of a page -/
def kpK (N : List (List UInt8)) (bs : List Int) (n : Nat) : List (Int × Int) := kls (bfn bs) (min (rk N n) bs.length)
theorem kpK_zero (N : List (List UInt8)) (bs : List Int) : kpK N bs 0 = [] := by simp [kpK, rk_zero, kls]
theorem kpK_more {N : List (List UInt8)} {bs : List Int} {n : Nat} (h : N[n]! ≠ []) (hb : rk N n < bs.length) : kpK N bs (n + 1) = kpK N bs n ++ [((rk N n : Int), (bfn bs (rk N n) : Int))] := by
  rw [kpK, kpK, rk_some h, Nat.min_eq_left (by omega), Nat.min_eq_left (by omega), kls, List.range_succ, List.map_append]; rfl
theorem kpK_none {N : List (List UInt8)} {bs : List Int} {n : Nat} (h : N[n]! = []) : kpK N bs (n + 1) = kpK N bs n := by rw [kpK, kpK, rk_none h]
theorem kpK_past {N : List (List UInt8)} {bs : List Int} {n : Nat} (h : N[n]! ≠ []) (hb : ¬ rk N n < bs.length) : kpK N bs (n + 1) = kpK N bs n := by
  rw [kpK, kpK, rk_some h, Nat.min_eq_right (by omega), Nat.min_eq_right (by omega)]
theorem kpK_len (N : List (List UInt8)) (bs : List Int) (n : Nat) : (kpK N bs n).length ≤ n := by
  rw [kpK, kls_len]; have := rk_le N n; omega
/-- what the crash keeps -/
def nsC (N : List (List UInt8)) (bs : List Int) : List Nat := (List.range (min (rk N 6) bs.length)).map (bfn bs) ++ List.replicate (rk N 6 - min (rk N 6) bs.length) 0
theorem kpK_six (N : List (List UInt8)) (bs : List Int) : kpB (pls 6 (pnl N)).length (kpK N bs 6) = some (nsC N bs) := by
  rw [rk_six, kpK, kpB_kls _ _ (bfn_le bs) _ (Nat.min_le_left _ _)]; rfl
theorem crash_l {L N : List (List UInt8)} (bs : List Int) (h6 : L.length = 6) : stL L (tks L.length (pnl N) (nsF (nsC N bs))) = wnL L N bs := by
  apply List.ext_getElem
  · rw [stL_len, h6, wnL_len]
  · intro i h1 h2
    rw [wnL_len] at h2
    rw [wnL_at L N bs h2, ← at_get h1, stL_at (by omega)]
    unfold wn1
    by_cases hN : N[i]! = []
    · rw [pnl_none hN, if_pos hN]
    · rw [pnl_some hN, if_neg hN]
      show torn N[i]! L[i]! (nsF (nsC N bs) (rk N i)) = _
      have hr := rk_lt h2 hN
      by_cases hb : rk N i < bs.length
      · rw [if_pos hb]
        have : nsF (nsC N bs) (rk N i) = bfn bs (rk N i) := by
          rw [nsF, nsC, List.getElem!_eq_getElem?_getD, List.getElem?_append_left (by simp; omega)]
          rw [List.getElem?_map, List.getElem?_range (by omega)]; rfl
        rw [this]
      · rw [if_neg hb]
        have : nsF (nsC N bs) (rk N i) = 0 := by
          rw [nsF, nsC, List.getElem!_eq_getElem?_getD, List.getElem?_append_right (by simp; omega), List.getElem?_replicate]
          split <;> rfl
        rw [this, torn_none]
end Go.Proofs.Ytkpfpfjjkcefkaa
