import Derived.Test.YtappjeepajjioaaGreatDoorPkEX3
import Derived.Test.YtappjeepajjioaaGreatDoorPkW3
import Derived.Deep.WholeRow
namespace Go.Proofs.YtappjeepajjioaaGreatDoor
namespace Chn
/-- a span is told, if it can't be folded of those that were -/
def tell (K : List (Nat × Nat)) (s : Nat × Nat) : List (Nat × Nat) := if can K s = true then K else K ++ [s]
def tells (K : List (Nat × Nat)) (L : List (Nat × Nat)) : List (Nat × Nat) := L.foldl tell K
/-- the spans of a pair's proof -/
def prf (a b : Nat) : List (Nat × Nat) := Tree.prfF b 0 b a
/-- what is told of the first i pairs -/
def tol (hs : List Nat) : Nat → List (Nat × Nat)
  | 0 => []
  | i + 1 => tells (tol hs i) (prf (hs.getD i 0) (hs.getD (i + 1) 0))
/-- all spans of the first i pairs -/
def allP (hs : List Nat) : Nat → List (Nat × Nat)
  | 0 => []
  | i + 1 => allP hs i ++ prf (hs.getD i 0) (hs.getD (i + 1) 0)
/-- each could not be folded of those ahead of it -/
def Tld (K : List (Nat × Nat)) : Prop := ∀ (j : Nat) (s : Nat × Nat), K[j]? = some s → can (K.take j) s = false
theorem tells_snoc (K L : List (Nat × Nat)) (s : Nat × Nat) : tells K (L ++ [s]) = tell (tells K L) s := by unfold tells; rw [List.foldl_append]; rfl
theorem tells_next {K L : List (Nat × Nat)} {k : Nat} {s : Nat × Nat} (h : L[k]? = some s) : tells K (L.take (k + 1)) = tell (tells K (L.take k)) s := by
  rw [List.take_add_one, h]
  exact tells_snoc K _ s
theorem Tld.snoc {K : List (Nat × Nat)} {s : Nat × Nat} (h : Tld K) (hs : can K s = false) : Tld (K ++ [s]) := fun j t ht => by
  by_cases hj : j < K.length
  · rw [List.getElem?_append_left hj] at ht
    rw [List.take_append_of_le_length (by omega)]
    exact h j t ht
  · obtain rfl : j = K.length := by
      have := (List.getElem?_eq_some_iff.1 ht).1
      simp at this
      omega
    rw [List.getElem?_append_right (Nat.le_refl _), Nat.sub_self] at ht
    obtain rfl : s = t := by simpa using ht
    rw [List.take_left]
    exact hs
theorem Tld.tell {K : List (Nat × Nat)} (h : Tld K) (s : Nat × Nat) : Tld (tell K s) := by
  unfold Chn.tell
  cases hc : can K s with
  | true => exact h
  | false => rw [if_neg (by simp)]; exact h.snoc hc
theorem tell_pre (K : List (Nat × Nat)) (s : Nat × Nat) : ∃ E, tell K s = K ++ E := by
  unfold tell
  split
  · exact ⟨[], by simp⟩
  · exact ⟨[s], rfl⟩
theorem tells_pre : ∀ (L K : List (Nat × Nat)), ∃ E, tells K L = K ++ E
  | [], K => ⟨[], by simp [tells]⟩
  | s :: L, K => by
    obtain ⟨E, hE⟩ := tell_pre K s
    obtain ⟨E', hE'⟩ := tells_pre L (tell K s)
    refine ⟨E ++ E', ?_⟩
    have : tells K (s :: L) = tells (tell K s) L := rfl
    rw [this, hE', hE, List.append_assoc]
theorem Tld.tells : ∀ (L : List (Nat × Nat)) {K : List (Nat × Nat)}, Tld K → Tld (tells K L)
  | [], _, h => h
  | s :: L, _, h => Tld.tells L (h.tell s)
theorem tol_tld (hs : List Nat) : ∀ i, Tld (tol hs i)
  | 0 => fun j s h => by cases h
  | i + 1 => (tol_tld hs i).tells _
theorem tol_pre (hs : List Nat) (i : Nat) : ∀ d, ∃ E, tol hs (i + d) = tol hs i ++ E
  | 0 => ⟨[], by simp⟩
  | d + 1 => by
    obtain ⟨E, hE⟩ := tol_pre hs i d
    obtain ⟨E', hE'⟩ := tells_pre (prf (hs.getD (i + d) 0) (hs.getD (i + d + 1) 0)) (tol hs (i + d))
    refine ⟨E ++ E', ?_⟩
    show tells (tol hs (i + d)) (prf (hs.getD (i + d) 0) (hs.getD (i + d + 1) 0)) = _
    rw [hE', hE, List.append_assoc]
theorem Tld.late {K E : List (Nat × Nat)} (h : Tld (K ++ E)) (hlo : ∀ s ∈ E, s.1 < s.2) : ∀ e ∈ E, can K e = false := fun e he => by
  obtain ⟨j, hj⟩ := List.getElem?_of_mem he
  have h1 := h (K.length + j) e (by rw [List.getElem?_append_right (by omega), Nat.add_sub_cancel_left]; exact hj)
  cases hc : can K e with
  | false => rfl
  | true =>
    have := can_mono (K := K) (K' := (K ++ E).take (K.length + j)) (fun s hs => by
      rw [List.take_append, List.take_of_length_le (by omega)]
      exact List.mem_append.2 (.inl hs)) (x := e.1) (y := e.2) (hlo e he) hc
    rw [this] at h1
    cases h1
theorem Tld.nodup {K : List (Nat × Nat)} (h : Tld K) (hlo : ∀ s ∈ K, s.1 < s.2) : K.Nodup := by
  rw [List.Nodup, List.pairwise_iff_getElem]
  intro i j hi hj hij e
  have h1 := h j _ (List.getElem?_eq_getElem hj)
  have := can_mem (K := K.take j) (x := K[j].1) (y := K[j].2) (hlo _ (List.getElem_mem hj)) (by
    show K[j] ∈ K.take j
    rw [← e]
    refine List.mem_of_getElem? (i := i) ?_
    rw [List.getElem?_take, if_pos hij, List.getElem?_eq_getElem hi])
  rw [show can (K.take j) K[j] = true from this] at h1
  cases h1
theorem tell_can {K : List (Nat × Nat)} {s : Nat × Nat} (h : s.1 < s.2) : can (tell K s) s = true := by
  unfold tell
  split
  · assumption
  · exact can_mem h (List.mem_append.2 (.inr List.mem_cons_self))
theorem tells_can : ∀ (L K : List (Nat × Nat)), (∀ s ∈ L, s.1 < s.2) → ∀ s ∈ L, can (tells K L) s = true
  | [], _, _, s, h => by cases h
  | t :: L, K, hl, s, hs => by
    show can (tells (tell K t) L) s = true
    rcases List.mem_cons.1 hs with rfl | hs
    · obtain ⟨E, hE⟩ := tells_pre L (tell K s)
      rw [hE]
      exact can_mono (fun s hs => List.mem_append.2 (.inl hs)) (hl s List.mem_cons_self) (tell_can (hl s List.mem_cons_self))
    · exact tells_can L _ (fun s hs => hl s (List.mem_cons_of_mem _ hs)) s hs
theorem tells_sub : ∀ (L K : List (Nat × Nat)), ∀ s ∈ tells K L, s ∈ K ∨ s ∈ L
  | [], K, s, h => .inl h
  | t :: L, K, s, h => by
    rcases tells_sub L (tell K t) s h with h | h
    · unfold tell at h
      split at h
      · exact .inl h
      · rcases List.mem_append.1 h with h | h
        · exact .inl h
        · rw [List.mem_singleton.1 h]; exact .inr List.mem_cons_self
    · exact .inr (List.mem_cons_of_mem _ h)
theorem tol_sub (hs : List Nat) : ∀ i, ∀ s ∈ tol hs i, s ∈ allP hs i
  | 0, s, h => by cases h
  | i + 1, s, h => by
    rcases tells_sub _ _ s h with h | h
    · exact List.mem_append.2 (.inl (tol_sub hs i s h))
    · exact List.mem_append.2 (.inr h)
theorem tells_len : ∀ (L K : List (Nat × Nat)), (tells K L).length ≤ K.length + L.length
  | [], K => by simp [tells]
  | t :: L, K => by
    have h1 := tells_len L (tell K t)
    have h2 : (tell K t).length ≤ K.length + 1 := by unfold tell; split <;> simp
    have : tells K (t :: L) = tells (tell K t) L := rfl
    rw [this, List.length_cons]
    omega
theorem tol_len (hs : List Nat) : ∀ i, (tol hs i).length ≤ (allP hs i).length
  | 0 => Nat.le_refl _
  | i + 1 => by
    have := tol_len hs i
    have := tells_len (prf (hs.getD i 0) (hs.getD (i + 1) 0)) (tol hs i)
    rw [tol, allP, List.length_append]
    omega
/-- heads that may be -/
structure Hds (hs : List Nat) : Prop where
  ne : 1 ≤ hs.length
  le : hs.length ≤ 64
  up : ∀ (i a b : Nat), hs[i]? = some a → hs[i + 1]? = some b → a < b
  lo : ∀ (i a : Nat), hs[i]? = some a → 1 ≤ a ∧ a ≤ 1099511627776
theorem getD_at {hs : List Nat} {i : Nat} (h : i < hs.length) : hs[i]? = some (hs.getD i 0) := by rw [List.getD_eq_getElem?_getD, List.getElem?_eq_getElem h]; rfl
theorem Hds.pair {hs : List Nat} (h : Hds hs) {i : Nat} (hi : i + 1 < hs.length) : 1 ≤ hs.getD i 0 ∧ hs.getD i 0 < hs.getD (i + 1) 0 ∧ hs.getD (i + 1) 0 ≤ 1099511627776 := by
  have e1 := getD_at (hs := hs) (i := i) (by omega)
  have e2 := getD_at hi
  exact ⟨(h.lo _ _ e1).1, h.up _ _ _ e1 e2, (h.lo _ _ e2).2⟩
theorem prf_ins : ∀ (f b n m : Nat), n ≤ f → 1 ≤ n → b < m → m ≤ b + n → ∀ s ∈ Tree.prfF f b n m, Tree.insF f b n s.1 s.2 = true
  | 0, b, n, m, h, h1, _, _, s, hs => by omega
  | f + 1, b, n, m, hf, h1, hm, hm2, s, h => by
    rw [Tree.prfF] at h
    by_cases h2 : b + n = m
    · rw [if_pos h2] at h
      by_cases hb : b = 0
      · rw [if_pos hb] at h; cases h
      · rw [if_neg hb] at h
        obtain rfl := List.mem_singleton.1 h
        exact Tree.insF_self
    · rw [if_neg h2] at h
      have s1 := Tree.sp_lt (n := n) (by omega)
      have s2 := Tree.sp_pos (n := n) (by omega)
      obtain ⟨f', rfl⟩ : ∃ f', f = f' + 1 := ⟨f - 1, by omega⟩
      by_cases hi : m ≤ b + Tree.sp n
      · rw [if_pos hi] at h
        rcases List.mem_append.1 h with h | h
        · have e := prf_ins (f' + 1) b (Tree.sp n) m (by omega) (by omega) hm hi s h
          have := Tree.insF_in _ _ _ _ _ e (by omega)
          rw [Tree.insF, if_neg (by omega), if_neg (by omega), if_pos (by omega)]
          exact e
        · obtain rfl := List.mem_singleton.1 h
          show Tree.insF (f' + 1 + 1) b n (b + Tree.sp n) (b + n) = true
          rw [Tree.insF, if_neg (by omega), if_neg (by omega), if_neg (by omega), if_pos (by omega), show b + n = b + Tree.sp n + (n - Tree.sp n) by omega]
          exact Tree.insF_self
      · rw [if_neg hi] at h
        rcases List.mem_append.1 h with h | h
        · have e := prf_ins (f' + 1) (b + Tree.sp n) (n - Tree.sp n) m (by omega) (by omega) (by omega) (by omega) s h
          have := Tree.insF_in _ _ _ _ _ e (by omega)
          rw [Tree.insF, if_neg (by omega), if_neg (by omega), if_neg (by omega), if_pos (by omega)]
          exact e
        · obtain rfl := List.mem_singleton.1 h
          show Tree.insF (f' + 1 + 1) b n b (b + Tree.sp n) = true
          rw [Tree.insF, if_neg (by omega), if_neg (by omega), if_pos (by omega)]
          exact Tree.insF_self
theorem prf_short : ∀ (k f b n m : Nat), n ≤ 2 ^ k → 1 ≤ n → b < m → m ≤ b + n → (Tree.prfF f b n m).length ≤ k + 1
  | k, 0, b, n, m, _, _, _, _ => by simp [Tree.prfF]
  | 0, f + 1, b, n, m, h, h1, hm, hm2 => by
    rw [Tree.prfF, if_pos (by omega)]
    split <;> simp
  | k + 1, f + 1, b, n, m, h, h1, hm, hm2 => by
    rw [Tree.prfF]
    split
    · split <;> simp
    · have s1 := Tree.sp_lt (n := n) (by omega)
      have s2 := Tree.sp_pos (n := n) (by omega)
      have s3 := Tree.sp_ge (n := n) (by omega)
      have s4 : Tree.sp n ≤ 2 ^ k := by
        rw [Tree.sp_eq (by omega)]
        refine Nat.pow_le_pow_right (by omega) ?_
        have : (n - 1).log2 < k + 1 := (Nat.log2_lt (by omega)).2 (by omega)
        omega
      split
      · rw [List.length_append]
        have := prf_short k f b (Tree.sp n) m s4 (by omega) hm (by omega)
        simp
        omega
      · rw [List.length_append]
        have := prf_short k f (b + Tree.sp n) (n - Tree.sp n) m (by omega) (by omega) (by omega) (by omega)
        simp
        omega
theorem prf_lo {a b : Nat} (h1 : 1 ≤ a) (h2 : a ≤ b) : ∀ s ∈ prf a b, s.1 < s.2 ∧ s.2 ≤ b := fun s hs => by
  have := Tree.insF_in _ _ _ _ _ (prf_ins b 0 b a (Nat.le_refl _) (by omega) (by omega) (by omega) s hs) (by omega)
  omega
theorem prf_len {a b : Nat} (h1 : 1 ≤ a) (h2 : a ≤ b) (h3 : b ≤ 1099511627776) : (prf a b).length ≤ 41 := prf_short 40 b 0 b a (by omega) (by omega) (by omega) (by omega)
theorem allP_lo {hs : List Nat} (h : Hds hs) : ∀ i, i < hs.length → ∀ s ∈ allP hs i, s.1 < s.2 ∧ s.2 ≤ 1099511627776
  | 0, _, s, hs => by cases hs
  | i + 1, hi, s, hs' => by
    rcases List.mem_append.1 hs' with e | e
    · exact allP_lo h i (by omega) s e
    · have hp := h.pair hi
      have := prf_lo hp.1 (by omega) s e
      omega
theorem allP_len {hs : List Nat} (h : Hds hs) : ∀ i, i < hs.length → (allP hs i).length ≤ 41 * i
  | 0, _ => Nat.le_refl _
  | i + 1, hi => by
    have hp := h.pair hi
    have := prf_len hp.1 (by omega) hp.2.2
    have := allP_len h i (by omega)
    rw [allP, List.length_append]
    omega
theorem tol_lo {hs : List Nat} (h : Hds hs) {i : Nat} (hi : i < hs.length) : ∀ s ∈ tol hs i, s.1 < s.2 ∧ s.2 ≤ 1099511627776 := fun s e => allP_lo h i hi s (tol_sub hs i s e)
theorem tol_few {hs : List Nat} (h : Hds hs) {i : Nat} (hi : i < hs.length) : (tol hs i).length ≤ 2583 := by
  have h1 := tol_len hs i
  have h2 := allP_len h i hi
  have := h.le
  omega
/-- each span of a pair can be folded of what is told up to it -/
theorem tol_can {hs : List Nat} (h : Hds hs) {j : Nat} : ∀ (d : Nat), j + 1 + d < hs.length → ∀ s ∈ prf (hs.getD j 0) (hs.getD (j + 1) 0), can (tol hs (j + 1 + d)) s = true := fun d hd s hs' => by
  have hp := h.pair (i := j) (by omega)
  have h1 : can (tol hs (j + 1)) s = true := tells_can _ _ (fun t ht => (prf_lo hp.1 (by omega) t ht).1) s hs'
  obtain ⟨E, hE⟩ := tol_pre hs (j + 1) d
  rw [hE]
  exact can_mono (fun s hs => List.mem_append.2 (.inl hs)) (prf_lo hp.1 (by omega) s hs').1 h1
/-- all that a chain tells -/
def told (hs : List Nat) : List (Nat × Nat) := tol hs (hs.length - 1)
/-- a list without one twice, out of another one, is no longer -/
theorem nodup_len : ∀ (l m : List (Nat × Nat)), l.Nodup → (∀ x ∈ l, x ∈ m) → l.length ≤ m.length
  | [], _, _, _ => Nat.zero_le _
  | a :: l, m, hn, hm => by
    have hn := List.nodup_cons.1 hn
    have := nodup_len l (m.erase a) hn.2 fun x hx => (List.mem_erase_of_ne (fun e => hn.1 (by rw [← e]; exact hx))).2 (hm x (List.mem_cons_of_mem _ hx))
    rw [List.length_erase_of_mem (hm a List.mem_cons_self)] at this
    have := List.length_pos_of_mem (hm a List.mem_cons_self)
    rw [List.length_cons]
    omega
/-- what is known while a chain is expanded: what it tells, and what was folded of that -/
structure Kw (A K0 : List (Nat × Nat)) (H0 : List (List UInt8)) (K : List (Nat × Nat)) (H : List (List UInt8)) : Prop where
  len : K.length = H.length
  nd : K.Nodup
  can : ∀ x y, x < y → can K (x, y) = can K0 (x, y)
  fld : ∀ x y, x < y → Chn.can K0 (x, y) = true → fld K H (x, y) = fld K0 H0 (x, y)
  sub : ∀ s ∈ K, s ∈ A
  h32 : ∀ x ∈ H, x.length = 32
theorem Kw.first {A K0 : List (Nat × Nat)} {H0 : List (List UInt8)} (hl : K0.length = H0.length) (ht : Tld K0) (hlo : ∀ s ∈ K0, s.1 < s.2) (hs : ∀ s ∈ K0, s ∈ A) (h32 : ∀ x ∈ H0, x.length = 32) : Kw A K0 H0 K0 H0 :=
  ⟨hl, ht.nodup hlo, fun _ _ _ => rfl, fun _ _ _ _ => rfl, hs, h32⟩
theorem Kw.next {A K0 K : List (Nat × Nat)} {H0 H : List (List UInt8)} (h : Kw A K0 H0 K H) {s : Nat × Nat} (hlt : s.1 < s.2) (hA : s ∈ A) (hn : ¬ s ∈ K) (hc : Chn.can K0 s = true) : Kw A K0 H0 (K ++ [s]) (H ++ [Chn.fld K0 H0 s]) := by
  have hcK : Chn.can K s = true := (h.can s.1 s.2 hlt).trans hc
  have hf := h.fld s.1 s.2 hlt hc
  refine ⟨by simp [h.len], ?_, fun x y hxy => (can_grow hcK hxy).trans (h.can x y hxy), fun x y hxy hxc => ?_, fun t ht => ?_, fun x hx => ?_⟩
  · refine List.nodup_append.2 ⟨h.nd, by simp, fun a ha b hb e => ?_⟩
    rw [List.mem_singleton] at hb
    subst hb
    exact hn (e ▸ ha)
  · rw [← h.fld x y hxy hxc, ← hf]
    exact fld_new h.len hn hcK hxy ((h.can x y hxy).trans hxc)
  · rcases List.mem_append.1 ht with ht | ht
    · exact h.sub t ht
    · rw [List.mem_singleton.1 ht]; exact hA
  · rcases List.mem_append.1 hx with hx | hx
    · exact h.h32 x hx
    · rw [List.mem_singleton.1 hx, ← hf]
      exact fld_len h.len h.h32 hlt hcK
/-- the hash of a span that is known at a place -/
theorem Kw.at {A K0 K : List (Nat × Nat)} {H0 H : List (List UInt8)} (h : Kw A K0 H0 K H) {s : Nat × Nat} (hlt : s.1 < s.2) {j : Nat} {x : List UInt8} (hj : K[j]? = some s) (hx : H[j]? = some x) : x = Chn.fld K0 H0 s := by
  have hm := List.mem_of_getElem? hj
  have hc : Chn.can K0 s = true := (h.can s.1 s.2 hlt).symm.trans (can_mem hlt hm)
  have e1 := h.fld s.1 s.2 hlt hc
  have e2 : Chn.fld K H s = Tree.hashAt K H s := fld_mem hlt hm
  rw [hashAt_get h.nd hj hx] at e2
  rw [← e2]
  exact e1
/-- the document folds of what was told up to then: it is the same -/
theorem fld_then {K0 : List (Nat × Nat)} {H0 : List (List UInt8)} {K E : List (Nat × Nat)} (hl : K0.length = H0.length) (ht : Tld K0) (hlo : ∀ s ∈ K0, s.1 < s.2) (hE : K0 = K ++ E) {s : Nat × Nat} (hlt : s.1 < s.2) (hc : can K s = true) : fld K (H0.take K.length) s = fld K0 H0 s := by
  subst hE
  have e := fld_old (K := K) (E := E) (H := H0.take K.length) (G := H0.drop K.length) (by rw [List.length_take]; simp at hl; omega) (ht.late fun s hs => hlo s (List.mem_append.2 (.inr hs))) (x := s.1) (y := s.2) hlt hc
  rw [List.take_append_drop] at e
  exact e.symm
/-- the hashes of a pair's proof -/
def exP (hs : List Nat) (H0 : List (List UInt8)) (i : Nat) : List (List UInt8) := (prf (hs.getD i 0) (hs.getD (i + 1) 0)).map (fld (told hs) H0)
/-- C3 -/
def exL (hs : List Nat) (H0 : List (List UInt8)) : List (List (List UInt8)) := (List.range (hs.length - 1)).map (exP hs H0)
end Chn
end Go.Proofs.YtappjeepajjioaaGreatDoor

namespace Go.Proofs.YtappjeepajjioaaGreatDoor
open Go.RowKit

theorem lt_of_heap {w : World} {b : Nat} {o : Obj} (h : w.heap[b]? = some o) : b < w.heap.size := (Array.getElem?_eq_some_iff.1 h).1

theorem start_range {w : World} (T : Tabs w) : w.rangeAt 3 0 (wv Sha.iv.l) := fun j v hv => by
  have hj : j < (wv Sha.iv.l).length := (List.getElem?_eq_some_iff.1 hv).1
  have h8 : (wv Sha.iv.l).length = 8 := by simp [Sha.St.l]
  rw [Nat.zero_add, T.start j (by omega), ← hv]
  simp only [wv, List.getElem?_map, List.getD_eq_getElem?_getD]
  rw [List.getElem?_eq_getElem (by simpa [wv] using hj)]
  rfl
theorem size8 (s : Sha.St) : (Tryz.prog.info? 173).map (·.size) = some (wv s.l).length := by rw [info8w]; rfl
theorem size8' (s : Sha.St) : (Tryz.prog.info? 173).map (·.size) = some (wv s.l).toArray.size := by rw [info8w]; rfl

set_option maxHeartbeats 400000 in
theorem words_any (b n : Nat) (st : Sha.St) (rest : List UInt8) (hl : rest.length = 64) (w : World) (T : Tabs w)
    (hb : w.heap[b]? = some (.cells (hcells st rest n).toArray 176 (0, 0))) :
    Calls Tryz.prog 145 #[.pointer (some ⟨b, 0, none⟩)] w fun e w' => e = .returned (.agg (wv (if n < 64 then Sha.iv else st).l).toArray) ∧ Below w.heap.size w w' := by
  have hlt := lt_of_heap hb
  have c := hcells_taken hb hl
  have R : Hid (w.rangeAt b 0 (wv st.l)) := hcells_state hb
  have R2 : Hid (w.rangeAt 3 0 (wv Sha.iv.l)) := start_range T
  clear hb
  by_cases h : n < 64
  · have h' : (n : Int) < 64 := by omega
    rw [if_pos h]
    go_enter Tryz.func145, Tryz.ntmps145
    go_wp2_with (first
      | (with_reducible show wpList _ _ _ (Oper.mk _ (Op.load 173 _) _ _ _ _ :: _) _ _; go_must (refine wpList_load_mid rfl 173 _ rfl 3 0 rfl _ _ (World.rangeAt_alloc R2.out _) Tryz.underlying173 rfl (size8 _) ?_))
      | (with_reducible show wpList _ _ _ (Oper.mk _ (Op.store 173 _ _) _ _ _ _ :: _) _ _; go_must (refine wpList_store_row rfl 173 _ _ rfl w.heap.size _ rfl rfl 173 _ (heap_alloc_new w _) (size8' _) rfl (wv_one _) ?_)))
    refine bodyPost_ret (v := .agg (wv Sha.iv.l).toArray) (results_cell_row rfl _ _ w.heap.size 173 _ (0, 0) _ rfl (setRow_heap _ _ _ _ _ _ (heap_alloc_new w _)) Tryz.underlying173 rfl (size8' _)) rfl ⟨rfl, ?_⟩
    exact Below.setRow ((Below.refl _ _).alloc (Nat.le_refl _) _) (Nat.le_refl _) _
  · have h' : ¬ (n : Int) < 64 := by omega
    rw [if_neg h]
    go_enter Tryz.func145, Tryz.ntmps145
    go_wp2_with (first
      | (with_reducible show wpList _ _ _ (Oper.mk _ (Op.load 173 _) _ _ _ _ :: _) _ _; go_must (refine wpList_load_mid rfl 173 _ rfl b 0 rfl _ _ (World.rangeAt_alloc R.out _) Tryz.underlying173 rfl (size8 _) ?_))
      | (with_reducible show wpList _ _ _ (Oper.mk _ (Op.store 173 _ _) _ _ _ _ :: _) _ _; go_must (refine wpList_store_row rfl 173 _ _ rfl w.heap.size _ rfl rfl 173 _ (heap_alloc_new w _) (size8' _) rfl (wv_one _) ?_)))
    refine bodyPost_ret (v := .agg (wv st.l).toArray) (results_cell_row rfl _ _ w.heap.size 173 _ (0, 0) _ rfl (setRow_heap _ _ _ _ _ _ (heap_alloc_new w _)) Tryz.underlying173 rfl (size8' _)) rfl ⟨rfl, ?_⟩
    exact Below.setRow ((Below.refl _ _).alloc (Nat.le_refl _) _) (Nat.le_refl _) _

theorem info60 : (Tryz.prog.info? 176).map (·.size) = some 73 := by kernel_rfl
theorem size73 {st : Sha.St} {rest : List UInt8} {n : Nat} (hl : rest.length = 64) : (Tryz.prog.info? 176).map (·.size) = some (hcells st rest n).toArray.size := by
  rw [info60, List.size_toArray, hcells_length hl]
def z0 : Sha.St := ⟨0, 0, 0, 0, 0, 0, 0, 0⟩
def r0 : List UInt8 := List.replicate 64 0
theorem zero60 : ∀ w, (zeroValue 176).run Tryz.prog w = .ok (.agg (hcells z0 r0 0).toArray) w :=
  (zero_of_info (P := Tryz.prog) (t := 176) (v := .agg (hcells z0 r0 0).toArray) (n := 73) (by kernel_rfl)).1
theorem hcells_one (st : Sha.St) (rest : List UInt8) (n : Nat) : (hcells st rest n).toArray.all (·.oneCell') = true :=
  oneCell_of fun v hv => by
    simp only [hcells, List.mem_append, List.mem_singleton] at hv
    rcases hv with hv | hv | rfl
    · exact wv_mem hv
    · exact bv_mem hv
    · rfl

set_option maxRecDepth 100000 in
set_option maxHeartbeats 400000 in
theorem copied_any (b n : Nat) (st : Sha.St) (rest : List UInt8) (hl : rest.length = 64) (w : World)
    (hb : w.heap[b]? = some (.cells (hcells st rest n).toArray 176 (0, 0))) :
    Calls Tryz.prog 146 #[.pointer (some ⟨b, 0, none⟩)] w fun e w' => e = .returned (.agg (hcells st rest n).toArray) ∧ Below w.heap.size w w' := by
  have hlt := lt_of_heap hb
  have Hb : Hid _ := hb
  clear hb
  have hz := zero60
  go_enter Tryz.func146, Tryz.ntmps146
  go_wp2_with (first
    | (with_reducible show wpList _ _ _ (Oper.mk _ (Op.load 176 _) _ _ _ _ :: _) _ _; go_must (refine wpList_load_row rfl 176 _ rfl b rfl 176 _ (0, 0) _ ((Below.heap_alloc _ _ _ hlt).trans Hb.out) Tryz.underlying176 rfl (size73 hl) ?_))
    | (with_reducible show wpList _ _ _ (Oper.mk _ (Op.store 176 _ _) _ _ _ _ :: _) _ _; go_must (refine wpList_store_row rfl 176 _ _ rfl w.heap.size _ rfl rfl 176 _ (heap_alloc_new w _) (size73 hl) (by rw [List.size_toArray, List.size_toArray, hcells_length hl, hcells_length (by simp [r0])]) (hcells_one _ _ _) ?_)))
  refine bodyPost_ret (v := .agg (hcells st rest n).toArray) (results_cell_row rfl _ _ w.heap.size 176 _ (0, 0) _ rfl (setRow_heap _ _ _ _ _ _ (heap_alloc_new w _)) Tryz.underlying176 rfl (size73 hl)) rfl ⟨rfl, ?_⟩
  exact Below.setRow ((Below.refl _ _).alloc (Nat.le_refl _) _) (Nat.le_refl _) _

/-- the blocks of 'wordBytes' behind k bytes -/
structure WbInv (s : Sha.St) (w : World) (k : Nat) (w' : World) : Prop where
  b0 : w'.heap[w.heap.size]? = some (.cells (wv s.l).toArray 173 (0, 0))
  b1 : w'.heap[w.heap.size + 1]? = some (.cells (bv (s.bytes.take k ++ List.replicate (32 - k) 0)).toArray 181 (0, 0))
  size : w'.heap.size = w.heap.size + 2
  below : Below w.heap.size w w'
theorem wbInv_start (s : Sha.St) (w : World) : WbInv s w 0 ((w.alloc (.cells (wv s.l).toArray 173)).alloc (.cells (bv (List.replicate 32 0)).toArray 181)) := by
  have s1 := size_alloc w (.cells (wv s.l).toArray 173)
  refine ⟨?_, heap_alloc_at _ _ _ s1, by rw [size_alloc]; omega, ((Below.refl _ _).alloc (Nat.le_refl _) _).alloc (by omega) _⟩
  rw [Below.heap_alloc _ _ _ (by omega)]; exact heap_alloc_new w _
theorem bv_set (l : List UInt8) (m : Nat) (v : UInt8) (h : 0 < m) : (bv (l ++ List.replicate m 0)).toArray.setIfInBounds l.length (.int .u8 (v.toNat : Int)) = (bv ((l ++ [v]) ++ List.replicate (m - 1) 0)).toArray := by
  obtain ⟨m, rfl⟩ : ∃ n, m = n + 1 := ⟨m - 1, by omega⟩
  simp [bv, List.replicate_succ]
theorem WbInv.set {s : Sha.St} {w : World} {k : Nat} {w' : World} (inv : WbInv s w k w') (hk : k < 32) :
    WbInv s w (k + 1) (w'.setCell ⟨w.heap.size + 1, k, none⟩ (.int .u8 ((s.bytes.getD k 0).toNat : Int))) := by
  have hl := Sha.bytes_length s
  refine ⟨?_, ?_, ?_, ?_⟩
  · rw [heap_setCell_other _ _ _ _ (by show w.heap.size ≠ w.heap.size + 1; omega)]; exact inv.b0
  · rw [heap_setCell_same _ _ _ _ _ _ inv.b1]
    have := bv_set (s.bytes.take k) (32 - k) (s.bytes.getD k 0) (by omega)
    rw [List.length_take, hl, Nat.min_eq_left (by omega)] at this
    rw [this, show 32 - k - 1 = 32 - (k + 1) from by omega, List.getD_eq_getElem?_getD, List.getElem?_eq_getElem (by omega), Option.getD_some, List.take_append_getElem]
  · simpa using inv.size
  · exact inv.below.setCell (by simp) _

set_option maxRecDepth 100000 in
set_option maxHeartbeats 400000 in
theorem wordBytes_any (s : Sha.St) (hs : s.ok) (w : World) :
    Calls Tryz.prog 148 #[.agg (wv s.l).toArray] w fun e w' => e = .returned (sv s.bytes) ∧ Below w.heap.size w w' := by
  go_enter Tryz.func148, Tryz.ntmps148
  go_wp2
  go_loopw [5] (fun i w' => ∃ k : Nat, k ≤ 32 ∧ i = .int .i64 k ∧ WbInv s w k w') (fun i _ => 32 - (intOf i).toNat)
  case atStart => exact ⟨0, by omega, rfl, wbInv_start s w⟩
  case round =>
    obtain ⟨k, hk, rfl, inv⟩ := hrel
    by_cases hlt : k < 32
    · have b1 : (k : Int) < 32 := by omega
      have b2 : (k : Int) / 4 < 8 := by omega
      have b3 : (0 : Int) ≤ (k : Int) / 4 := by omega
      have t1 : ((k : Int) / 4).toNat = k / 4 := by omega
      obtain ⟨x, ex, lx, cx⟩ : ∃ y : Nat, Hid (y = s.l.getD (k / 4) 0) ∧ y < 4294967296 ∧ wr.cell? ⟨w.heap.size, k / 4, none⟩ = some (.int .u32 (y : Int)) := ⟨_, rfl, Sha.l_lt hs _, wv_cell inv.b0 (k / 4) (by simp [Sha.St.l]; omega)⟩
      have c4 := bv_cell inv.b1 k (by simp [Sha.bytes_length]; omega)
      obtain ⟨y, _, _, c4⟩ := c4
      have f4 : wr.frozen? ⟨w.heap.size + 1, k, none⟩ = false := frozen_of_row _ _ _ _ _ inv.b1
      go_wp2
      refine ⟨⟨k + 1, by omega, by go_num, ?_⟩, by simp [intOf]; omega⟩
      have g := WbInv.set inv hlt
      rw [Sha.bytes_at s k hlt, ← Sha.byte_walk, ← ex.out, IntKind.wrap_u8'] at g
      exact g
    · obtain rfl : k = 32 := by omega
      have b1 : wr.heap[w.heap.size + 1]? = some (.cells (bv s.bytes).toArray 181 (0, 0)) := by
        have := inv.b1
        rwa [List.take_of_length_le (by rw [Sha.bytes_length]; omega), Nat.sub_self, List.replicate_zero, List.append_nil] at this
      have hcv := run_conv_bytes (P := Tryz.prog) wr 64 9 5 (w.heap.size + 1) 0 32 32 s.bytes (Sha.bytes_length s) Tryz.underlying64 Tryz.underlying5 Tryz.underlying9 (rangeAt_of_list b1 (fun j v hv => by rw [Nat.zero_add]; exact hv))
      go_wp2
      go_ret
      exact ⟨rfl, inv.below⟩
end Go.Proofs.YtappjeepajjioaaGreatDoor

namespace Go.Proofs.YtappjeepajjioaaGreatDoor
open Go.RowKit

theorem zero72 : ∀ w, (zeroValue 191).run Tryz.prog w = .ok (.agg (bv (List.replicate 72 0)).toArray) w :=
  (zero_of_info (P := Tryz.prog) (t := 191) (v := .agg (bv (List.replicate 72 0)).toArray) (n := 72) (by kernel_rfl)).1
theorem bv_setAt (a : List UInt8) (x v : UInt8) (b : List UInt8) : (bv (a ++ x :: b)).toArray.setIfInBounds a.length (.int .u8 (v.toNat : Int)) = (bv (a ++ v :: b)).toArray := by
  simp [bv]
theorem fillTo_set (n z k : Nat) (hk : k < 8) : (bv (Sha.fillTo n z k)).toArray.setIfInBounds (z + 8 - k) (.int .u8 ((UInt8.ofNat (8 * n / 256 ^ k)).toNat : Int)) = (bv (Sha.fillTo n z (k + 1))).toArray := by
  have e : Sha.fillTo n z k = (128 :: List.replicate (z + 8 - (k + 1)) 0) ++ 0 :: (Sha.be (8 * n) k ++ List.replicate (63 - z) 0) := by
    have : List.replicate (z + 8 - k) (0 : UInt8) = List.replicate (z + 8 - (k + 1)) 0 ++ [0] := by
      rw [show z + 8 - k = z + 8 - (k + 1) + 1 from by omega, List.replicate_succ']
    rw [Sha.fillTo, this]; simp
  have hl : ((128 : UInt8) :: List.replicate (z + 8 - (k + 1)) 0).length = z + 8 - k := by simp; omega
  have g := bv_setAt (128 :: List.replicate (z + 8 - (k + 1)) 0) 0 (UInt8.ofNat (8 * n / 256 ^ k)) (Sha.be (8 * n) k ++ List.replicate (63 - z) 0)
  rw [hl] at g
  rw [e, g]
  rfl

structure FillInv (n z : Nat) (w : World) (k : Nat) (w' : World) : Prop where
  b0 : w'.heap[w.heap.size]? = some (.cells (bv (Sha.fillTo n z k)).toArray 191 (0, 0))
  below : Below w.heap.size w w'

set_option maxRecDepth 100000 in
set_option maxHeartbeats 400000 in
theorem filling_any (n : Nat) (hn : n < 2305843009213693952) (w : World) :
    Calls Tryz.prog 147 #[.int .i64 (n : Int)] w fun e w' => e = .returned (sv (Sha.filling n)) ∧ Below w.heap.size w w' := by
  have hz := zero72
  obtain ⟨z, hzz⟩ : ∃ z, z = (119 - n % 64) % 64 := ⟨_, rfl⟩
  have z64 : z < 64 := by omega
  have zi : (119 - (n : Int) % 64) % 64 = (z : Int) := by omega
  have Hz : Hid _ := hzz
  clear hzz
  have hn' : (n : Int) ≤ 2305843009213693951 := by omega
  go_enter Tryz.func147, Tryz.ntmps147
  go_wp2
  go_loopw [16] (fun i w' => ∃ k : Nat, k ≤ 8 ∧ i = .int .i64 k ∧ FillInv n z w k w') (fun i _ => 8 - (intOf i).toNat)
  case atStart =>
    refine ⟨0, by omega, rfl, ?_, (Below.refl _ _).alloc (Nat.le_refl _) _⟩
    rw [Sha.fillTo_start n z z64]
    exact heap_alloc_new w _
  case round =>
    obtain ⟨k, hk, rfl, inv⟩ := hrel
    by_cases hlt : k < 8
    · have b1 : (k : Int) < 8 := by omega
      have b2 : (0 : Int) ≤ 9 + (z : Int) - 1 - (k : Int) := by omega
      have b3 : 9 + (z : Int) - 1 - (k : Int) < 72 := by omega
      have t1 : (9 + (z : Int) - 1 - (k : Int)).toNat = z + 8 - k := by omega
      obtain ⟨y, _, _, c4⟩ := bv_cell inv.b0 (z + 8 - k) (by rw [Sha.fillTo_length _ _ _ z64 (by omega)]; omega)
      have f4 : wr.frozen? ⟨w.heap.size, z + 8 - k, none⟩ = false := frozen_of_row _ _ _ _ _ inv.b0
      go_wp2
      refine ⟨⟨k + 1, by omega, by go_num, ?_, inv.below.setCell (Nat.le_refl _) _⟩, by simp [intOf]; omega⟩
      rw [Sha.fill_walk, heap_setCell_same _ _ _ _ _ _ inv.b0, fillTo_set n z k hlt]
    · obtain rfl : k = 8 := by omega
      have e8 := Sha.fillTo_end n
      rw [← Hz.out] at e8
      have hcv := run_conv_bytes (P := Tryz.prog) wr 64 9 5 w.heap.size 0 (9 + z) 72 (Sha.filling n) (by rw [Sha.filling_length, ← Hz.out]) Tryz.underlying64 Tryz.underlying5 Tryz.underlying9 (rangeAt_of_list inv.b0 (fun j v hv => by
        rw [← e8] at hv
        simp only [bv, List.map_take] at hv
        rw [Nat.zero_add]
        rw [List.getElem?_take] at hv
        split at hv
        · exact hv
        · cases hv))
      clear e8
      have b1 : (0 : Int) ≤ 9 + (z : Int) := by omega
      have b2 : 9 + (z : Int) ≤ 72 := by omega
      have t1 : (9 + (z : Int)).toNat = 9 + z := by omega
      go_wp2
      go_ret
      exact ⟨rfl, inv.below⟩
end Go.Proofs.YtappjeepajjioaaGreatDoor
