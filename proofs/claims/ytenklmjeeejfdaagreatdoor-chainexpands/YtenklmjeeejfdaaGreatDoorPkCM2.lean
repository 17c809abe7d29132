import Derived.Test.YtenklmjeeejfdaaGreatDoorPkTL1
import Derived.Maps.Keyed
import Derived.DeepKeys4
import Derived.WideKeyEntry
import Derived.Test.YtenklmjeeejfdaaGreatDoorPkSP4
import Derived.Test.YtenklmjeeejfdaaGreatDoorPkO2
import Derived.Test.YtenklmjeeejfdaaGreatDoorPkI1
import Derived.Deep.RegionHeld3
namespace Go.Proofs.YtenklmjeeejfdaaGreatDoor
namespace Chn
def tell (K : List (Nat × Nat)) (s : Nat × Nat) : List (Nat × Nat) := if can K s = true then K else K ++ [s]
def tells (K : List (Nat × Nat)) (L : List (Nat × Nat)) : List (Nat × Nat) := L.foldl tell K
def prf (a b : Nat) : List (Nat × Nat) := Tree.prfF b 0 b a
def tol (hs : List Nat) : Nat → List (Nat × Nat)
  | 0 => []
  | i + 1 => tells (tol hs i) (prf (hs.getD i 0) (hs.getD (i + 1) 0))
def allP (hs : List Nat) : Nat → List (Nat × Nat)
  | 0 => []
  | i + 1 => allP hs i ++ prf (hs.getD i 0) (hs.getD (i + 1) 0)
def Tld (K : List (Nat × Nat)) : Prop := ∀ (j : Nat) (s : Nat × Nat), K[j]? = some s → can (K.take j) s = false
theorem tells_snoc (K L : List (Nat × Nat)) (s : Nat × Nat) : tells K (L ++ [s]) = tell (tells K L) s := by unfold tells; rw [List.foldl_append]; rfl
theorem tells_next {K L : List (Nat × Nat)} {k : Nat} {s : Nat × Nat} (h : L[k]? = some s) : tells K (L.take (k + 1)) = tell (tells K (L.take k)) s := by
  rw [List.take_add_one, h]
  exact tells_snoc K _ s
theorem Tld.snoc {K : List (Nat × Nat)} {s : Nat × Nat} (h : Tld K) (hs : can K s = false) : Tld (K ++ [s]) := fun j t ht => by
  by_cases hj : j < K.length
  · rw [List.getElem?_append_left hj] at ht
    rw [List.take_append_of_le_length (by omega)]
    exact h j t ht
  · obtain rfl : j = K.length := by
      have := (List.getElem?_eq_some_iff.1 ht).1
      simp at this
      omega
    rw [List.getElem?_append_right (Nat.le_refl _), Nat.sub_self] at ht
    obtain rfl : s = t := by simpa using ht
    rw [List.take_left]
    exact hs
theorem Tld.tell {K : List (Nat × Nat)} (h : Tld K) (s : Nat × Nat) : Tld (tell K s) := by
  unfold Chn.tell
  cases hc : can K s with
  | true => exact h
  | false => rw [if_neg (by simp)]; exact h.snoc hc
theorem tell_pre (K : List (Nat × Nat)) (s : Nat × Nat) : ∃ E, tell K s = K ++ E := by
  unfold tell
  split
  · exact ⟨[], by simp⟩
  · exact ⟨[s], rfl⟩
theorem tells_pre : ∀ (L K : List (Nat × Nat)), ∃ E, tells K L = K ++ E
  | [], K => ⟨[], by simp [tells]⟩
  | s :: L, K => by
    obtain ⟨E, hE⟩ := tell_pre K s
    obtain ⟨E', hE'⟩ := tells_pre L (tell K s)
    refine ⟨E ++ E', ?_⟩
    have : tells K (s :: L) = tells (tell K s) L := rfl
    rw [this, hE', hE, List.append_assoc]
theorem Tld.tells : ∀ (L : List (Nat × Nat)) {K : List (Nat × Nat)}, Tld K → Tld (tells K L)
  | [], _, h => h
  | s :: L, _, h => Tld.tells L (h.tell s)
theorem tol_tld (hs : List Nat) : ∀ i, Tld (tol hs i)
  | 0 => fun j s h => by cases h
  | i + 1 => (tol_tld hs i).tells _
theorem tol_pre (hs : List Nat) (i : Nat) : ∀ d, ∃ E, tol hs (i + d) = tol hs i ++ E
  | 0 => ⟨[], by simp⟩
  | d + 1 => by
    obtain ⟨E, hE⟩ := tol_pre hs i d
    obtain ⟨E', hE'⟩ := tells_pre (prf (hs.getD (i + d) 0) (hs.getD (i + d + 1) 0)) (tol hs (i + d))
    refine ⟨E ++ E', ?_⟩
    show tells (tol hs (i + d)) (prf (hs.getD (i + d) 0) (hs.getD (i + d + 1) 0)) = _
    rw [hE', hE, List.append_assoc]
theorem Tld.late {K E : List (Nat × Nat)} (h : Tld (K ++ E)) (hlo : ∀ s ∈ E, s.1 < s.2) : ∀ e ∈ E, can K e = false := fun e he => by
  obtain ⟨j, hj⟩ := List.getElem?_of_mem he
  have h1 := h (K.length + j) e (by rw [List.getElem?_append_right (by omega), Nat.add_sub_cancel_left]; exact hj)
  cases hc : can K e with
  | false => rfl
  | true =>
    have := can_mono (K := K) (K' := (K ++ E).take (K.length + j)) (fun s hs => by
      rw [List.take_append, List.take_of_length_le (by omega)]
      exact List.mem_append.2 (.inl hs)) (x := e.1) (y := e.2) (hlo e he) hc
    rw [this] at h1
    cases h1
theorem Tld.nodup {K : List (Nat × Nat)} (h : Tld K) (hlo : ∀ s ∈ K, s.1 < s.2) : K.Nodup := by
  rw [List.Nodup, List.pairwise_iff_getElem]
  intro i j hi hj hij e
  have h1 := h j _ (List.getElem?_eq_getElem hj)
  have := can_mem (K := K.take j) (x := K[j].1) (y := K[j].2) (hlo _ (List.getElem_mem hj)) (by
    show K[j] ∈ K.take j
    rw [← e]
    refine List.mem_of_getElem? (i := i) ?_
    rw [List.getElem?_take, if_pos hij, List.getElem?_eq_getElem hi])
  rw [show can (K.take j) K[j] = true from this] at h1
  cases h1
theorem tell_can {K : List (Nat × Nat)} {s : Nat × Nat} (h : s.1 < s.2) : can (tell K s) s = true := by
  unfold tell
  split
  · assumption
  · exact can_mem h (List.mem_append.2 (.inr List.mem_cons_self))
theorem tells_can : ∀ (L K : List (Nat × Nat)), (∀ s ∈ L, s.1 < s.2) → ∀ s ∈ L, can (tells K L) s = true
  | [], _, _, s, h => by cases h
  | t :: L, K, hl, s, hs => by
    show can (tells (tell K t) L) s = true
    rcases List.mem_cons.1 hs with rfl | hs
    · obtain ⟨E, hE⟩ := tells_pre L (tell K s)
      rw [hE]
      exact can_mono (fun s hs => List.mem_append.2 (.inl hs)) (hl s List.mem_cons_self) (tell_can (hl s List.mem_cons_self))
    · exact tells_can L _ (fun s hs => hl s (List.mem_cons_of_mem _ hs)) s hs
theorem tells_sub : ∀ (L K : List (Nat × Nat)), ∀ s ∈ tells K L, s ∈ K ∨ s ∈ L
  | [], K, s, h => .inl h
  | t :: L, K, s, h => by
    rcases tells_sub L (tell K t) s h with h | h
    · unfold tell at h
      split at h
      · exact .inl h
      · rcases List.mem_append.1 h with h | h
        · exact .inl h
        · rw [List.mem_singleton.1 h]; exact .inr List.mem_cons_self
    · exact .inr (List.mem_cons_of_mem _ h)
theorem tol_sub (hs : List Nat) : ∀ i, ∀ s ∈ tol hs i, s ∈ allP hs i
  | 0, s, h => by cases h
  | i + 1, s, h => by
    rcases tells_sub _ _ s h with h | h
    · exact List.mem_append.2 (.inl (tol_sub hs i s h))
    · exact List.mem_append.2 (.inr h)
theorem tells_len : ∀ (L K : List (Nat × Nat)), (tells K L).length ≤ K.length + L.length
  | [], K => by simp [tells]
  | t :: L, K => by
    have h1 := tells_len L (tell K t)
    have h2 : (tell K t).length ≤ K.length + 1 := by unfold tell; split <;> simp
    have : tells K (t :: L) = tells (tell K t) L := rfl
    rw [this, List.length_cons]
    omega
theorem tol_len (hs : List Nat) : ∀ i, (tol hs i).length ≤ (allP hs i).length
  | 0 => Nat.le_refl _
  | i + 1 => by
    have := tol_len hs i
    have := tells_len (prf (hs.getD i 0) (hs.getD (i + 1) 0)) (tol hs i)
    rw [tol, allP, List.length_append]
    omega
structure Hds (hs : List Nat) : Prop where
  ne : 1 ≤ hs.length
  le : hs.length ≤ 64
  up : ∀ (i a b : Nat), hs[i]? = some a → hs[i + 1]? = some b → a < b
  lo : ∀ (i a : Nat), hs[i]? = some a → 1 ≤ a ∧ a ≤ 1099511627776
theorem getD_at {hs : List Nat} {i : Nat} (h : i < hs.length) : hs[i]? = some (hs.getD i 0) := by rw [List.getD_eq_getElem?_getD, List.getElem?_eq_getElem h]; rfl
theorem Hds.pair {hs : List Nat} (h : Hds hs) {i : Nat} (hi : i + 1 < hs.length) : 1 ≤ hs.getD i 0 ∧ hs.getD i 0 < hs.getD (i + 1) 0 ∧ hs.getD (i + 1) 0 ≤ 1099511627776 := by
  have e1 := getD_at (hs := hs) (i := i) (by omega)
  have e2 := getD_at hi
  exact ⟨(h.lo _ _ e1).1, h.up _ _ _ e1 e2, (h.lo _ _ e2).2⟩
theorem prf_ins : ∀ (f b n m : Nat), n ≤ f → 1 ≤ n → b < m → m ≤ b + n → ∀ s ∈ Tree.prfF f b n m, Tree.insF f b n s.1 s.2 = true
  | 0, b, n, m, h, h1, _, _, s, hs => by omega
  | f + 1, b, n, m, hf, h1, hm, hm2, s, h => by
    rw [Tree.prfF] at h
    by_cases h2 : b + n = m
    · rw [if_pos h2] at h
      by_cases hb : b = 0
      · rw [if_pos hb] at h; cases h
      · rw [if_neg hb] at h
        obtain rfl := List.mem_singleton.1 h
        exact Tree.insF_self
    · rw [if_neg h2] at h
      have s1 := Tree.sp_lt (n := n) (by omega)
      have s2 := Tree.sp_pos (n := n) (by omega)
      obtain ⟨f', rfl⟩ : ∃ f', f = f' + 1 := ⟨f - 1, by omega⟩
      by_cases hi : m ≤ b + Tree.sp n
      · rw [if_pos hi] at h
        rcases List.mem_append.1 h with h | h
        · have e := prf_ins (f' + 1) b (Tree.sp n) m (by omega) (by omega) hm hi s h
          have := Tree.insF_in _ _ _ _ _ e (by omega)
          rw [Tree.insF, if_neg (by omega), if_neg (by omega), if_pos (by omega)]
          exact e
        · obtain rfl := List.mem_singleton.1 h
          show Tree.insF (f' + 1 + 1) b n (b + Tree.sp n) (b + n) = true
          rw [Tree.insF, if_neg (by omega), if_neg (by omega), if_neg (by omega), if_pos (by omega), show b + n = b + Tree.sp n + (n - Tree.sp n) by omega]
          exact Tree.insF_self
      · rw [if_neg hi] at h
        rcases List.mem_append.1 h with h | h
        · have e := prf_ins (f' + 1) (b + Tree.sp n) (n - Tree.sp n) m (by omega) (by omega) (by omega) (by omega) s h
          have := Tree.insF_in _ _ _ _ _ e (by omega)
          rw [Tree.insF, if_neg (by omega), if_neg (by omega), if_neg (by omega), if_pos (by omega)]
          exact e
        · obtain rfl := List.mem_singleton.1 h
          show Tree.insF (f' + 1 + 1) b n b (b + Tree.sp n) = true
          rw [Tree.insF, if_neg (by omega), if_neg (by omega), if_pos (by omega)]
          exact Tree.insF_self
theorem prf_short : ∀ (k f b n m : Nat), n ≤ 2 ^ k → 1 ≤ n → b < m → m ≤ b + n → (Tree.prfF f b n m).length ≤ k + 1
  | k, 0, b, n, m, _, _, _, _ => by simp [Tree.prfF]
  | 0, f + 1, b, n, m, h, h1, hm, hm2 => by
    rw [Tree.prfF, if_pos (by omega)]
    split <;> simp
  | k + 1, f + 1, b, n, m, h, h1, hm, hm2 => by
    rw [Tree.prfF]
    split
    · split <;> simp
    · have s1 := Tree.sp_lt (n := n) (by omega)
      have s2 := Tree.sp_pos (n := n) (by omega)
      have s3 := Tree.sp_ge (n := n) (by omega)
      have s4 : Tree.sp n ≤ 2 ^ k := by
        rw [Tree.sp_eq (by omega)]
        refine Nat.pow_le_pow_right (by omega) ?_
        have : (n - 1).log2 < k + 1 := (Nat.log2_lt (by omega)).2 (by omega)
        omega
      split
      · rw [List.length_append]
        have := prf_short k f b (Tree.sp n) m s4 (by omega) hm (by omega)
        simp
        omega
      · rw [List.length_append]
        have := prf_short k f (b + Tree.sp n) (n - Tree.sp n) m (by omega) (by omega) (by omega) (by omega)
        simp
        omega
theorem prf_lo {a b : Nat} (h1 : 1 ≤ a) (h2 : a ≤ b) : ∀ s ∈ prf a b, s.1 < s.2 ∧ s.2 ≤ b := fun s hs => by
  have := Tree.insF_in _ _ _ _ _ (prf_ins b 0 b a (Nat.le_refl _) (by omega) (by omega) (by omega) s hs) (by omega)
  omega
theorem prf_len {a b : Nat} (h1 : 1 ≤ a) (h2 : a ≤ b) (h3 : b ≤ 1099511627776) : (prf a b).length ≤ 41 := prf_short 40 b 0 b a (by omega) (by omega) (by omega) (by omega)
theorem allP_lo {hs : List Nat} (h : Hds hs) : ∀ i, i < hs.length → ∀ s ∈ allP hs i, s.1 < s.2 ∧ s.2 ≤ 1099511627776
  | 0, _, s, hs => by cases hs
  | i + 1, hi, s, hs' => by
    rcases List.mem_append.1 hs' with e | e
    · exact allP_lo h i (by omega) s e
    · have hp := h.pair hi
      have := prf_lo hp.1 (by omega) s e
      omega
theorem allP_len {hs : List Nat} (h : Hds hs) : ∀ i, i < hs.length → (allP hs i).length ≤ 41 * i
  | 0, _ => Nat.le_refl _
  | i + 1, hi => by
    have hp := h.pair hi
    have := prf_len hp.1 (by omega) hp.2.2
    have := allP_len h i (by omega)
    rw [allP, List.length_append]
    omega
theorem tol_lo {hs : List Nat} (h : Hds hs) {i : Nat} (hi : i < hs.length) : ∀ s ∈ tol hs i, s.1 < s.2 ∧ s.2 ≤ 1099511627776 := fun s e => allP_lo h i hi s (tol_sub hs i s e)
theorem tol_few {hs : List Nat} (h : Hds hs) {i : Nat} (hi : i < hs.length) : (tol hs i).length ≤ 2583 := by
  have h1 := tol_len hs i
  have h2 := allP_len h i hi
  have := h.le
  omega
theorem tol_can {hs : List Nat} (h : Hds hs) {j : Nat} : ∀ (d : Nat), j + 1 + d < hs.length → ∀ s ∈ prf (hs.getD j 0) (hs.getD (j + 1) 0), can (tol hs (j + 1 + d)) s = true := fun d hd s hs' => by
  have hp := h.pair (i := j) (by omega)
  have h1 : can (tol hs (j + 1)) s = true := tells_can _ _ (fun t ht => (prf_lo hp.1 (by omega) t ht).1) s hs'
  obtain ⟨E, hE⟩ := tol_pre hs (j + 1) d
  rw [hE]
  exact can_mono (fun s hs => List.mem_append.2 (.inl hs)) (prf_lo hp.1 (by omega) s hs').1 h1
def told (hs : List Nat) : List (Nat × Nat) := tol hs (hs.length - 1)
theorem nodup_len : ∀ (l m : List (Nat × Nat)), l.Nodup → (∀ x ∈ l, x ∈ m) → l.length ≤ m.length
  | [], _, _, _ => Nat.zero_le _
  | a :: l, m, hn, hm => by
    have hn := List.nodup_cons.1 hn
    have := nodup_len l (m.erase a) hn.2 fun x hx => (List.mem_erase_of_ne (fun e => hn.1 (by rw [← e]; exact hx))).2 (hm x (List.mem_cons_of_mem _ hx))
    rw [List.length_erase_of_mem (hm a List.mem_cons_self)] at this
    have := List.length_pos_of_mem (hm a List.mem_cons_self)
    rw [List.length_cons]
    omega
structure Kw (A K0 : List (Nat × Nat)) (H0 : List (List UInt8)) (K : List (Nat × Nat)) (H : List (List UInt8)) : Prop where
  len : K.length = H.length
  nd : K.Nodup
  can : ∀ x y, x < y → can K (x, y) = can K0 (x, y)
  fld : ∀ x y, x < y → Chn.can K0 (x, y) = true → fld K H (x, y) = fld K0 H0 (x, y)
  sub : ∀ s ∈ K, s ∈ A
  h32 : ∀ x ∈ H, x.length = 32
theorem Kw.first {A K0 : List (Nat × Nat)} {H0 : List (List UInt8)} (hl : K0.length = H0.length) (ht : Tld K0) (hlo : ∀ s ∈ K0, s.1 < s.2) (hs : ∀ s ∈ K0, s ∈ A) (h32 : ∀ x ∈ H0, x.length = 32) : Kw A K0 H0 K0 H0 :=
  ⟨hl, ht.nodup hlo, fun _ _ _ => rfl, fun _ _ _ _ => rfl, hs, h32⟩
theorem Kw.next {A K0 K : List (Nat × Nat)} {H0 H : List (List UInt8)} (h : Kw A K0 H0 K H) {s : Nat × Nat} (hlt : s.1 < s.2) (hA : s ∈ A) (hn : ¬ s ∈ K) (hc : Chn.can K0 s = true) : Kw A K0 H0 (K ++ [s]) (H ++ [Chn.fld K0 H0 s]) := by
  have hcK : Chn.can K s = true := (h.can s.1 s.2 hlt).trans hc
  have hf := h.fld s.1 s.2 hlt hc
  refine ⟨by simp [h.len], ?_, fun x y hxy => (can_grow hcK hxy).trans (h.can x y hxy), fun x y hxy hxc => ?_, fun t ht => ?_, fun x hx => ?_⟩
  · refine List.nodup_append.2 ⟨h.nd, by simp, fun a ha b hb e => ?_⟩
    rw [List.mem_singleton] at hb
    subst hb
    exact hn (e ▸ ha)
  · rw [← h.fld x y hxy hxc, ← hf]
    exact fld_new h.len hn hcK hxy ((h.can x y hxy).trans hxc)
  · rcases List.mem_append.1 ht with ht | ht
    · exact h.sub t ht
    · rw [List.mem_singleton.1 ht]; exact hA
  · rcases List.mem_append.1 hx with hx | hx
    · exact h.h32 x hx
    · rw [List.mem_singleton.1 hx, ← hf]
      exact fld_len h.len h.h32 hlt hcK
theorem Kw.at {A K0 K : List (Nat × Nat)} {H0 H : List (List UInt8)} (h : Kw A K0 H0 K H) {s : Nat × Nat} (hlt : s.1 < s.2) {j : Nat} {x : List UInt8} (hj : K[j]? = some s) (hx : H[j]? = some x) : x = Chn.fld K0 H0 s := by
  have hm := List.mem_of_getElem? hj
  have hc : Chn.can K0 s = true := (h.can s.1 s.2 hlt).symm.trans (can_mem hlt hm)
  have e1 := h.fld s.1 s.2 hlt hc
  have e2 : Chn.fld K H s = Tree.hashAt K H s := fld_mem hlt hm
  rw [hashAt_get h.nd hj hx] at e2
  rw [← e2]
  exact e1
theorem fld_then {K0 : List (Nat × Nat)} {H0 : List (List UInt8)} {K E : List (Nat × Nat)} (hl : K0.length = H0.length) (ht : Tld K0) (hlo : ∀ s ∈ K0, s.1 < s.2) (hE : K0 = K ++ E) {s : Nat × Nat} (hlt : s.1 < s.2) (hc : can K s = true) : fld K (H0.take K.length) s = fld K0 H0 s := by
  subst hE
  have e := fld_old (K := K) (E := E) (H := H0.take K.length) (G := H0.drop K.length) (by rw [List.length_take]; simp at hl; omega) (ht.late fun s hs => hlo s (List.mem_append.2 (.inr hs))) (x := s.1) (y := s.2) hlt hc
  rw [List.take_append_drop] at e
  exact e.symm
def exP (hs : List Nat) (H0 : List (List UInt8)) (i : Nat) : List (List UInt8) := (prf (hs.getD i 0) (hs.getD (i + 1) 0)).map (fld (told hs) H0)
def exL (hs : List Nat) (H0 : List (List UInt8)) : List (List (List UInt8)) := (List.range (hs.length - 1)).map (exP hs H0)
end Chn
end Go.Proofs.YtenklmjeeejfdaaGreatDoor

namespace Go.Proofs.YtenklmjeeejfdaaGreatDoor
open Go.RowKit
open Go.WideMaps (KeyLaw)
open Go.ChangeMaps (setBlock)
namespace Chn
theorem rowAr : (127 : TypeId) < Tryz.prog.types.size := of_decide_eq_true (by kernel_rfl)
theorem wideAr : (match Tryz.prog.underlying 127 with | some (.array _ _) | some (.struct _) => true | _ => false) = true := by kernel_rfl
theorem keyAtAr : Tryz.prog.keyTypeAt 2 127 = true := by kernel_rfl
set_option maxRecDepth 1000000 in
theorem lawAr : KeyLaw Tryz.prog 127 := deep_law_laid laidOutT (m := 2) (by omega) rowAr keyAtAr wideAr
theorem undPs : Tryz.prog.underlying 76 = some (.map 127 3) := by kernel_rfl
theorem infoIn : (Tryz.prog.info? 3).map (fun i => (i.zero, i.size, i.bytes)) = some (some (.int .i64 0), 1, 8) := by kernel_rfl
theorem zeroIn (w : World) : (zeroValue 3).run Tryz.prog w = .ok (.int .i64 0) w := by
  obtain ⟨i0, hi, hz0, hz1, hz2⟩ := info_parts infoIn
  simp [zeroValue, typeInfo, hi, hz0]
theorem keyTyA : Tryz.prog.keyType 127 = true := by kernel_rfl
theorem cellsAr : Tryz.prog.cellsOf 127 = 2 := by kernel_rfl
theorem undAr : Tryz.prog.underlying 127 = some (.array 2 3) := by kernel_rfl
theorem typesC : Tryz.prog.types.size + 1 = (Tryz.prog.types.size - 1) + 1 + 1 := by have h : 0 < Tryz.prog.types.size := Nat.lt_of_le_of_lt (Nat.zero_le _) rowAr; omega
theorem keyAr {p : Int × Int} (h : InR p) : ∃ l, keyOf Tryz.prog 127 (kv p) = some l := by
  have h1 := wf64 h.1.1 h.1.2
  have h2 := wf64 h.2.1 h.2.2
  have k1 : ∀ (n : Nat) (a : Int), (Lit.int .i64 a).wf = true → Tryz.prog.keyLits (n + 1) 3 [.int .i64 a] = some [.int .i64 a] := fun n a ha => by
    unfold Program.keyLits
    simp [ha]
  have hfm : (kv p).formed Tryz.prog 127 = true := by
    unfold kv Value.formed
    rw [undAr]
    simp [cellsAr]
  have h3 : Tryz.prog.keyLits (Tryz.prog.types.size + 1) 127 (kv p).cells.toList = some [.int .i64 p.1, .int .i64 p.2] := by
    have e : (kv p).cells.toList = [.int .i64 p.1, .int .i64 p.2] := rfl
    rw [typesC, e]
    unfold Program.keyLits
    rw [undAr]
    simp [cellsAr, cellsIT, show List.range 2 = [0, 1] from rfl, k1 _ _ h1, k1 _ _ h2]
  refine ⟨.string (keyBytes [.int .i64 p.1, .int .i64 p.2]), ?_⟩
  unfold keyOf
  rw [undAr]
  simp only [keyTyA, hfm, Bool.and_self, if_true, h3, Option.map_some]
def kn (s : Nat × Nat) : Value := kv ((s.1 : Int), (s.2 : Int))
def Lo (s : Nat × Nat) : Prop := s.1 ≤ 1099511627776 ∧ s.2 ≤ 1099511627776
theorem Lo.r {s : Nat × Nat} (h : Lo s) : InR ((s.1 : Int), (s.2 : Int)) := by unfold Lo at h; exact ⟨⟨by show _ ≤ (s.1 : Int); omega, by show (s.1 : Int) ≤ _; omega⟩, by show _ ≤ (s.2 : Int); omega, by show (s.2 : Int) ≤ _; omega⟩
theorem kn_inj {s t : Nat × Nat} (h : kn s = kn t) : s = t := by
  have := kv_inj h
  simp only [Prod.mk.injEq] at this
  exact Prod.ext (by omega) (by omega)
abbrev Pl := Nat × Nat → Option Nat
def upd (f : Pl) (s : Nat × Nat) (h : Nat) : Pl := fun t => if t = s then some h else f t
structure Mc (w : World) (b : Nat) (f  : Pl) : Prop where
  m : ∃ arr clock, w.heap[b]? = some (.map arr clock) ∧ (arr.toList.map (·.key)).Nodup ∧ (∀ e ∈ arr.toList, ∃ (s : Nat × Nat) (h : Nat), e.key = kn s ∧ e.val = .int .i64 (h : Int) ∧ f s = some h ∧ Lo s) ∧ ∀ s, f s ≠ none → ∃ e ∈ arr.toList, e.key = kn s
theorem Mc.heap {w w' : World} {b : Nat} {f  : Pl} (h : Mc w b f) (hb : w'.heap[b]? = w.heap[b]?) : Mc w' b f := by
  obtain ⟨arr, clock, h1, h2⟩ := h.m
  exact ⟨arr, clock, hb.trans h1, h2⟩
theorem Mc.lt {w : World} {b : Nat} {f  : Pl} (h : Mc w b f) : b < w.heap.size := by
  obtain ⟨arr, clock, h1, _⟩ := h.m
  exact (Array.getElem?_eq_some_iff.1 h1).1
theorem Mc.below {w w' : World} {b B : Nat} {f  : Pl} (h : Mc w b f) (hb : Below B w w') (hB : b < B) : Mc w' b f := h.heap (hb.block b hB)
theorem Mc.new (w : World) : Mc (w.alloc (.map #[] 0)) w.heap.size (fun _ => none) :=
  ⟨#[], 0, (MapKept.heap_alloc w _).1, by simp, by simp, fun s hs => absurd rfl hs⟩
theorem Mc.keysOk {arr : Array MapEntry} {f  : Pl} (h : ∀ e ∈ arr.toList, ∃ (s : Nat × Nat) (h : Nat), e.key = kn s ∧ e.val = .int .i64 (h : Int) ∧ f s = some h ∧ Lo s) : ∀ e ∈ arr.toList, ∃ l, keyOf Tryz.prog 127 e.key = some l := fun e he => by
  obtain ⟨s, x, h1, _, _, h4⟩ := h e he
  rw [h1]
  exact keyAr h4.r
theorem Mc.find {w : World} {arr : Array MapEntry} {f  : Pl} (h3 : ∀ e ∈ arr.toList, ∃ (s : Nat × Nat) (h : Nat), e.key = kn s ∧ e.val = .int .i64 (h : Int) ∧ f s = some h ∧ Lo s) (h4 : ∀ s, f s ≠ none → ∃ e ∈ arr.toList, e.key = kn s) {s : Nat × Nat} (hs : Lo s) :
    ((Instr.findKey 127 (kn s) arr.toList).run Tryz.prog w = .ok none w ∧ f s = none ∧ ∀ e ∈ arr.toList, e.key ≠ kn s) ∨
    ∃ (j : Nat) (e : MapEntry) (x : Nat), (Instr.findKey 127 (kn s) arr.toList).run Tryz.prog w = .ok (some (j, .int .i64 (x : Int))) w ∧ f s = some x ∧ arr.toList[j]? = some e ∧ e.key = kn s := by
  obtain ⟨l, hl⟩ := keyAr hs.r
  rcases lawAr.find w hl arr.toList (Mc.keysOk h3) with ⟨f1, f2⟩ | ⟨j, e0, f1, f2, f3⟩
  · refine .inl ⟨f1, ?_, f2⟩
    cases e : f s with
    | none => rfl
    | some x =>
      obtain ⟨e1, he, hk⟩ := h4 s (by rw [e]; simp)
      exact absurd hk (f2 e1 he)
  · obtain ⟨t, x, g1, g2, g3, g4⟩ := h3 e0 (List.mem_of_getElem? f2)
    have : t = s := kn_inj (g1.symm.trans f3)
    subst this
    rw [g2] at f1
    exact .inr ⟨j, e0, x, f1, g3, f2, f3⟩
theorem Mc.put {w : World} {b : Nat} {f  : Pl} (h : Mc w b f) {s : Nat × Nat} (hs : Lo s) (x : Nat) :
    ∃ w', (Instr.mapUpdate 76 (.map (some b)) (.agg #[.int .i64 (s.1 : Int), .int .i64 (s.2 : Int)]) (.int .i64 (x : Int))).run Tryz.prog w = .ok () w' ∧ Mc w' b (upd f s x) ∧ But b w w' ∧ w'.heap.size = w.heap.size := by
  obtain ⟨arr, clock, hb, h2, h3, h4⟩ := h.m
  obtain ⟨l, hl⟩ := keyAr hs.r
  have hc := lawAr.check w false hl
  rcases Mc.find (w := w) h3 h4 hs with ⟨f1, f2, f3⟩ | ⟨j, e0, y, f1, f2, f3, f4⟩
  · refine ⟨setBlock w b (.map (arr.push ⟨kn s, .int .i64 (x : Int), clock⟩) (clock + 1)), ?_, ⟨_, _, setBlock_at hb, ?_, ?_, ?_⟩, (But.refl b w).setBlock _, by simp [setBlock]⟩
    · simp only [kn, kv] at f1
      simp only [kv] at hc
      simp [Instr.mapUpdate, run_underlying undPs, MapKept.run_getObj_map hb, hc, f1, MapKept.run_setObj_map _ hb, setBlock, kn, kv]
    · simp only [Array.toList_push, List.map_append, List.map_cons, List.map_nil]
      refine List.nodup_append.2 ⟨h2, by simp, fun a ha c hc' e1 => ?_⟩
      simp only [List.mem_singleton] at hc'
      obtain ⟨e, he, rfl⟩ := List.mem_map.1 ha
      exact f3 e he (e1.trans hc')
    · intro e he
      rw [Array.toList_push, List.mem_append, List.mem_singleton] at he
      rcases he with he | rfl
      · obtain ⟨t, z, g1, g2, g3, g4⟩ := h3 e he
        refine ⟨t, z, g1, g2, ?_, g4⟩
        unfold upd
        rw [if_neg (fun q => f3 e he (by rw [g1, q]))]
        exact g3
      · exact ⟨s, x, rfl, rfl, by unfold upd; rw [if_pos rfl], hs⟩
    · intro t ht
      unfold upd at ht
      by_cases q : t = s
      · subst q
        exact ⟨⟨kn t, .int .i64 (x : Int), clock⟩, by simp, rfl⟩
      · rw [if_neg q] at ht
        obtain ⟨e, he, hk⟩ := h4 t ht
        exact ⟨e, by simp [he], hk⟩
  · have hj : arr[j]? = some e0 := by simpa using f3
    have hlist : (arr.modify j (fun e => { e with key := kn s, val := .int .i64 (x : Int) })).toList = arr.toList.set j ⟨kn s, .int .i64 (x : Int), e0.born⟩ := by
      rw [Array.toList_modify, ChangeMaps.modify_eq_set _ _ _ _ f3]
    have hkeys : (arr.toList.set j ⟨kn s, .int .i64 (x : Int), e0.born⟩).map (·.key) = arr.toList.map (·.key) := by
      rw [List.map_set]
      refine WideElems.set_self _ _ _ ?_
      rw [List.getElem?_map, f3]
      simp [f4]
    refine ⟨setBlock w b (.map (arr.modify j (fun e => { e with key := kn s, val := .int .i64 (x : Int) })) clock), ?_, ⟨_, _, setBlock_at hb, ?_, ?_, ?_⟩, (But.refl b w).setBlock _, by simp [setBlock]⟩
    · have hst := lawAr.stays w hl
      simp only [kn, kv] at f1 f4
      simp only [kv] at hc hst
      simp [Instr.mapUpdate, run_underlying undPs, MapKept.run_getObj_map hb, hc, f1, hj, f4, hst, MapKept.run_setObj_map _ hb, Result.andThen, setBlock, kn, kv]
    · rw [hlist, hkeys]; exact h2
    · intro e he
      rw [hlist] at he
      obtain ⟨k, hk, hke⟩ := List.mem_iff_getElem.1 he
      by_cases q : j = k
      · subst q
        rw [List.getElem_set_self] at hke
        subst hke
        exact ⟨s, x, rfl, rfl, by unfold upd; rw [if_pos rfl], hs⟩
      · rw [List.getElem_set_ne q] at hke
        rw [List.length_set] at hk
        have hm : e ∈ arr.toList := by rw [← hke]; exact List.getElem_mem hk
        obtain ⟨t, z, g1, g2, g3, g4⟩ := h3 e hm
        refine ⟨t, z, g1, g2, ?_, g4⟩
        unfold upd
        rw [if_neg (fun q2 => ?_)]
        · exact g3
        · subst q2
          have hjl := (List.getElem?_eq_some_iff.1 f3).1
          have e2 := (List.getElem?_eq_some_iff.1 f3).2
          have := (List.pairwise_iff_getElem.1 h2)
          rcases Nat.lt_or_gt_of_ne q with c | c
          · exact this j k (by simpa using hjl) (by simpa using hk) c (by rw [List.getElem_map, List.getElem_map, e2, hke, f4, g1])
          · exact this k j (by simpa using hk) (by simpa using hjl) c (by rw [List.getElem_map, List.getElem_map, e2, hke, f4, g1])
    · intro t ht
      rw [hlist]
      have hex : kn t ∈ (arr.toList.set j ⟨kn s, .int .i64 (x : Int), e0.born⟩).map (·.key) := by
        rw [hkeys]
        unfold upd at ht
        by_cases q : t = s
        · subst q
          exact List.mem_map.2 ⟨e0, List.mem_of_getElem? f3, f4⟩
        · rw [if_neg q] at ht
          obtain ⟨e, he, hk⟩ := h4 t ht
          exact List.mem_map.2 ⟨e, he, hk⟩
      obtain ⟨e, he, hk⟩ := List.mem_map.1 hex
      exact ⟨e, he, hk⟩
theorem But.keepC {b : Nat} {w w' : World} (h : But b w w') : Keep (fun k => k = b) w w' := ⟨h.os, h.tape, h.output, h.size, fun k hk hs => h.block k hk hs⟩
theorem Mc.keep {w w' : World} {b : Nat} {f : Pl} {S : Nat → Prop} (h : Mc w b f) (hk : Keep S w w') (hs : ¬ S b) : Mc w' b f := h.heap (hk.block b h.lt hs)
theorem keep_belowC {S : Nat → Prop} {w w' : World} {B : Nat} (h : Keep S w w') (hB : B ≤ w.heap.size) (hS : ∀ k, S k → B ≤ k) : Below B w w' :=
  ⟨h.os, h.tape, h.output, h.size, fun k hk => h.block k (by omega) fun e => by have := hS k e; omega⟩
end Chn
end Go.Proofs.YtenklmjeeejfdaaGreatDoor

namespace Go.Proofs.YtenklmjeeejfdaaGreatDoor
open Go.RowKit Go.Shelf
namespace Chn
theorem sizeAr (a b : Value) : (Tryz.prog.info? 127).map (·.size) = some #[a, b].size := by kernel_rfl
set_option maxRecDepth 100000 in
theorem ends_any (b e : Int) (w : World) : Calls Tryz.prog 87 #[sg b e] w fun r w' => r = .returned (sg b e) ∧ Below w.heap.size w w' := by
  have S0 := SpI.new w b e
  have c0 := S0.c0
  have c1 := S0.c1
  go_enter Tryz.func87, Tryz.ntmps87
  go_wp2
  refine bodyPost_ret (v := sg b e) (results_cell_row rfl _ _ (w.heap.size + 1) 127 _ (0, 0) _ rfl (heap_alloc_at _ _ _ (by simp)) Tryz.underlying127 rfl (sizeAr _ _)) rfl ⟨rfl, ?_⟩
  exact ((Below.refl _ _).alloc (Nat.le_refl _) _).alloc (by simp) _
set_option maxRecDepth 100000 in
set_option maxHeartbeats 4000000 in
theorem partsC_at (b e m : Nat) (h2 : 2 ≤ e - b) (he : e ≤ 1099511627776) (hm : Hid (m = b + Tree.sp (e - b))) (w : World) :
    Calls Tryz.prog 88 #[sg b e] w fun r w' => r = .returned (.tuple #[sg b m, sg m e]) ∧ Below w.heap.size w w' := by
  have hb := bitLen_log _ ((((e - b : Nat) : Int) - 1).toNat) (Nat.le_refl _) (by omega) (by omega)
  have hL := log_le (x := (((e - b : Nat) : Int) - 1).toNat) (by omega) (by omega)
  have hc := lenU_any (((e - b : Nat) : Int) - 1) (by omega) (by omega)
  have hm2 : Hid (m = b + 2 ^ (((e - b : Nat) : Int) - 1).toNat.log2) := by
    unfold Hid
    rw [hm.out, Tree.sp_eq (by omega), show e - b - 1 = (((e - b : Nat) : Int) - 1).toNat from by omega]
  have hme : m < e := by rw [hm.out]; have := Tree.sp_lt (n := e - b) h2; omega
  rw [hb] at hc
  clear hb
  generalize (((e - b : Nat) : Int) - 1).toNat.log2 = L at *
  have hw1 : IntKind.i64.wrap (((e - b : Nat) : Int) - 1) = ((e - b : Nat) : Int) - 1 := by rw [IntKind.wrap_i64]; omega
  have hw2 : IntKind.u64.wrap (((e - b : Nat) : Int) - 1) = ((e - b : Nat) : Int) - 1 := by rw [IntKind.wrap_u64]; omega
  have hp := wrap_pow hL
  obtain ⟨N, hN⟩ : ∃ N : Nat, Hid (2 ^ L = N) := ⟨_, rfl⟩
  rw [hN.out] at hp hm2
  have hN1 : (2 : Int) ^ L = (N : Int) := by rw [← hN.out]; simp
  have hN2 : IntKind.i64.wrap (N : Int) = (N : Int) := by rw [IntKind.wrap_i64]; have := hm2.out; omega
  have hL1 : IntKind.i64.wrap (L : Int) = (L : Int) := by rw [IntKind.wrap_i64]; omega
  have hL2 : (L : Int) ≤ 64 := by omega
  have hL3 : (0 : Int) ≤ (L : Int) := by omega
  have hadd : IntKind.i64.wrap ((b : Int) + (N : Int)) = (m : Int) := by rw [hm2.out, IntKind.wrap_i64]; have := hm2.out; omega
  clear hp
  have hw0 : IntKind.i64.wrap ((e : Int) - (b : Int)) = ((e - b : Nat) : Int) := by rw [IntKind.wrap_i64]; omega
  obtain ⟨n, hn⟩ : ∃ n, Hid (e - b = n) := ⟨_, rfl⟩
  rw [hn.out] at hc hw0 hw1 hw2
  have S0 := SpI.new w b e
  have B0 := (Below.refl w.heap.size w).alloc (Nat.le_refl _) (.cells #[Value.int .i64 (b : Int), .int .i64 (e : Int)] 56)
  go_enter Tryz.func88, Tryz.ntmps88
  go_wp2
  obtain ⟨w3, hw3⟩ : ∃ w3, Hid ((((w.alloc (.cells #[.int .i64 (b : Int), .int .i64 (e : Int)] 56)).alloc (.cells #[.int .i64 0, .int .i64 0] 56)).alloc (.cells #[.int .i64 0, .int .i64 0] 56)) = w3) := ⟨_, rfl⟩
  rw [hw3.out]
  have B3 : Hid (Below w.heap.size w w3) := by unfold Hid; rw [← hw3.out]; exact (B0.alloc (by rw [size_alloc]; omega) _).alloc (by rw [size_alloc, size_alloc]; omega) _
  have z3 : Hid (w3.heap.size = w.heap.size + 3) := by unfold Hid; rw [← hw3.out]; simp
  have R0 : Hid (SpI w3 w.heap.size b e) := by unfold Hid; rw [← hw3.out]; exact (S0.below ((Below.refl _ _).alloc (Nat.le_refl _) _)).below ((Below.refl _ _).alloc (Nat.le_refl _) _)
  have R1 : Hid (SpI w3 (w.heap.size + 1) 0 0) := by
    unfold Hid; rw [← hw3.out]
    have := SpI.new (w.alloc (.cells #[.int .i64 (b : Int), .int .i64 (e : Int)] 56)) 0 0
    rw [size_alloc] at this
    exact this.below ((Below.refl _ _).alloc (Nat.le_refl _) _)
  have R2 : Hid (SpI w3 (w.heap.size + 1 + 1) 0 0) := by
    unfold Hid; rw [← hw3.out]
    have := SpI.new ((w.alloc (.cells #[.int .i64 (b : Int), .int .i64 (e : Int)] 56)).alloc (.cells #[.int .i64 0, .int .i64 0] 56)) 0 0
    rw [size_alloc, size_alloc] at this
    exact this
  clear hw3 S0 B0
  have x0 := And.intro R0.out.c0 R0.out.c1
  go_region_held3 (fun w' => w'.cell? ⟨w.heap.size, 0, none⟩ = some (.int .i64 (b : Int)) ∧ w'.cell? ⟨w.heap.size, 1, none⟩ = some (.int .i64 (e : Int))) (exact x0) (first | (go_at_call 105; refine (hc _).mono ?_; rintro r w5 ⟨rfl, hw5⟩; have hw5 := hw5.symm; subst hw5))
  go_wp2
  have B5 := B3
  have T0 := R0
  have T1 := R1
  have T2 := R2
  clear R0 R1 R2 x0 B3 z3
  have y0 := And.intro T0.out.c0 T0.out.c1
  have p1 : w3.drew.cell? ⟨w.heap.size + 1, 0, none⟩ = some (.int .i64 0) := T1.out.c0
  have p2 : w3.drew.cell? ⟨w.heap.size + 1, 1, none⟩ = some (.int .i64 0) := T1.out.c1
  have p3 : w3.drew.frozen? ⟨w.heap.size + 1, 0, none⟩ = false := T1.out.f0
  have p4 : w3.drew.frozen? ⟨w.heap.size + 1, 1, none⟩ = false := T1.out.f1
  have q1 : w3.drew.cell? ⟨w.heap.size + 1 + 1, 0, none⟩ = some (.int .i64 0) := T2.out.c0
  have q2 : w3.drew.cell? ⟨w.heap.size + 1 + 1, 1, none⟩ = some (.int .i64 0) := T2.out.c1
  have q3 : w3.drew.frozen? ⟨w.heap.size + 1 + 1, 0, none⟩ = false := T2.out.f0
  have q4 : w3.drew.frozen? ⟨w.heap.size + 1 + 1, 1, none⟩ = false := T2.out.f1
  have y1 : w3.drew.cell? ⟨w.heap.size, 0, none⟩ = some (.int .i64 (b : Int)) := T0.out.c0
  have y2 : w3.drew.cell? ⟨w.heap.size, 1, none⟩ = some (.int .i64 (e : Int)) := T0.out.c1
  have p5 : w3.cell? ⟨w.heap.size + 1, 0, none⟩ = some (.int .i64 0) := T1.out.c0
  have p6 : w3.cell? ⟨w.heap.size + 1, 1, none⟩ = some (.int .i64 0) := T1.out.c1
  have p7 : w3.frozen? ⟨w.heap.size + 1, 0, none⟩ = false := T1.out.f0
  have p8 : w3.frozen? ⟨w.heap.size + 1, 1, none⟩ = false := T1.out.f1
  have q5 : w3.cell? ⟨w.heap.size + 1 + 1, 0, none⟩ = some (.int .i64 0) := T2.out.c0
  have q6 : w3.cell? ⟨w.heap.size + 1 + 1, 1, none⟩ = some (.int .i64 0) := T2.out.c1
  have q7 : w3.frozen? ⟨w.heap.size + 1 + 1, 0, none⟩ = false := T2.out.f0
  have q8 : w3.frozen? ⟨w.heap.size + 1 + 1, 1, none⟩ = false := T2.out.f1
  have s1 : ¬ w.heap.size + 1 = w.heap.size := by omega
  have s2 : ¬ w.heap.size + 1 + 1 = w.heap.size := by omega
  go_region_held3 (fun w' => w'.cell? ⟨w.heap.size, 0, none⟩ = some (.int .i64 (b : Int)) ∧ w'.cell? ⟨w.heap.size, 1, none⟩ = some (.int .i64 (e : Int))) (first | exact y0 | go_keep) (fail)
  go_wp2
  have U1 := (T1.out.two (b : Int) (m : Int))
  have U1' := (U1.far (w.heap.size + 1 + 1) 0 (.int .i64 (m : Int)) (by omega)).far (w.heap.size + 1 + 1) 1 (.int .i64 (e : Int)) (by omega)
  have U2 := ((T2.out.far (w.heap.size + 1) 0 (.int .i64 (b : Int)) (by omega)).far (w.heap.size + 1) 1 (.int .i64 (m : Int)) (by omega)).two (m : Int) (e : Int)
  refine bodyPost_ret (results_row_row rfl _ _ (w.heap.size + 1) (w.heap.size + 1 + 1) 56 56 #[.int .i64 (b : Int), .int .i64 (m : Int)] #[.int .i64 (m : Int), .int .i64 (e : Int)] (0, 0) (0, 0) _ _ rfl U1' Tryz.underlying56 rfl sizeSp8 rfl U2 Tryz.underlying56 rfl sizeSp8) rfl ⟨rfl, ?_⟩
  exact (((((B5.out.setCell (p := ⟨w.heap.size + 1, 0, none⟩) (by show w.heap.size ≤ w.heap.size + 1; omega) _).setCell (p := ⟨w.heap.size + 1, 1, none⟩) (by show w.heap.size ≤ w.heap.size + 1; omega) _).setCell (p := ⟨w.heap.size + 1 + 1, 0, none⟩) (by show w.heap.size ≤ w.heap.size + 1 + 1; omega) _).setCell (p := ⟨w.heap.size + 1 + 1, 1, none⟩) (by show w.heap.size ≤ w.heap.size + 1 + 1; omega) _)).drew.drew
end Chn
end Go.Proofs.YtenklmjeeejfdaaGreatDoor

namespace Go.Proofs.YtenklmjeeejfdaaGreatDoor
open Go.RowKit Go.Shelf
namespace Chn
theorem Mc.yes {w : World} {b : Nat} {f : Pl} (h : Mc w b f) {s : Nat × Nat} (hs : Lo s) {x : Nat} (hx : f s = .some x) : (Instr.lookup 76 (.map (some b)) (.agg #[.int .i64 (s.1 : Int), .int .i64 (s.2 : Int)]) true).run Tryz.prog w = .ok (.tuple #[.int .i64 (x : Int), .bool true]) w := by
  obtain ⟨arr, clock, hb, h2, h3, h4⟩ := h.m
  obtain ⟨l, hl⟩ := keyAr hs.r
  have hc := lawAr.check w arr.isEmpty hl
  simp only [kv] at hc
  rcases Mc.find (w := w) h3 h4 hs with ⟨f1, f2, _⟩ | ⟨j, e, y, f1, f2, _⟩
  · rw [hx] at f2; cases f2
  · rw [hx] at f2
    cases f2
    simp only [kn, kv] at f1
    simp [Instr.lookup, run_underlying undPs, MapKept.run_getObj_map hb, hc, f1, Result.andThen]
theorem Mc.not {w : World} {b : Nat} {f : Pl} (h : Mc w b f) {s : Nat × Nat} (hs : Lo s) (hx : f s = .none) : (Instr.lookup 76 (.map (some b)) (.agg #[.int .i64 (s.1 : Int), .int .i64 (s.2 : Int)]) true).run Tryz.prog w = .ok (.tuple #[.int .i64 0, .bool false]) w := by
  obtain ⟨arr, clock, hb, h2, h3, h4⟩ := h.m
  obtain ⟨l, hl⟩ := keyAr hs.r
  have hc := lawAr.check w arr.isEmpty hl
  simp only [kv] at hc
  rcases Mc.find (w := w) h3 h4 hs with ⟨f1, f2, _⟩ | ⟨j, e, y, f1, f2, _⟩
  · simp only [kn, kv] at f1
    simp [Instr.lookup, run_underlying undPs, MapKept.run_getObj_map hb, hc, f1, zeroIn w, Result.andThen]
  · rw [hx] at f2; cases f2
structure Td (w : World) (q b : Nat) (v : Value) (K : List (Nat × Nat)) : Prop where
  c0 : w.cell? ⟨q, 0, none⟩ = .some v
  c1 : w.cell? ⟨q, 1, none⟩ = .some (.map (.some b))
  f0 : w.frozen? ⟨q, 0, none⟩ = false
  own : OwnP w v K
  mp : ∃ f, Mc w b f ∧ ∀ s j, f s = .some j ↔ K[j]? = .some s
  lo : ∀ s ∈ K, s.1 < s.2 ∧ s.2 ≤ 1099511627776
  qb : q ≠ b
  vq : v.ownBlock ≠ .some q
  vb : v.ownBlock ≠ .some b
  lt : q < w.heap.size
def Td.F (q b : Nat) (v : Value) : Nat → Prop := fun k => k = q ∨ k = b ∨ v.ownBlock = .some k
theorem Td.keep {w w' : World} {q b : Nat} {v : Value} {K : List (Nat × Nat)} {S : Nat → Prop} (h : Td w q b v K) (hk : Keep S w w') (hs : ∀ k, Td.F q b v k → ¬ S k) : Td w' q b v K := by
  have eq := hk.block q h.lt (hs q (.inl rfl))
  obtain ⟨f, hf, hg⟩ := h.mp
  exact ⟨(World.cell?_of_block (w := w) eq).trans h.c0, (World.cell?_of_block (w := w) eq).trans h.c1, (World.frozen?_of_block (w := w) eq).trans h.f0, h.own.keep hk fun k e => hs k (.inr (.inr e)), ⟨f, hf.keep hk (hs b (.inr (.inl rfl))), hg⟩, h.lo, h.qb, h.vq, h.vb, Nat.lt_of_lt_of_le h.lt hk.size⟩
theorem Td.below {w w' : World} {q b : Nat} {v : Value} {K : List (Nat × Nat)} (h : Td w q b v K) (hk : Below w.heap.size w w') : Td w' q b v K := h.keep (Keep.ofBelow (S := fun _ => False) hk) fun _ _ e => e
theorem Td.Flt {w : World} {q b : Nat} {v : Value} {K : List (Nat × Nat)} (h : Td w q b v K) : ∀ k, Td.F q b v k → k < w.heap.size := by
  rintro k (rfl | rfl | e)
  · exact h.lt
  · obtain ⟨f, hf, _⟩ := h.mp; exact hf.lt
  · exact h.own.lt k e
theorem Td.yes {w : World} {q b : Nat} {v : Value} {K : List (Nat × Nat)} (h : Td w q b v K) {j x y : Nat} (hj : K[j]? = .some (x, y)) : (Instr.lookup 76 (.map (some b)) (.agg #[.int .i64 (x : Int), .int .i64 (y : Int)]) true).run Tryz.prog w = .ok (.tuple #[.int .i64 (j : Int), .bool true]) w := by
  obtain ⟨f, hf, hg⟩ := h.mp
  have := h.lo _ (List.mem_of_getElem? hj)
  exact hf.yes (s := (x, y)) ⟨by show x ≤ _; omega, by show y ≤ _; omega⟩ ((hg _ _).2 hj)
theorem Td.no {w : World} {q b : Nat} {v : Value} {K : List (Nat × Nat)} (h : Td w q b v K) {x y : Nat} (hxy : x < y) (hy : y ≤ 1099511627776) (hj : ¬ (x, y) ∈ K) : (Instr.lookup 76 (.map (some b)) (.agg #[.int .i64 (x : Int), .int .i64 (y : Int)]) true).run Tryz.prog w = .ok (.tuple #[.int .i64 0, .bool false]) w := by
  obtain ⟨f, hf, hg⟩ := h.mp
  refine hf.not (s := (x, y)) ⟨by show x ≤ _; omega, by show y ≤ _; omega⟩ ?_
  cases e : f (x, y) with
  | none => rfl
  | some j => exact absurd (List.mem_of_getElem? ((hg _ _).1 e)) hj
set_option maxRecDepth 100000 in
set_option maxHeartbeats 4000000 in
theorem canFold_any : ∀ (n x y : Nat), y - x ≤ n → x < y → y ≤ 1099511627776 → ∀ (w : World) {q b : Nat} {v : Value} {K : List (Nat × Nat)}, Td w q b v K →
    Calls Tryz.prog 63 #[.pointer (some ⟨q, 0, none⟩), sg x y] w fun r w' => r = .returned (.bool (can K (x, y))) ∧ Below w.heap.size w w'
  | 0, x, y, hn, hxy, hy, w, q, b, v, K, h => by omega
  | n + 1, x, y, hn, hxy, hy, w, q, b, v, K, h => by
    have S0 := SpI.new w x y
    have b0 := (Below.refl w.heap.size w).alloc (Nat.le_refl _) (.cells #[.int .i64 (x : Int), .int .i64 (y : Int)] 56)
    have T0 := hid (h.below b0)
    have B0 := hid b0
    have D0 := h.below b0.drew
    have i1 := fun w' => ends_any (x : Int) (y : Int) w'
    obtain ⟨B, hB⟩ : ∃ B, Hid (can K (x, y) = B) := ⟨_, rfl⟩
    rw [hB.out]
    by_cases hk : (x, y) ∈ K
    · obtain ⟨j, hj⟩ := List.getElem?_of_mem hk
      have eB : Hid (B = true) := by unfold Hid; rw [← hB.out]; exact can_mem hxy hk
      have HJ := hid hj
      have x0 := And.intro T0.out.c1 (And.intro S0.c0 (And.intro S0.c1 (D0.yes hj)))
      have HS := hid S0
      clear h b0 D0 hj hk hB S0
      go_enter Tryz.func63, Tryz.ntmps63
      go_wp2
      go_region_held3 (fun w' => w'.cell? ⟨q, 1, none⟩ = some (.map (some b)) ∧ w'.cell? ⟨w.heap.size, 0, none⟩ = some (.int .i64 (x : Int)) ∧ w'.cell? ⟨w.heap.size, 1, none⟩ = some (.int .i64 (y : Int)) ∧ (Instr.lookup 76 (.map (some b)) (.agg #[.int .i64 (x : Int), .int .i64 (y : Int)]) true).run Tryz.prog w' = .ok (.tuple #[.int .i64 (j : Int), .bool true]) w') (first | exact x1 | exact x0) (first | (go_at_call 87; refine (i1 _).mono ?_; rintro r w1 ⟨rfl, b1⟩; have b1 := drewBelow8 b1; have B1 := hid (B0.out.trans (b1.mono B0.out.size)); have x1 := And.intro (T0.out.below b1).c1 (And.intro (HS.out.below b1).c0 (And.intro (HS.out.below b1).c1 ((T0.out.below b1).yes HJ.out))); clear b1))
      go_wp2
      go_ret
      exact ⟨by rw [eB.out]; rfl, B1.out⟩
    · have HK := hid hk
      have x0 := And.intro T0.out.c1 (And.intro S0.c0 (And.intro S0.c1 (D0.no hxy hy hk)))
      have HS := hid S0
      by_cases h2 : y - x < 2
      · have eB : Hid (B = false) := by unfold Hid; rw [← hB.out]; exact can_one hxy hk h2
        have e1 : (y : Int) - (x : Int) = 1 := by omega
        have e2 : IntKind.i64.wrap ((y : Int) - (x : Int)) = 1 := by rw [e1]; rfl
        clear h b0 D0 hk hB S0
        go_enter Tryz.func63, Tryz.ntmps63
        go_wp2
        go_region_held3 (fun w' => w'.cell? ⟨q, 1, none⟩ = some (.map (some b)) ∧ w'.cell? ⟨w.heap.size, 0, none⟩ = some (.int .i64 (x : Int)) ∧ w'.cell? ⟨w.heap.size, 1, none⟩ = some (.int .i64 (y : Int)) ∧ (Instr.lookup 76 (.map (some b)) (.agg #[.int .i64 (x : Int), .int .i64 (y : Int)]) true).run Tryz.prog w' = .ok (.tuple #[.int .i64 0, .bool false]) w') (first | exact x1 | exact x0) (first | (go_at_call 87; refine (i1 _).mono ?_; rintro r w1 ⟨rfl, b1⟩; have b1 := drewBelow8 b1; have B1 := hid (B0.out.trans (b1.mono B0.out.size)); have x1 := And.intro (T0.out.below b1).c1 (And.intro (HS.out.below b1).c0 (And.intro (HS.out.below b1).c1 ((T0.out.below b1).no hxy hy HK.out))); clear b1))
        have d0 := x1.2.1
        have d1 := x1.2.2.1
        go_wp2
        go_ret
        exact ⟨by rw [eB.out]; rfl, B1.out⟩
      · obtain ⟨m, hm⟩ : ∃ m, Hid (m = x + Tree.sp (y - x)) := ⟨_, rfl⟩
        have s1 := Tree.sp_lt (n := y - x) (by omega)
        have s2 := Tree.sp_pos (n := y - x) (by omega)
        have hm1 : x < m := by rw [hm.out]; omega
        have hm2 : m < y := by rw [hm.out]; omega
        have eB : Hid (B = (can K (x, m) && can K (m, y))) := by unfold Hid; rw [← hB.out, can_two hxy hk h2, hm.out]
        have e2 : ¬ IntKind.i64.wrap ((y : Int) - (x : Int)) = 1 := by rw [IntKind.wrap_i64]; omega
        have e1 : ¬ (y : Int) - (x : Int) = 1 := by omega
        have i2 := fun w' => partsC_at x y m (by omega) hy hm w'
        have i3 := fun w' (t : Td w' q b v K) => canFold_any n x m (by omega) hm1 (by omega) w' t
        have i4 := fun w' (t : Td w' q b v K) => canFold_any n m y (by omega) hm2 hy w' t
        generalize can K (x, m) = P at *
        generalize can K (m, y) = Q at *
        clear h b0 D0 hk hB S0 hm s1 s2
        go_enter Tryz.func63, Tryz.ntmps63
        go_wp2
        go_region_held3 (fun w' => w'.cell? ⟨q, 1, none⟩ = some (.map (some b)) ∧ w'.cell? ⟨w.heap.size, 0, none⟩ = some (.int .i64 (x : Int)) ∧ w'.cell? ⟨w.heap.size, 1, none⟩ = some (.int .i64 (y : Int)) ∧ (Instr.lookup 76 (.map (some b)) (.agg #[.int .i64 (x : Int), .int .i64 (y : Int)]) true).run Tryz.prog w' = .ok (.tuple #[.int .i64 0, .bool false]) w') (first | exact x1 | exact x0) (first | (go_at_call 87; refine (i1 _).mono ?_; rintro r w1 ⟨rfl, b1⟩; have b1 := drewBelow8 b1; have B1 := hid (B0.out.trans (b1.mono B0.out.size)); have T1 := hid (T0.out.below b1); have S1 := hid (HS.out.below b1); have x1 := And.intro T1.out.c1 (And.intro S1.out.c0 (And.intro S1.out.c1 (T1.out.no hxy hy HK.out))); clear b1))
        have d0 := x1.2.1
        have d1 := x1.2.2.1
        clear x0 x1 T0 HS B0
        cases P with
        | false =>
          go_wp2_with (first
            | (go_at_call 88; refine (i2 _).mono ?_; rintro r w2 ⟨rfl, b2⟩; have T2 := hid (T1.out.below b2); have B2 := hid (B1.out.trans (b2.mono B1.out.size)); have bA := ((Below.refl w2.heap.size w2).alloc (Nat.le_refl _) (.cells #[.int .i64 (x : Int), .int .i64 (m : Int)] 56)).alloc (by simp) (.cells #[.int .i64 (m : Int), .int .i64 (y : Int)] 56); have TA := hid (T2.out.below bA); have BA := hid (B2.out.trans (bA.mono B2.out.size)); clear b2 bA)
            | (go_at_call 63; refine (i3 _ TA.out).mono ?_; rintro r w3 ⟨rfl, b3⟩; have B3 := hid (BA.out.trans (b3.mono BA.out.size)); clear b3))
          go_ret
          exact ⟨by rw [eB.out]; rfl, B3.out⟩
        | true =>
          go_wp2_with (first
            | (go_at_call 88; refine (i2 _).mono ?_; rintro r w2 ⟨rfl, b2⟩; have T2 := hid (T1.out.below b2); have B2 := hid (B1.out.trans (b2.mono B1.out.size)); have bA := ((Below.refl w2.heap.size w2).alloc (Nat.le_refl _) (.cells #[.int .i64 (x : Int), .int .i64 (m : Int)] 56)).alloc (by simp) (.cells #[.int .i64 (m : Int), .int .i64 (y : Int)] 56); have TA := hid (T2.out.below bA); have BA := hid (B2.out.trans (bA.mono B2.out.size)); have RA := SpI.new (w2.alloc (.cells #[.int .i64 (x : Int), .int .i64 (m : Int)] 56)) (m : Int) (y : Int); rw [size_alloc] at RA; have RA := hid RA; clear b2 bA)
            | (go_at_call 63; (with_reducible refine (i3 _ TA.out).mono ?_); rintro r w3 ⟨rfl, b3⟩; have B3 := hid (BA.out.trans (b3.mono BA.out.size)); have T3 := hid (TA.out.below b3); have R3 := RA.out.below b3; have r0 := R3.c0; have r1 := R3.c1; clear b3 R3 i3)
            | (go_at_call 63; (with_reducible refine (i4 _ T3.out).mono ?_); rintro r w4 ⟨rfl, b4⟩; have B4 := hid (B3.out.trans (b4.mono B3.out.size)); clear b4))
          go_ret
          exact ⟨by rw [eB.out]; cases Q <;> rfl, B4.out⟩
end Chn
end Go.Proofs.YtenklmjeeejfdaaGreatDoor

namespace Go.Proofs.YtenklmjeeejfdaaGreatDoor
open Go.RowKit Go.Shelf
def Tnd (L M : List (Nat × Nat)) (i : Nat) : Prop := M.length = L.length ∧ ∀ k, k < L.length → M[k]? = if k < i ∨ L.length ≤ k + i then L[L.length - 1 - k]? else L[k]?
theorem Tnd.start (L : List (Nat × Nat)) : Tnd L L 0 := ⟨rfl, fun k hk => by rw [if_neg (by omega)]⟩
theorem Tnd.done {L M : List (Nat × Nat)} {i : Nat} (h : Tnd L M i) (hi : L.length ≤ 2 * i + 1) : M = L.reverse := by
  refine List.ext_getElem? fun k => ?_
  by_cases hk : k < L.length
  · rw [h.2 k hk, List.getElem?_reverse hk]
    by_cases h2 : k < i ∨ L.length ≤ k + i
    · rw [if_pos h2]
    · rw [if_neg h2, show L.length - 1 - k = k by omega]
  · rw [List.getElem?_eq_none (by rw [h.1]; omega), List.getElem?_eq_none (by rw [List.length_reverse]; omega)]
theorem Tnd.step {L M : List (Nat × Nat)} {i : Nat} (h : Tnd L M i) (hi : 2 * i + 1 < L.length) {p q : Nat × Nat} (hp : M[i]? = some p) (hq : M[L.length - 1 - i]? = some q) : Tnd L ((M.set i q).set (L.length - 1 - i) p) (i + 1) := by
  have h1 := h.2 i (by omega)
  have h2 := h.2 (L.length - 1 - i) (by omega)
  rw [if_neg (by omega), hp] at h1
  rw [if_neg (by omega), hq] at h2
  refine ⟨by rw [List.length_set, List.length_set, h.1], fun k hk => ?_⟩
  by_cases e1 : k = L.length - 1 - i
  · rw [if_pos (by omega), e1, List.getElem?_set_self (by rw [List.length_set, h.1]; omega), h1, show L.length - 1 - (L.length - 1 - i) = i by omega]
  · rw [List.getElem?_set_ne (by omega)]
    by_cases e2 : k = i
    · rw [if_pos (by omega), e2, List.getElem?_set_self (by rw [h.1]; omega), h2]
    · rw [List.getElem?_set_ne (by omega), h.2 k hk]
      by_cases e3 : k < i ∨ L.length ≤ k + i
      · rw [if_pos e3, if_pos (by omega)]
      · rw [if_neg e3, if_neg (by omega)]
theorem prs_set : ∀ (l : List (Nat × Nat)) (j : Nat) (x y : Nat), prs (l.set j (x, y)) = ((prs l).set (j * 2) (.int .i64 (x : Int))).set (j * 2 + 1) (.int .i64 (y : Int))
  | [], j, x, y => by simp [prs]
  | a :: l, 0, x, y => rfl
  | a :: l, j + 1, x, y => by
    have ih := prs_set l j x y
    rw [show (j + 1) * 2 = j * 2 + 1 + 1 from by omega]
    show _ :: _ :: prs (l.set j (x, y)) = _
    rw [ih]; rfl
theorem OwnM.setC {w : World} {g n c m : Nat} {cs : List Value} (h : OwnM m w (.slice (some ⟨g, 0, none⟩) n c) n cs) (j : Nat) (v : Value) (hj : j < cs.length) : OwnM m (w.setCell ⟨g, j, none⟩ v) (.slice (some ⟨g, 0, none⟩) n c) n (cs.set j v) := by
  rcases h with ⟨h, _⟩ | ⟨g', cap', h, h2, h3, h0, h4, h5, h6⟩
  · cases h
  · injection h with e1 e2 e3
    injection e1 with e1
    injection e1 with e1
    subst e1 e3
    refine .inr ⟨g, c, rfl, h2, h3, by rw [List.length_set]; exact h0, fun k u hk => ?_, fun k hk => ?_, by rw [show (w.setCell ⟨g, j, none⟩ v).heap.size = w.heap.size from by simp [World.setCell]]; exact h6⟩
    · rw [Nat.zero_add]
      by_cases e : k = j
      · subst e
        rw [List.getElem?_set_self hj] at hk
        injection hk with hk
        subst hk
        have := h4 k (cs[k]'hj) (by simp)
        rw [Nat.zero_add] at this
        exact World.cell?_setCell_same' _ _ _ (by rw [this]; rfl)
      · rw [List.getElem?_set_ne (by omega)] at hk
        have := h4 k u hk
        rw [Nat.zero_add] at this
        rw [World.cell?_setCell_other w _ _ _ (fun q => e (by injection q with _ q; exact q.symm))]
        exact this
    · have := h5 k hk
      refine ⟨?_, ?_⟩
      · by_cases e : 0 + k = j
        · rw [e] at this ⊢
          rw [World.cell?_setCell_same' w ⟨g, j, none⟩ v this.1]; rfl
        · rw [World.cell?_setCell_other w _ _ _ (fun q => e (by injection q with _ q; exact q.symm))]
          exact this.1
      · rw [World.frozen?_setCell]; exact this.2
end Go.Proofs.YtenklmjeeejfdaaGreatDoor

namespace Go.Proofs.YtenklmjeeejfdaaGreatDoor
open Go.RowKit Go.Shelf
theorem getD_of {l : List (Nat × Nat)} {k : Nat} (h : k < l.length) : ∃ x y, l[k]? = some (x, y) := ⟨(l[k]'h).1, (l[k]'h).2, by rw [List.getElem?_eq_getElem h]⟩
set_option maxRecDepth 100000 in
set_option maxHeartbeats 8000000 in
theorem rev_any (L : List (Nat × Nat)) (v : Value) (w : World) (h : OwnP w v L) (hl : L.length ≤ 1099511627776) :
    Calls Tryz.prog 104 #[v] w fun r w' => r = .returned (.tuple #[]) ∧ OwnP w' v L.reverse ∧ Keep (fun k => v.ownBlock = some k) w w' := by
  obtain ⟨a, c, rfl, hc1, hc2⟩ := h.shape
  obtain ⟨n, hn⟩ : ∃ n, Hid (L.length = n) := ⟨_, rfl⟩
  rw [hn.out] at hc1 hl
  have hO := hid h
  unfold Hid OwnP at hO
  rw [hn.out] at hO ⊢
  have hO : Hid (OwnM 2 w (.slice a n c) n (prs L)) := hO
  clear h
  go_enter Tryz.func104, Tryz.ntmps104
  go_wp2
  go_loopw [2, 3] (fun vi vj wr => ∃ (i : Nat) (M : List (Nat × Nat)), vi = .int .i64 (i : Int) ∧ vj = .int .i64 ((n : Int) - 1 - (i : Int)) ∧ (i : Int) ≤ (n : Int) ∧ Hid (Tnd L M i) ∧ Hid (OwnM 2 wr (.slice a n c) n (prs M)) ∧ Hid (Keep (fun k => (Value.slice a n c).ownBlock = some k) w wr)) (fun vi _ _ => n - (intOf vi).toNat)
  case atStart =>
    exact ⟨0, L, rfl, by go_num, by omega, Tnd.start L, hO, Keep.refl _ _⟩
  case round =>
    clear hO
    obtain ⟨i, M, rfl, rfl, hi, hT, hO, hK⟩ := hrel
    by_cases hij : (i : Int) < (n : Int) - 1 - (i : Int)
    · have hT1 := hT.out.1
      rw [hn.out] at hT1
      obtain ⟨j, hj⟩ : ∃ j : Nat, (n : Int) - 1 - (i : Int) = (j : Int) := ⟨n - 1 - i, by omega⟩
      rw [hj] at hij ⊢
      obtain ⟨p1, p2, hp⟩ := getD_of (l := M) (k := i) (by omega)
      obtain ⟨q1, q2, hq⟩ := getD_of (l := M) (k := j) (by omega)
      obtain ⟨g, c', e1, ci0, _⟩ := hO.out.cell (prs_get hp).1
      injection e1 with e1 _ e3
      subst e1 e3
      have cellOf : ∀ {k : Nat} {u : Value}, (prs M)[k]? = some u → wr.cell? ⟨g, k, none⟩ = some u ∧ wr.frozen? ⟨g, k, none⟩ = false := fun {k u} hk => by
        rcases hO.out with ⟨h, _⟩ | ⟨g', cap', h, h2, h3, h0, h4, h5, h6⟩
        · cases h
        · injection h with e1 e2 e3
          injection e1 with e1
          injection e1 with e1
          subst e1 e3
          have a1 := h4 k u hk
          have a2 := h5 k (by have := (List.getElem?_eq_some_iff.1 hk).1; omega)
          rw [Nat.zero_add] at a1 a2
          exact ⟨a1, a2.2⟩
      have x0 := (cellOf (prs_get hp).1).1
      have x1 := (cellOf (prs_get hp).2).1
      have y0 := (cellOf (prs_get hq).1).1
      have y1 := (cellOf (prs_get hq).2).1
      have fx0 := (cellOf (prs_get hp).1).2
      have fx1 := (cellOf (prs_get hp).2).2
      have fy0 := (cellOf (prs_get hq).1).2
      have fy1 := (cellOf (prs_get hq).2).2
      have x0d : wr.drew.cell? ⟨g, i * 2, none⟩ = _ := x0
      have x1d : wr.drew.cell? ⟨g, i * 2 + 1, none⟩ = _ := x1
      have y0d : wr.drew.cell? ⟨g, j * 2, none⟩ = _ := y0
      have y1d : wr.drew.cell? ⟨g, j * 2 + 1, none⟩ = _ := y1
      have i0 : (0 : Int) ≤ (i : Int) := by omega
      have i1 : (i : Int) < (n : Int) := by omega
      have j0 : (0 : Int) ≤ (j : Int) := by omega
      have j1 : (j : Int) < (n : Int) := by omega
      have nij : ¬ i = j := by omega
      have nji : ¬ j = i := by omega
      clear cellOf hT1
      go_wp2
      go_region
      have O2 : Hid (OwnM 2 (((((wr.setCell ⟨g, i * 2, none⟩ (.int .i64 (q1 : Int))).setCell ⟨g, i * 2 + 1, none⟩ (.int .i64 (q2 : Int))).setCell ⟨g, j * 2, none⟩ (.int .i64 (p1 : Int))).setCell ⟨g, j * 2 + 1, none⟩ (.int .i64 (p2 : Int))).drew) (.slice (some ⟨g, 0, none⟩) n c) n (prs ((M.set i (q1, q2)).set j (p1, p2)))) := by
        have hpl : (prs M).length = n * 2 := by have := hO.out.len; exact this
        unfold Hid
        rw [prs_set, prs_set]
        exact ((((hO.out.setC (i * 2) _ (by omega)).setC (i * 2 + 1) _ (by rw [List.length_set]; omega)).setC (j * 2) _ (by rw [List.length_set, List.length_set]; omega)).setC (j * 2 + 1) _ (by rw [List.length_set, List.length_set, List.length_set]; omega))
      have K2 : Hid (Keep (fun k => (Value.slice (some ⟨g, 0, none⟩) n c).ownBlock = some k) w (((((wr.setCell ⟨g, i * 2, none⟩ (.int .i64 (q1 : Int))).setCell ⟨g, i * 2 + 1, none⟩ (.int .i64 (q2 : Int))).setCell ⟨g, j * 2, none⟩ (.int .i64 (p1 : Int))).setCell ⟨g, j * 2 + 1, none⟩ (.int .i64 (p2 : Int))).drew)) := by
        have k1 : ∀ (W : World) (o : Nat) (u : Value), Keep (fun k => (Value.slice (some ⟨g, 0, none⟩) n c).ownBlock = some k) W (W.setCell ⟨g, o, none⟩ u) := fun W o u => Keep.ofSet W g o u rfl
        have k2 := (((hK.out.trans (k1 _ (i * 2) (.int .i64 (q1 : Int))) fun _ _ h => h).trans (k1 _ (i * 2 + 1) (.int .i64 (q2 : Int))) fun _ _ h => h).trans (k1 _ (j * 2) (.int .i64 (p1 : Int))) fun _ _ h => h).trans (k1 _ (j * 2 + 1) (.int .i64 (p2 : Int))) fun _ _ h => h
        exact ⟨k2.os, k2.tape, k2.output, k2.size, k2.block⟩
      have T2 : Hid (Tnd L ((M.set i (q1, q2)).set j (p1, p2)) (i + 1)) := by
        have e : L.length - 1 - i = j := by rw [hn.out]; omega
        have := hT.out.step (p := (p1, p2)) (q := (q1, q2)) (by rw [hn.out]; omega) hp (by rw [e]; exact hq)
        rw [e] at this
        exact this
      clear x0 x1 y0 y1 fx0 fx1 fy0 fy1 x0d x1d y0d y1d ci0 hO hT hK
      generalize ((((wr.setCell ⟨g, i * 2, none⟩ (.int .i64 (q1 : Int))).setCell ⟨g, i * 2 + 1, none⟩ (.int .i64 (q2 : Int))).setCell ⟨g, j * 2, none⟩ (.int .i64 (p1 : Int))).setCell ⟨g, j * 2 + 1, none⟩ (.int .i64 (p2 : Int))).drew = w2 at *
      go_wp2
      exact ⟨⟨i + 1, _, by go_num, by go_num, by omega, T2, O2, K2⟩, by simp [intOf]; omega⟩
    · go_wp2
      go_end0
      have e := hT.out.done (by rw [hn.out]; omega)
      subst e
      refine ⟨rfl, ?_, hK.out⟩
      unfold OwnP
      rw [List.length_reverse, hn.out]
      exact hO.out
end Go.Proofs.YtenklmjeeejfdaaGreatDoor

namespace Go.Proofs.YtenklmjeeejfdaaGreatDoor
open Go.RowKit
def OnlyN (Q : Exit → Act → World → Prop) : Exit → Act → World → Prop
  | .normal, a, w => Q .normal a w
  | _, _, _ => False
theorem OnlyN.out {Q : Exit → Act → World → Prop} : ¬ LetsOut (OnlyN Q) := fun ⟨_, _, h⟩ => h
theorem oper_in {l n : Nat} {P : Program} {o : Oper} {a : Act} {w : World} {K : Act → World → Prop} {Q : Exit → Act → World → Prop} (hd : ∀ c, o.op ≠ .defer c)
    (h : o.wp P a w K (OnlyN Q)) : o.wpIn (Fence.wide.inRound l) n P a w K Q := by
  refine ⟨fun _ _ => trivial, ?_⟩
  have e : o.semAt (Fence.wide.inRound l).round a.eval = execOp a.eval o := Oper.semAt_eq _ _ _ hd
  rw [e]
  unfold Oper.wp at h
  generalize (execOp a.eval o).run P w = r at *
  cases r with
  | ok x w' =>
    cases x <;> simp only [Oper.upon, Oper.uponIn] at h ⊢
    case value v => exact h
    case skip => exact h
    case defer d => exact h
    case enter f args =>
      refine ⟨fun h => (by cases h), CallsIn.inRound l ((callsIn_wide.2 h).mono fun e w'' he => ?_)⟩
      cases e with
      | returned v => exact he
      | panicked c => exact he.elim
      | outgrown => exact (OnlyN.out he).elim
    case row row args =>
      refine ⟨fun h => (by cases h), fun c cs _ => ?_⟩
      obtain ⟨v, w'', hv, hs⟩ := h c cs
      exact ⟨v, w'', hv, stepsIn_wide.2 hs⟩
  | halt x w' =>
    cases x <;> simp only [Oper.upon, Oper.uponIn] at h ⊢
    exact h.elim
theorem wpOp_in {l n : Nat} {P : Program} {ops : Array Oper} {i : Nat} {a : Act} {w : World} {K : Act → World → Prop} {Q : Exit → Act → World → Prop} (hd : ∀ (j : Nat) (o : Oper) c, ops[j]? = some o → o.op ≠ .defer c)
    (h : wpOp P ops (OnlyN Q) i K a w) : wpOpIn (Fence.wide.inRound l) n P ops Q i K a w := by
  unfold wpOp at h
  unfold wpOpIn
  cases ho : ops[i]? with
  | none => rw [ho] at h; exact h
  | some o =>
    simp only [ho] at h ⊢
    split
    · rename_i hw
      simp only [hw, if_true] at h
      rcases h with h | ⟨_, h⟩
      · exact oper_in (fun c => hd i o c ho) h
      · exact (OnlyN.out h).elim
    · rename_i hw
      simp only [hw] at h
      exact ⟨fun _ _ => trivial, h⟩
theorem wpAny_in {l n : Nat} {P : Program} {ops : Array Oper} {md : Region.Mode} {Q : Exit → Act → World → Prop} (hd : ∀ (j : Nat) (o : Oper) c, ops[j]? = some o → o.op ≠ .defer c) :
    ∀ (fuel : Nat) (listed : Array Bool) (a : Act) (w : World), wpAny P md ops (OnlyN Q) fuel listed a w → wpAnyIn (Fence.wide.inRound l) n P md ops Q fuel listed a w
  | 0, _, _, _, h => h
  | fuel + 1, _, _, _, h => ⟨h.1, fun i hi => wpOp_in hd (wpOp_mono (fun a w h => wpAny_in hd fuel _ a w h) (h.2 i hi))⟩
theorem round_held {l n id : Nat} {P : Program} {ops : Array Oper} {Q : Exit → Act → World → Prop} {S : World → Prop} {a : Act} {w : World} (hm : P.follows .mixedOrders = true)
    (hd : ∀ (j : Nat) (o : Oper) c, ops[j]? = some o → o.op ≠ .defer c) (hS : S w.drew)
    (h : S w.drew → wpAnyH P .any ops (OnlyN Q) S ops.size (Array.replicate ops.size false) a w.drew) : (Code.region id ops true).wpIn (Fence.wide.inRound l) n P Q a w :=
  wpIn_region_any hm (wpAny_in hd _ _ _ _ (wpAny_of_held _ _ _ _ (h hS)))
theorem noDefer {ops : Array Oper} (h : (ops.toList.all fun o => match o.op with | .defer _ => false | _ => true) = true) : ∀ (j : Nat) (o : Oper) c, ops[j]? = some o → o.op ≠ .defer c := fun j o c hj he => by
  have hm : o ∈ ops.toList := by
    rw [Array.mem_toList_iff]
    exact Array.mem_of_getElem? hj
  have := List.all_eq_true.1 h o hm
  rw [he] at this
  cases this
theorem wpListIn_append_run {F : Fence} {n : Nat} {P : Program} {ops : Array Oper} {rest : List Oper} {o : Oper} {a : Act} {w : World} {Q : Exit → Act → World → Prop}
    (hg : o.guard = none) (s x : Operand) (t : TypeId) (hop : o.op = Op.call { callee := Callee.builtin Builtin.append, args := #[s, x], argTypes := #[t, t] })
    (v1 v2 v' : Value) (w' : World) (hs : a.eval s = v1) (hx : a.eval x = v2) (hrun : (Builtin.append_ #[t, t] o.type #[v1, v2]).run P w = .ok v' w') (hK : wpListIn F n P ops Q rest (a.put o.dst v') w') :
    wpListIn F n P ops Q (o :: rest) a w := by
  refine wpListIn_plain hg fun K hK' => ?_
  unfold Oper.wpIn
  refine ⟨?_, ?_⟩
  · simp [Oper.about, hop, resolve, Target.leads, Sem.run_pure]
  · rw [Oper.semAt_plain F _ _ (by rw [hop]; intro c hc'; cases hc')]
    simp [execOp, hop, resolve, invoke, builtin, hs, hx, hrun, Result.andThen]
    exact hK' _ _ hK
end Go.Proofs.YtenklmjeeejfdaaGreatDoor

namespace Go.Proofs.YtenklmjeeejfdaaGreatDoor
open Go.RowKit Go.Shelf
attribute [local go_sem] Oper.semAt_some
theorem ownM_sl {m : Nat} {w : World} {v : Value} {n : Nat} {cs : List Value} (h : OwnM m w v n cs) : ∃ a k c, v = .slice a k c := by
  obtain ⟨a, c, rfl, _⟩ := h.shape
  exact ⟨a, n, c, rfl⟩
def SpP (w : World) (c : Int) (L : List (Nat × Nat)) (r : Ending) (w' : World) : Prop :=
  Below w.heap.size w w' ∧ ∃ v, r = .returned (.tuple #[v, .int .i64 c]) ∧ OwnP w' v L ∧ ∀ k, v.ownBlock = some k → w.heap.size ≤ k
structure PthI (gi gb : Nat) (i : Int) (F : Nat → Prop) (L : List (Nat × Nat)) (v : Value) (W : World) : Prop where
  F : F = fun k => k = gi ∨ Col.F gb v k
  bi : Boxed W gi 3 (.int .i64 i)
  col : Col W gb 36 v L
  ne : v.ownBlock ≠ some gi
theorem PthI.keep {gi gb : Nat} {i : Int} {F : Nat → Prop} {L : List (Nat × Nat)} {v : Value} {W W' : World} {S : Nat → Prop} (h : PthI gi gb i F L v W) (hk : Keep S W W') (hs : ∀ k, F k → ¬ S k) : PthI gi gb i F L v W' := by
  have hF := h.F
  subst hF
  exact ⟨rfl, h.bi.keepF hk (hs _ (.inl rfl)), h.col.keep hk fun k e => hs k (.inr e), h.ne⟩
theorem PthI.below {gi gb : Nat} {i : Int} {F : Nat → Prop} {L : List (Nat × Nat)} {v : Value} {W W' : World} (h : PthI gi gb i F L v W) (hk : Below W.heap.size W W') : PthI gi gb i F L v W' := h.keep (Keep.ofBelow (S := fun _ => False) hk) fun _ _ e => e
theorem PthI.lt {gi gb : Nat} {i : Int} {F : Nat → Prop} {L : List (Nat × Nat)} {v : Value} {W : World} (h : PthI gi gb i F L v W) : ∀ k, F k → k < W.heap.size := by
  have hF := h.F
  subst hF
  rintro k (rfl | e)
  · exact h.bi.lt
  · exact h.col.lt k e
theorem PthI.push {gi gb : Nat} {i : Int} {F : Nat → Prop} {L L' : List (Nat × Nat)} {v v' : Value} {W w' : World} (h : PthI gi gb i F L v W) (hgb : gi ≠ gb) (h1 : OwnP w' v' L') (g : Grow W w' v v') :
    Boxed w' gb 36 v ∧ PthI gi gb i (fun k => k = gi ∨ Col.F gb v' k) L' v' (w'.setCell ⟨gb, 0, none⟩ v') ∧ Mvs F W (w'.setCell ⟨gb, 0, none⟩ v') (fun k => k = gi ∨ Col.F gb v' k) := by
  obtain ⟨b1, c1, m1⟩ := h.col.push h1 g
  have hne : v'.ownBlock ≠ some gi := fun e => by
    rcases m1.new gi (.inr e) with (q | q) | q
    · exact hgb q
    · exact h.ne q
    · have := h.bi.lt; omega
  have hF := h.F
  subst hF
  refine ⟨b1, ⟨rfl, ?_, c1, hne⟩, m1.keep.mono fun k _ e => .inr e, ?_⟩
  · refine h.bi.keepF m1.keep fun e => ?_
    rcases e with e | e
    · exact hgb e
    · exact h.ne e
  · rintro k (e | e)
    · exact .inl (.inl e)
    · rcases m1.new k e with q | q
      · exact .inl (.inr q)
      · exact .inr q
end Go.Proofs.YtenklmjeeejfdaaGreatDoor
