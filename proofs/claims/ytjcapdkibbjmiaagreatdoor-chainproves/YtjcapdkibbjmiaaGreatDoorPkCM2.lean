import Derived.Test.YtjcapdkibbjmiaaGreatDoorPkTL1
import Derived.Maps.Keyed
import Derived.DeepKeys4
import Derived.WideKeyEntry
import Derived.Test.YtjcapdkibbjmiaaGreatDoorPkO51
import Derived.Test.YtjcapdkibbjmiaaGreatDoorPkO3
import Derived.Test.YtjcapdkibbjmiaaGreatDoorPkFR1
namespace Go.Proofs.YtjcapdkibbjmiaaGreatDoor
namespace Chn
def tell (K : List (Nat × Nat)) (s : Nat × Nat) : List (Nat × Nat) := if can K s = true then K else K ++ [s]
def tells (K : List (Nat × Nat)) (L : List (Nat × Nat)) : List (Nat × Nat) := L.foldl tell K
def prf (a b : Nat) : List (Nat × Nat) := Tree.prfF b 0 b a
def tol (hs : List Nat) : Nat → List (Nat × Nat)
  | 0 => []
  | i + 1 => tells (tol hs i) (prf (hs.getD i 0) (hs.getD (i + 1) 0))
def allP (hs : List Nat) : Nat → List (Nat × Nat)
  | 0 => []
  | i + 1 => allP hs i ++ prf (hs.getD i 0) (hs.getD (i + 1) 0)
def Tld (K : List (Nat × Nat)) : Prop := ∀ (j : Nat) (s : Nat × Nat), K[j]? = some s → can (K.take j) s = false
theorem tells_snoc (K L : List (Nat × Nat)) (s : Nat × Nat) : tells K (L ++ [s]) = tell (tells K L) s := by unfold tells; rw [List.foldl_append]; rfl
theorem tells_next {K L : List (Nat × Nat)} {k : Nat} {s : Nat × Nat} (h : L[k]? = some s) : tells K (L.take (k + 1)) = tell (tells K (L.take k)) s := by
  rw [List.take_add_one, h]
  exact tells_snoc K _ s
theorem Tld.snoc {K : List (Nat × Nat)} {s : Nat × Nat} (h : Tld K) (hs : can K s = false) : Tld (K ++ [s]) := fun j t ht => by
  by_cases hj : j < K.length
  · rw [List.getElem?_append_left hj] at ht
    rw [List.take_append_of_le_length (by omega)]
    exact h j t ht
  · obtain rfl : j = K.length := by
      have := (List.getElem?_eq_some_iff.1 ht).1
      simp at this
      omega
    rw [List.getElem?_append_right (Nat.le_refl _), Nat.sub_self] at ht
    obtain rfl : s = t := by simpa using ht
    rw [List.take_left]
    exact hs
theorem Tld.tell {K : List (Nat × Nat)} (h : Tld K) (s : Nat × Nat) : Tld (tell K s) := by
  unfold Chn.tell
  cases hc : can K s with
  | true => exact h
  | false => rw [if_neg (by simp)]; exact h.snoc hc
theorem tell_pre (K : List (Nat × Nat)) (s : Nat × Nat) : ∃ E, tell K s = K ++ E := by
  unfold tell
  split
  · exact ⟨[], by simp⟩
  · exact ⟨[s], rfl⟩
theorem tells_pre : ∀ (L K : List (Nat × Nat)), ∃ E, tells K L = K ++ E
  | [], K => ⟨[], by simp [tells]⟩
  | s :: L, K => by
    obtain ⟨E, hE⟩ := tell_pre K s
    obtain ⟨E', hE'⟩ := tells_pre L (tell K s)
    refine ⟨E ++ E', ?_⟩
    have : tells K (s :: L) = tells (tell K s) L := rfl
    rw [this, hE', hE, List.append_assoc]
theorem Tld.tells : ∀ (L : List (Nat × Nat)) {K : List (Nat × Nat)}, Tld K → Tld (tells K L)
  | [], _, h => h
  | s :: L, _, h => Tld.tells L (h.tell s)
theorem tol_tld (hs : List Nat) : ∀ i, Tld (tol hs i)
  | 0 => fun j s h => by cases h
  | i + 1 => (tol_tld hs i).tells _
theorem tol_pre (hs : List Nat) (i : Nat) : ∀ d, ∃ E, tol hs (i + d) = tol hs i ++ E
  | 0 => ⟨[], by simp⟩
  | d + 1 => by
    obtain ⟨E, hE⟩ := tol_pre hs i d
    obtain ⟨E', hE'⟩ := tells_pre (prf (hs.getD (i + d) 0) (hs.getD (i + d + 1) 0)) (tol hs (i + d))
    refine ⟨E ++ E', ?_⟩
    show tells (tol hs (i + d)) (prf (hs.getD (i + d) 0) (hs.getD (i + d + 1) 0)) = _
    rw [hE', hE, List.append_assoc]
theorem Tld.nodup {K : List (Nat × Nat)} (h : Tld K) (hlo : ∀ s ∈ K, s.1 < s.2) : K.Nodup := by
  rw [List.Nodup, List.pairwise_iff_getElem]
  intro i j hi hj hij e
  have h1 := h j _ (List.getElem?_eq_getElem hj)
  have := can_mem (K := K.take j) (x := K[j].1) (y := K[j].2) (hlo _ (List.getElem_mem hj)) (by
    show K[j] ∈ K.take j
    rw [← e]
    refine List.mem_of_getElem? (i := i) ?_
    rw [List.getElem?_take, if_pos hij, List.getElem?_eq_getElem hi])
  rw [show can (K.take j) K[j] = true from this] at h1
  cases h1
theorem tell_can {K : List (Nat × Nat)} {s : Nat × Nat} (h : s.1 < s.2) : can (tell K s) s = true := by
  unfold tell
  split
  · assumption
  · exact can_mem h (List.mem_append.2 (.inr List.mem_cons_self))
theorem tells_can : ∀ (L K : List (Nat × Nat)), (∀ s ∈ L, s.1 < s.2) → ∀ s ∈ L, can (tells K L) s = true
  | [], _, _, s, h => by cases h
  | t :: L, K, hl, s, hs => by
    show can (tells (tell K t) L) s = true
    rcases List.mem_cons.1 hs with rfl | hs
    · obtain ⟨E, hE⟩ := tells_pre L (tell K s)
      rw [hE]
      exact can_mono (fun s hs => List.mem_append.2 (.inl hs)) (hl s List.mem_cons_self) (tell_can (hl s List.mem_cons_self))
    · exact tells_can L _ (fun s hs => hl s (List.mem_cons_of_mem _ hs)) s hs
theorem tells_sub : ∀ (L K : List (Nat × Nat)), ∀ s ∈ tells K L, s ∈ K ∨ s ∈ L
  | [], K, s, h => .inl h
  | t :: L, K, s, h => by
    rcases tells_sub L (tell K t) s h with h | h
    · unfold tell at h
      split at h
      · exact .inl h
      · rcases List.mem_append.1 h with h | h
        · exact .inl h
        · rw [List.mem_singleton.1 h]; exact .inr List.mem_cons_self
    · exact .inr (List.mem_cons_of_mem _ h)
theorem tol_sub (hs : List Nat) : ∀ i, ∀ s ∈ tol hs i, s ∈ allP hs i
  | 0, s, h => by cases h
  | i + 1, s, h => by
    rcases tells_sub _ _ s h with h | h
    · exact List.mem_append.2 (.inl (tol_sub hs i s h))
    · exact List.mem_append.2 (.inr h)
theorem tells_len : ∀ (L K : List (Nat × Nat)), (tells K L).length ≤ K.length + L.length
  | [], K => by simp [tells]
  | t :: L, K => by
    have h1 := tells_len L (tell K t)
    have h2 : (tell K t).length ≤ K.length + 1 := by unfold tell; split <;> simp
    have : tells K (t :: L) = tells (tell K t) L := rfl
    rw [this, List.length_cons]
    omega
theorem tol_len (hs : List Nat) : ∀ i, (tol hs i).length ≤ (allP hs i).length
  | 0 => Nat.le_refl _
  | i + 1 => by
    have := tol_len hs i
    have := tells_len (prf (hs.getD i 0) (hs.getD (i + 1) 0)) (tol hs i)
    rw [tol, allP, List.length_append]
    omega
structure Hds (hs : List Nat) : Prop where
  ne : 1 ≤ hs.length
  le : hs.length ≤ 64
  up : ∀ (i a b : Nat), hs[i]? = some a → hs[i + 1]? = some b → a < b
  lo : ∀ (i a : Nat), hs[i]? = some a → 1 ≤ a ∧ a ≤ 1099511627776
theorem getD_at {hs : List Nat} {i : Nat} (h : i < hs.length) : hs[i]? = some (hs.getD i 0) := by rw [List.getD_eq_getElem?_getD, List.getElem?_eq_getElem h]; rfl
theorem Hds.pair {hs : List Nat} (h : Hds hs) {i : Nat} (hi : i + 1 < hs.length) : 1 ≤ hs.getD i 0 ∧ hs.getD i 0 < hs.getD (i + 1) 0 ∧ hs.getD (i + 1) 0 ≤ 1099511627776 := by
  have e1 := getD_at (hs := hs) (i := i) (by omega)
  have e2 := getD_at hi
  exact ⟨(h.lo _ _ e1).1, h.up _ _ _ e1 e2, (h.lo _ _ e2).2⟩
theorem prf_ins : ∀ (f b n m : Nat), n ≤ f → 1 ≤ n → b < m → m ≤ b + n → ∀ s ∈ Tree.prfF f b n m, Tree.insF f b n s.1 s.2 = true
  | 0, b, n, m, h, h1, _, _, s, hs => by omega
  | f + 1, b, n, m, hf, h1, hm, hm2, s, h => by
    rw [Tree.prfF] at h
    by_cases h2 : b + n = m
    · rw [if_pos h2] at h
      by_cases hb : b = 0
      · rw [if_pos hb] at h; cases h
      · rw [if_neg hb] at h
        obtain rfl := List.mem_singleton.1 h
        exact Tree.insF_self
    · rw [if_neg h2] at h
      have s1 := Tree.sp_lt (n := n) (by omega)
      have s2 := Tree.sp_pos (n := n) (by omega)
      obtain ⟨f', rfl⟩ : ∃ f', f = f' + 1 := ⟨f - 1, by omega⟩
      by_cases hi : m ≤ b + Tree.sp n
      · rw [if_pos hi] at h
        rcases List.mem_append.1 h with h | h
        · have e := prf_ins (f' + 1) b (Tree.sp n) m (by omega) (by omega) hm hi s h
          have := Tree.insF_in _ _ _ _ _ e (by omega)
          rw [Tree.insF, if_neg (by omega), if_neg (by omega), if_pos (by omega)]
          exact e
        · obtain rfl := List.mem_singleton.1 h
          show Tree.insF (f' + 1 + 1) b n (b + Tree.sp n) (b + n) = true
          rw [Tree.insF, if_neg (by omega), if_neg (by omega), if_neg (by omega), if_pos (by omega), show b + n = b + Tree.sp n + (n - Tree.sp n) by omega]
          exact Tree.insF_self
      · rw [if_neg hi] at h
        rcases List.mem_append.1 h with h | h
        · have e := prf_ins (f' + 1) (b + Tree.sp n) (n - Tree.sp n) m (by omega) (by omega) (by omega) (by omega) s h
          have := Tree.insF_in _ _ _ _ _ e (by omega)
          rw [Tree.insF, if_neg (by omega), if_neg (by omega), if_neg (by omega), if_pos (by omega)]
          exact e
        · obtain rfl := List.mem_singleton.1 h
          show Tree.insF (f' + 1 + 1) b n b (b + Tree.sp n) = true
          rw [Tree.insF, if_neg (by omega), if_neg (by omega), if_pos (by omega)]
          exact Tree.insF_self
theorem prf_short : ∀ (k f b n m : Nat), n ≤ 2 ^ k → 1 ≤ n → b < m → m ≤ b + n → (Tree.prfF f b n m).length ≤ k + 1
  | k, 0, b, n, m, _, _, _, _ => by simp [Tree.prfF]
  | 0, f + 1, b, n, m, h, h1, hm, hm2 => by
    rw [Tree.prfF, if_pos (by omega)]
    split <;> simp
  | k + 1, f + 1, b, n, m, h, h1, hm, hm2 => by
    rw [Tree.prfF]
    split
    · split <;> simp
    · have s1 := Tree.sp_lt (n := n) (by omega)
      have s2 := Tree.sp_pos (n := n) (by omega)
      have s3 := Tree.sp_ge (n := n) (by omega)
      have s4 : Tree.sp n ≤ 2 ^ k := by
        rw [Tree.sp_eq (by omega)]
        refine Nat.pow_le_pow_right (by omega) ?_
        have : (n - 1).log2 < k + 1 := (Nat.log2_lt (by omega)).2 (by omega)
        omega
      split
      · rw [List.length_append]
        have := prf_short k f b (Tree.sp n) m s4 (by omega) hm (by omega)
        simp
        omega
      · rw [List.length_append]
        have := prf_short k f (b + Tree.sp n) (n - Tree.sp n) m (by omega) (by omega) (by omega) (by omega)
        simp
        omega
theorem prf_lo {a b : Nat} (h1 : 1 ≤ a) (h2 : a ≤ b) : ∀ s ∈ prf a b, s.1 < s.2 ∧ s.2 ≤ b := fun s hs => by
  have := Tree.insF_in _ _ _ _ _ (prf_ins b 0 b a (Nat.le_refl _) (by omega) (by omega) (by omega) s hs) (by omega)
  omega
theorem prf_len {a b : Nat} (h1 : 1 ≤ a) (h2 : a ≤ b) (h3 : b ≤ 1099511627776) : (prf a b).length ≤ 41 := prf_short 40 b 0 b a (by omega) (by omega) (by omega) (by omega)
theorem allP_lo {hs : List Nat} (h : Hds hs) : ∀ i, i < hs.length → ∀ s ∈ allP hs i, s.1 < s.2 ∧ s.2 ≤ 1099511627776
  | 0, _, s, hs => by cases hs
  | i + 1, hi, s, hs' => by
    rcases List.mem_append.1 hs' with e | e
    · exact allP_lo h i (by omega) s e
    · have hp := h.pair hi
      have := prf_lo hp.1 (by omega) s e
      omega
theorem allP_len {hs : List Nat} (h : Hds hs) : ∀ i, i < hs.length → (allP hs i).length ≤ 41 * i
  | 0, _ => Nat.le_refl _
  | i + 1, hi => by
    have hp := h.pair hi
    have := prf_len hp.1 (by omega) hp.2.2
    have := allP_len h i (by omega)
    rw [allP, List.length_append]
    omega
theorem tol_lo {hs : List Nat} (h : Hds hs) {i : Nat} (hi : i < hs.length) : ∀ s ∈ tol hs i, s.1 < s.2 ∧ s.2 ≤ 1099511627776 := fun s e => allP_lo h i hi s (tol_sub hs i s e)
theorem tol_few {hs : List Nat} (h : Hds hs) {i : Nat} (hi : i < hs.length) : (tol hs i).length ≤ 2583 := by
  have h1 := tol_len hs i
  have h2 := allP_len h i hi
  have := h.le
  omega
theorem tol_can {hs : List Nat} (h : Hds hs) {j : Nat} : ∀ (d : Nat), j + 1 + d < hs.length → ∀ s ∈ prf (hs.getD j 0) (hs.getD (j + 1) 0), can (tol hs (j + 1 + d)) s = true := fun d hd s hs' => by
  have hp := h.pair (i := j) (by omega)
  have h1 : can (tol hs (j + 1)) s = true := tells_can _ _ (fun t ht => (prf_lo hp.1 (by omega) t ht).1) s hs'
  obtain ⟨E, hE⟩ := tol_pre hs (j + 1) d
  rw [hE]
  exact can_mono (fun s hs => List.mem_append.2 (.inl hs)) (prf_lo hp.1 (by omega) s hs').1 h1
def told (hs : List Nat) : List (Nat × Nat) := tol hs (hs.length - 1)
theorem nodup_len : ∀ (l m : List (Nat × Nat)), l.Nodup → (∀ x ∈ l, x ∈ m) → l.length ≤ m.length
  | [], _, _, _ => Nat.zero_le _
  | a :: l, m, hn, hm => by
    have hn := List.nodup_cons.1 hn
    have := nodup_len l (m.erase a) hn.2 fun x hx => (List.mem_erase_of_ne (fun e => hn.1 (by rw [← e]; exact hx))).2 (hm x (List.mem_cons_of_mem _ hx))
    rw [List.length_erase_of_mem (hm a List.mem_cons_self)] at this
    have := List.length_pos_of_mem (hm a List.mem_cons_self)
    rw [List.length_cons]
    omega
structure Kw (A K0 : List (Nat × Nat)) (H0 : List (List UInt8)) (K : List (Nat × Nat)) (H : List (List UInt8)) : Prop where
  len : K.length = H.length
  nd : K.Nodup
  can : ∀ x y, x < y → can K (x, y) = can K0 (x, y)
  fld : ∀ x y, x < y → Chn.can K0 (x, y) = true → fld K H (x, y) = fld K0 H0 (x, y)
  sub : ∀ s ∈ K, s ∈ A
  h32 : ∀ x ∈ H, x.length = 32
theorem Kw.first {A K0 : List (Nat × Nat)} {H0 : List (List UInt8)} (hl : K0.length = H0.length) (ht : Tld K0) (hlo : ∀ s ∈ K0, s.1 < s.2) (hs : ∀ s ∈ K0, s ∈ A) (h32 : ∀ x ∈ H0, x.length = 32) : Kw A K0 H0 K0 H0 :=
  ⟨hl, ht.nodup hlo, fun _ _ _ => rfl, fun _ _ _ _ => rfl, hs, h32⟩
theorem Kw.next {A K0 K : List (Nat × Nat)} {H0 H : List (List UInt8)} (h : Kw A K0 H0 K H) {s : Nat × Nat} (hlt : s.1 < s.2) (hA : s ∈ A) (hn : ¬ s ∈ K) (hc : Chn.can K0 s = true) : Kw A K0 H0 (K ++ [s]) (H ++ [Chn.fld K0 H0 s]) := by
  have hcK : Chn.can K s = true := (h.can s.1 s.2 hlt).trans hc
  have hf := h.fld s.1 s.2 hlt hc
  refine ⟨by simp [h.len], ?_, fun x y hxy => (can_grow hcK hxy).trans (h.can x y hxy), fun x y hxy hxc => ?_, fun t ht => ?_, fun x hx => ?_⟩
  · refine List.nodup_append.2 ⟨h.nd, by simp, fun a ha b hb e => ?_⟩
    rw [List.mem_singleton] at hb
    subst hb
    exact hn (e ▸ ha)
  · rw [← h.fld x y hxy hxc, ← hf]
    exact fld_new h.len hn hcK hxy ((h.can x y hxy).trans hxc)
  · rcases List.mem_append.1 ht with ht | ht
    · exact h.sub t ht
    · rw [List.mem_singleton.1 ht]; exact hA
  · rcases List.mem_append.1 hx with hx | hx
    · exact h.h32 x hx
    · rw [List.mem_singleton.1 hx, ← hf]
      exact fld_len h.len h.h32 hlt hcK
theorem Kw.at {A K0 K : List (Nat × Nat)} {H0 H : List (List UInt8)} (h : Kw A K0 H0 K H) {s : Nat × Nat} (hlt : s.1 < s.2) {j : Nat} {x : List UInt8} (hj : K[j]? = some s) (hx : H[j]? = some x) : x = Chn.fld K0 H0 s := by
  have hm := List.mem_of_getElem? hj
  have hc : Chn.can K0 s = true := (h.can s.1 s.2 hlt).symm.trans (can_mem hlt hm)
  have e1 := h.fld s.1 s.2 hlt hc
  have e2 : Chn.fld K H s = Tree.hashAt K H s := fld_mem hlt hm
  rw [hashAt_get h.nd hj hx] at e2
  rw [← e2]
  exact e1
def exP (hs : List Nat) (H0 : List (List UInt8)) (i : Nat) : List (List UInt8) := (prf (hs.getD i 0) (hs.getD (i + 1) 0)).map (fld (told hs) H0)
def exL (hs : List Nat) (H0 : List (List UInt8)) : List (List (List UInt8)) := (List.range (hs.length - 1)).map (exP hs H0)
end Chn
end Go.Proofs.YtjcapdkibbjmiaaGreatDoor

namespace Go.Proofs.YtjcapdkibbjmiaaGreatDoor
open Go.RowKit
open Go.WideMaps (KeyLaw)
open Go.ChangeMaps (setBlock)
namespace Chn
theorem rowAr : (142 : TypeId) < Tryz.prog.types.size := of_decide_eq_true (by kernel_rfl)
theorem wideAr : (match Tryz.prog.underlying 142 with | some (.array _ _) | some (.struct _) => true | _ => false) = true := by kernel_rfl
theorem keyAtAr : Tryz.prog.keyTypeAt 2 142 = true := by kernel_rfl
set_option maxRecDepth 1000000 in
theorem lawAr : KeyLaw Tryz.prog 142 := deep_law_laid laidOutT (m := 2) (by omega) rowAr keyAtAr wideAr
theorem undPs : Tryz.prog.underlying 87 = some (.map 142 3) := by kernel_rfl
theorem infoIn : (Tryz.prog.info? 3).map (fun i => (i.zero, i.size, i.bytes)) = some (some (.int .i64 0), 1, 8) := by kernel_rfl
theorem zeroIn (w : World) : (zeroValue 3).run Tryz.prog w = .ok (.int .i64 0) w := by
  obtain ⟨i0, hi, hz0, hz1, hz2⟩ := info_parts infoIn
  simp [zeroValue, typeInfo, hi, hz0]
theorem keyTyA : Tryz.prog.keyType 142 = true := by kernel_rfl
theorem cellsAr : Tryz.prog.cellsOf 142 = 2 := by kernel_rfl
theorem undAr : Tryz.prog.underlying 142 = some (.array 2 3) := by kernel_rfl
theorem typesC : Tryz.prog.types.size + 1 = (Tryz.prog.types.size - 1) + 1 + 1 := by have h : 0 < Tryz.prog.types.size := Nat.lt_of_le_of_lt (Nat.zero_le _) rowAr; omega
theorem keyAr {p : Int × Int} (h : InR p) : ∃ l, keyOf Tryz.prog 142 (kv p) = some l := by
  have h1 := wf64 h.1.1 h.1.2
  have h2 := wf64 h.2.1 h.2.2
  have k1 : ∀ (n : Nat) (a : Int), (Lit.int .i64 a).wf = true → Tryz.prog.keyLits (n + 1) 3 [.int .i64 a] = some [.int .i64 a] := fun n a ha => by
    unfold Program.keyLits
    simp [ha]
  have hfm : (kv p).formed Tryz.prog 142 = true := by
    unfold kv Value.formed
    rw [undAr]
    simp [cellsAr]
  have h3 : Tryz.prog.keyLits (Tryz.prog.types.size + 1) 142 (kv p).cells.toList = some [.int .i64 p.1, .int .i64 p.2] := by
    have e : (kv p).cells.toList = [.int .i64 p.1, .int .i64 p.2] := rfl
    rw [typesC, e]
    unfold Program.keyLits
    rw [undAr]
    simp [cellsAr, cellsIT, show List.range 2 = [0, 1] from rfl, k1 _ _ h1, k1 _ _ h2]
  refine ⟨.string (keyBytes [.int .i64 p.1, .int .i64 p.2]), ?_⟩
  unfold keyOf
  rw [undAr]
  simp only [keyTyA, hfm, Bool.and_self, if_true, h3, Option.map_some]
def kn (s : Nat × Nat) : Value := kv ((s.1 : Int), (s.2 : Int))
def Lo (s : Nat × Nat) : Prop := s.1 ≤ 1099511627776 ∧ s.2 ≤ 1099511627776
theorem Lo.r {s : Nat × Nat} (h : Lo s) : InR ((s.1 : Int), (s.2 : Int)) := by unfold Lo at h; exact ⟨⟨by show _ ≤ (s.1 : Int); omega, by show (s.1 : Int) ≤ _; omega⟩, by show _ ≤ (s.2 : Int); omega, by show (s.2 : Int) ≤ _; omega⟩
theorem kn_inj {s t : Nat × Nat} (h : kn s = kn t) : s = t := by
  have := kv_inj h
  simp only [Prod.mk.injEq] at this
  exact Prod.ext (by omega) (by omega)
abbrev Pl := Nat × Nat → Option Nat
def upd (f : Pl) (s : Nat × Nat) (h : Nat) : Pl := fun t => if t = s then some h else f t
structure Mc (w : World) (b : Nat) (f  : Pl) : Prop where
  m : ∃ arr clock, w.heap[b]? = some (.map arr clock) ∧ (arr.toList.map (·.key)).Nodup ∧ (∀ e ∈ arr.toList, ∃ (s : Nat × Nat) (h : Nat), e.key = kn s ∧ e.val = .int .i64 (h : Int) ∧ f s = some h ∧ Lo s) ∧ ∀ s, f s ≠ none → ∃ e ∈ arr.toList, e.key = kn s
theorem Mc.heap {w w' : World} {b : Nat} {f  : Pl} (h : Mc w b f) (hb : w'.heap[b]? = w.heap[b]?) : Mc w' b f := by
  obtain ⟨arr, clock, h1, h2⟩ := h.m
  exact ⟨arr, clock, hb.trans h1, h2⟩
theorem Mc.lt {w : World} {b : Nat} {f  : Pl} (h : Mc w b f) : b < w.heap.size := by
  obtain ⟨arr, clock, h1, _⟩ := h.m
  exact (Array.getElem?_eq_some_iff.1 h1).1
theorem Mc.below {w w' : World} {b B : Nat} {f  : Pl} (h : Mc w b f) (hb : Below B w w') (hB : b < B) : Mc w' b f := h.heap (hb.block b hB)
theorem Mc.new (w : World) : Mc (w.alloc (.map #[] 0)) w.heap.size (fun _ => none) :=
  ⟨#[], 0, (MapKept.heap_alloc w _).1, by simp, by simp, fun s hs => absurd rfl hs⟩
theorem Mc.keysOk {arr : Array MapEntry} {f  : Pl} (h : ∀ e ∈ arr.toList, ∃ (s : Nat × Nat) (h : Nat), e.key = kn s ∧ e.val = .int .i64 (h : Int) ∧ f s = some h ∧ Lo s) : ∀ e ∈ arr.toList, ∃ l, keyOf Tryz.prog 142 e.key = some l := fun e he => by
  obtain ⟨s, x, h1, _, _, h4⟩ := h e he
  rw [h1]
  exact keyAr h4.r
theorem Mc.find {w : World} {arr : Array MapEntry} {f  : Pl} (h3 : ∀ e ∈ arr.toList, ∃ (s : Nat × Nat) (h : Nat), e.key = kn s ∧ e.val = .int .i64 (h : Int) ∧ f s = some h ∧ Lo s) (h4 : ∀ s, f s ≠ none → ∃ e ∈ arr.toList, e.key = kn s) {s : Nat × Nat} (hs : Lo s) :
    ((Instr.findKey 142 (kn s) arr.toList).run Tryz.prog w = .ok none w ∧ f s = none ∧ ∀ e ∈ arr.toList, e.key ≠ kn s) ∨
    ∃ (j : Nat) (e : MapEntry) (x : Nat), (Instr.findKey 142 (kn s) arr.toList).run Tryz.prog w = .ok (some (j, .int .i64 (x : Int))) w ∧ f s = some x ∧ arr.toList[j]? = some e ∧ e.key = kn s := by
  obtain ⟨l, hl⟩ := keyAr hs.r
  rcases lawAr.find w hl arr.toList (Mc.keysOk h3) with ⟨f1, f2⟩ | ⟨j, e0, f1, f2, f3⟩
  · refine .inl ⟨f1, ?_, f2⟩
    cases e : f s with
    | none => rfl
    | some x =>
      obtain ⟨e1, he, hk⟩ := h4 s (by rw [e]; simp)
      exact absurd hk (f2 e1 he)
  · obtain ⟨t, x, g1, g2, g3, g4⟩ := h3 e0 (List.mem_of_getElem? f2)
    have : t = s := kn_inj (g1.symm.trans f3)
    subst this
    rw [g2] at f1
    exact .inr ⟨j, e0, x, f1, g3, f2, f3⟩
theorem Mc.put {w : World} {b : Nat} {f  : Pl} (h : Mc w b f) {s : Nat × Nat} (hs : Lo s) (x : Nat) :
    ∃ w', (Instr.mapUpdate 87 (.map (some b)) (.agg #[.int .i64 (s.1 : Int), .int .i64 (s.2 : Int)]) (.int .i64 (x : Int))).run Tryz.prog w = .ok () w' ∧ Mc w' b (upd f s x) ∧ But b w w' ∧ w'.heap.size = w.heap.size := by
  obtain ⟨arr, clock, hb, h2, h3, h4⟩ := h.m
  obtain ⟨l, hl⟩ := keyAr hs.r
  have hc := lawAr.check w false hl
  rcases Mc.find (w := w) h3 h4 hs with ⟨f1, f2, f3⟩ | ⟨j, e0, y, f1, f2, f3, f4⟩
  · refine ⟨setBlock w b (.map (arr.push ⟨kn s, .int .i64 (x : Int), clock⟩) (clock + 1)), ?_, ⟨_, _, setBlock_at hb, ?_, ?_, ?_⟩, (But.refl b w).setBlock _, by simp [setBlock]⟩
    · simp only [kn, kv] at f1
      simp only [kv] at hc
      simp [Instr.mapUpdate, run_underlying undPs, MapKept.run_getObj_map hb, hc, f1, MapKept.run_setObj_map _ hb, setBlock, kn, kv]
    · simp only [Array.toList_push, List.map_append, List.map_cons, List.map_nil]
      refine List.nodup_append.2 ⟨h2, by simp, fun a ha c hc' e1 => ?_⟩
      simp only [List.mem_singleton] at hc'
      obtain ⟨e, he, rfl⟩ := List.mem_map.1 ha
      exact f3 e he (e1.trans hc')
    · intro e he
      rw [Array.toList_push, List.mem_append, List.mem_singleton] at he
      rcases he with he | rfl
      · obtain ⟨t, z, g1, g2, g3, g4⟩ := h3 e he
        refine ⟨t, z, g1, g2, ?_, g4⟩
        unfold upd
        rw [if_neg (fun q => f3 e he (by rw [g1, q]))]
        exact g3
      · exact ⟨s, x, rfl, rfl, by unfold upd; rw [if_pos rfl], hs⟩
    · intro t ht
      unfold upd at ht
      by_cases q : t = s
      · subst q
        exact ⟨⟨kn t, .int .i64 (x : Int), clock⟩, by simp, rfl⟩
      · rw [if_neg q] at ht
        obtain ⟨e, he, hk⟩ := h4 t ht
        exact ⟨e, by simp [he], hk⟩
  · have hj : arr[j]? = some e0 := by simpa using f3
    have hlist : (arr.modify j (fun e => { e with key := kn s, val := .int .i64 (x : Int) })).toList = arr.toList.set j ⟨kn s, .int .i64 (x : Int), e0.born⟩ := by
      rw [Array.toList_modify, ChangeMaps.modify_eq_set _ _ _ _ f3]
    have hkeys : (arr.toList.set j ⟨kn s, .int .i64 (x : Int), e0.born⟩).map (·.key) = arr.toList.map (·.key) := by
      rw [List.map_set]
      refine WideElems.set_self _ _ _ ?_
      rw [List.getElem?_map, f3]
      simp [f4]
    refine ⟨setBlock w b (.map (arr.modify j (fun e => { e with key := kn s, val := .int .i64 (x : Int) })) clock), ?_, ⟨_, _, setBlock_at hb, ?_, ?_, ?_⟩, (But.refl b w).setBlock _, by simp [setBlock]⟩
    · have hst := lawAr.stays w hl
      simp only [kn, kv] at f1 f4
      simp only [kv] at hc hst
      simp [Instr.mapUpdate, run_underlying undPs, MapKept.run_getObj_map hb, hc, f1, hj, f4, hst, MapKept.run_setObj_map _ hb, Result.andThen, setBlock, kn, kv]
    · rw [hlist, hkeys]; exact h2
    · intro e he
      rw [hlist] at he
      obtain ⟨k, hk, hke⟩ := List.mem_iff_getElem.1 he
      by_cases q : j = k
      · subst q
        rw [List.getElem_set_self] at hke
        subst hke
        exact ⟨s, x, rfl, rfl, by unfold upd; rw [if_pos rfl], hs⟩
      · rw [List.getElem_set_ne q] at hke
        rw [List.length_set] at hk
        have hm : e ∈ arr.toList := by rw [← hke]; exact List.getElem_mem hk
        obtain ⟨t, z, g1, g2, g3, g4⟩ := h3 e hm
        refine ⟨t, z, g1, g2, ?_, g4⟩
        unfold upd
        rw [if_neg (fun q2 => ?_)]
        · exact g3
        · subst q2
          have hjl := (List.getElem?_eq_some_iff.1 f3).1
          have e2 := (List.getElem?_eq_some_iff.1 f3).2
          have := (List.pairwise_iff_getElem.1 h2)
          rcases Nat.lt_or_gt_of_ne q with c | c
          · exact this j k (by simpa using hjl) (by simpa using hk) c (by rw [List.getElem_map, List.getElem_map, e2, hke, f4, g1])
          · exact this k j (by simpa using hk) (by simpa using hjl) c (by rw [List.getElem_map, List.getElem_map, e2, hke, f4, g1])
    · intro t ht
      rw [hlist]
      have hex : kn t ∈ (arr.toList.set j ⟨kn s, .int .i64 (x : Int), e0.born⟩).map (·.key) := by
        rw [hkeys]
        unfold upd at ht
        by_cases q : t = s
        · subst q
          exact List.mem_map.2 ⟨e0, List.mem_of_getElem? f3, f4⟩
        · rw [if_neg q] at ht
          obtain ⟨e, he, hk⟩ := h4 t ht
          exact List.mem_map.2 ⟨e, he, hk⟩
      obtain ⟨e, he, hk⟩ := List.mem_map.1 hex
      exact ⟨e, he, hk⟩
theorem But.keepC {b : Nat} {w w' : World} (h : But b w w') : Keep (fun k => k = b) w w' := ⟨h.os, h.tape, h.output, h.size, fun k hk hs => h.block k hk hs⟩
theorem Mc.keep {w w' : World} {b : Nat} {f : Pl} {S : Nat → Prop} (h : Mc w b f) (hk : Keep S w w') (hs : ¬ S b) : Mc w' b f := h.heap (hk.block b h.lt hs)
theorem keep_belowC {S : Nat → Prop} {w w' : World} {B : Nat} (h : Keep S w w') (hB : B ≤ w.heap.size) (hS : ∀ k, S k → B ≤ k) : Below B w w' :=
  ⟨h.os, h.tape, h.output, h.size, fun k hk => h.block k (by omega) fun e => by have := hS k e; omega⟩
end Chn
end Go.Proofs.YtjcapdkibbjmiaaGreatDoor

namespace Go.Proofs.YtjcapdkibbjmiaaGreatDoor
open Go.RowKit Go.Shelf
namespace Chn
theorem sizeAr (a b : Value) : (Tryz.prog.info? 142).map (·.size) = some #[a, b].size := by kernel_rfl
set_option maxRecDepth 100000 in
theorem ends_any (b e : Int) (w : World) : Calls Tryz.prog 101 #[sg b e] w fun r w' => r = .returned (sg b e) ∧ Below w.heap.size w w' := by
  have S0 := SpI.new w b e
  have c0 := S0.c0
  have c1 := S0.c1
  go_enter Tryz.func101, Tryz.ntmps101
  go_wp2
  refine bodyPost_ret (v := sg b e) (results_cell_row rfl _ _ (w.heap.size + 1) 142 _ (0, 0) _ rfl (heap_alloc_at _ _ _ (by simp)) Tryz.underlying142 rfl (sizeAr _ _)) rfl ⟨rfl, ?_⟩
  exact ((Below.refl _ _).alloc (Nat.le_refl _) _).alloc (by simp) _
set_option maxRecDepth 100000 in
set_option maxHeartbeats 4000000 in
theorem partsC_at (b e m : Nat) (h2 : 2 ≤ e - b) (he : e ≤ 1099511627776) (hm : Hid (m = b + Tree.sp (e - b))) (w : World) :
    Calls Tryz.prog 102 #[sg b e] w fun r w' => r = .returned (.tuple #[sg b m, sg m e]) ∧ Below w.heap.size w w' := by
  have hb := bitLen_log _ ((((e - b : Nat) : Int) - 1).toNat) (Nat.le_refl _) (by omega) (by omega)
  have hL := log_le (x := (((e - b : Nat) : Int) - 1).toNat) (by omega) (by omega)
  have hc := lenU_any (((e - b : Nat) : Int) - 1) (by omega) (by omega)
  have hm2 : Hid (m = b + 2 ^ (((e - b : Nat) : Int) - 1).toNat.log2) := by
    unfold Hid
    rw [hm.out, Tree.sp_eq (by omega), show e - b - 1 = (((e - b : Nat) : Int) - 1).toNat from by omega]
  have hme : m < e := by rw [hm.out]; have := Tree.sp_lt (n := e - b) h2; omega
  rw [hb] at hc
  clear hb
  generalize (((e - b : Nat) : Int) - 1).toNat.log2 = L at *
  have hw1 : IntKind.i64.wrap (((e - b : Nat) : Int) - 1) = ((e - b : Nat) : Int) - 1 := by rw [IntKind.wrap_i64]; omega
  have hw2 : IntKind.u64.wrap (((e - b : Nat) : Int) - 1) = ((e - b : Nat) : Int) - 1 := by rw [IntKind.wrap_u64]; omega
  have hp := wrap_pow hL
  obtain ⟨N, hN⟩ : ∃ N : Nat, Hid (2 ^ L = N) := ⟨_, rfl⟩
  rw [hN.out] at hp hm2
  have hN1 : (2 : Int) ^ L = (N : Int) := by rw [← hN.out]; simp
  have hN2 : IntKind.i64.wrap (N : Int) = (N : Int) := by rw [IntKind.wrap_i64]; have := hm2.out; omega
  have hL1 : IntKind.i64.wrap (L : Int) = (L : Int) := by rw [IntKind.wrap_i64]; omega
  have hL2 : (L : Int) ≤ 64 := by omega
  have hL3 : (0 : Int) ≤ (L : Int) := by omega
  have hadd : IntKind.i64.wrap ((b : Int) + (N : Int)) = (m : Int) := by rw [hm2.out, IntKind.wrap_i64]; have := hm2.out; omega
  clear hp
  have hw0 : IntKind.i64.wrap ((e : Int) - (b : Int)) = ((e - b : Nat) : Int) := by rw [IntKind.wrap_i64]; omega
  obtain ⟨n, hn⟩ : ∃ n, Hid (e - b = n) := ⟨_, rfl⟩
  rw [hn.out] at hc hw0 hw1 hw2
  have S0 := SpI.new w b e
  have B0 := (Below.refl w.heap.size w).alloc (Nat.le_refl _) (.cells #[Value.int .i64 (b : Int), .int .i64 (e : Int)] 60)
  go_enter Tryz.func102, Tryz.ntmps102
  go_wp2
  obtain ⟨w3, hw3⟩ : ∃ w3, Hid ((((w.alloc (.cells #[.int .i64 (b : Int), .int .i64 (e : Int)] 60)).alloc (.cells #[.int .i64 0, .int .i64 0] 60)).alloc (.cells #[.int .i64 0, .int .i64 0] 60)) = w3) := ⟨_, rfl⟩
  rw [hw3.out]
  have B3 : Hid (Below w.heap.size w w3) := by unfold Hid; rw [← hw3.out]; exact (B0.alloc (by rw [size_alloc]; omega) _).alloc (by rw [size_alloc, size_alloc]; omega) _
  have z3 : Hid (w3.heap.size = w.heap.size + 3) := by unfold Hid; rw [← hw3.out]; simp
  have R0 : Hid (SpI w3 w.heap.size b e) := by unfold Hid; rw [← hw3.out]; exact (S0.below ((Below.refl _ _).alloc (Nat.le_refl _) _)).below ((Below.refl _ _).alloc (Nat.le_refl _) _)
  have R1 : Hid (SpI w3 (w.heap.size + 1) 0 0) := by
    unfold Hid; rw [← hw3.out]
    have := SpI.new (w.alloc (.cells #[.int .i64 (b : Int), .int .i64 (e : Int)] 60)) 0 0
    rw [size_alloc] at this
    exact this.below ((Below.refl _ _).alloc (Nat.le_refl _) _)
  have R2 : Hid (SpI w3 (w.heap.size + 1 + 1) 0 0) := by
    unfold Hid; rw [← hw3.out]
    have := SpI.new ((w.alloc (.cells #[.int .i64 (b : Int), .int .i64 (e : Int)] 60)).alloc (.cells #[.int .i64 0, .int .i64 0] 60)) 0 0
    rw [size_alloc, size_alloc] at this
    exact this
  clear hw3 S0 B0
  have x0 := And.intro R0.out.c0 R0.out.c1
  go_region_held3 (fun w' => w'.cell? ⟨w.heap.size, 0, none⟩ = some (.int .i64 (b : Int)) ∧ w'.cell? ⟨w.heap.size, 1, none⟩ = some (.int .i64 (e : Int))) (exact x0) (first | (go_at_call 109; refine (hc _).mono ?_; rintro r w5 ⟨rfl, hw5⟩; have hw5 := hw5.symm; subst hw5))
  go_wp2
  have B5 := B3
  have T0 := R0
  have T1 := R1
  have T2 := R2
  clear R0 R1 R2 x0 B3 z3
  have y0 := And.intro T0.out.c0 T0.out.c1
  have p1 : w3.drew.cell? ⟨w.heap.size + 1, 0, none⟩ = some (.int .i64 0) := T1.out.c0
  have p2 : w3.drew.cell? ⟨w.heap.size + 1, 1, none⟩ = some (.int .i64 0) := T1.out.c1
  have p3 : w3.drew.frozen? ⟨w.heap.size + 1, 0, none⟩ = false := T1.out.f0
  have p4 : w3.drew.frozen? ⟨w.heap.size + 1, 1, none⟩ = false := T1.out.f1
  have q1 : w3.drew.cell? ⟨w.heap.size + 1 + 1, 0, none⟩ = some (.int .i64 0) := T2.out.c0
  have q2 : w3.drew.cell? ⟨w.heap.size + 1 + 1, 1, none⟩ = some (.int .i64 0) := T2.out.c1
  have q3 : w3.drew.frozen? ⟨w.heap.size + 1 + 1, 0, none⟩ = false := T2.out.f0
  have q4 : w3.drew.frozen? ⟨w.heap.size + 1 + 1, 1, none⟩ = false := T2.out.f1
  have y1 : w3.drew.cell? ⟨w.heap.size, 0, none⟩ = some (.int .i64 (b : Int)) := T0.out.c0
  have y2 : w3.drew.cell? ⟨w.heap.size, 1, none⟩ = some (.int .i64 (e : Int)) := T0.out.c1
  have p5 : w3.cell? ⟨w.heap.size + 1, 0, none⟩ = some (.int .i64 0) := T1.out.c0
  have p6 : w3.cell? ⟨w.heap.size + 1, 1, none⟩ = some (.int .i64 0) := T1.out.c1
  have p7 : w3.frozen? ⟨w.heap.size + 1, 0, none⟩ = false := T1.out.f0
  have p8 : w3.frozen? ⟨w.heap.size + 1, 1, none⟩ = false := T1.out.f1
  have q5 : w3.cell? ⟨w.heap.size + 1 + 1, 0, none⟩ = some (.int .i64 0) := T2.out.c0
  have q6 : w3.cell? ⟨w.heap.size + 1 + 1, 1, none⟩ = some (.int .i64 0) := T2.out.c1
  have q7 : w3.frozen? ⟨w.heap.size + 1 + 1, 0, none⟩ = false := T2.out.f0
  have q8 : w3.frozen? ⟨w.heap.size + 1 + 1, 1, none⟩ = false := T2.out.f1
  have s1 : ¬ w.heap.size + 1 = w.heap.size := by omega
  have s2 : ¬ w.heap.size + 1 + 1 = w.heap.size := by omega
  go_region_held3 (fun w' => w'.cell? ⟨w.heap.size, 0, none⟩ = some (.int .i64 (b : Int)) ∧ w'.cell? ⟨w.heap.size, 1, none⟩ = some (.int .i64 (e : Int))) (first | exact y0 | go_keep) (fail)
  go_wp2
  have U1 := (T1.out.two (b : Int) (m : Int))
  have U1' := (U1.far (w.heap.size + 1 + 1) 0 (.int .i64 (m : Int)) (by omega)).far (w.heap.size + 1 + 1) 1 (.int .i64 (e : Int)) (by omega)
  have U2 := ((T2.out.far (w.heap.size + 1) 0 (.int .i64 (b : Int)) (by omega)).far (w.heap.size + 1) 1 (.int .i64 (m : Int)) (by omega)).two (m : Int) (e : Int)
  refine bodyPost_ret (results_row_row rfl _ _ (w.heap.size + 1) (w.heap.size + 1 + 1) 60 60 #[.int .i64 (b : Int), .int .i64 (m : Int)] #[.int .i64 (m : Int), .int .i64 (e : Int)] (0, 0) (0, 0) _ _ rfl U1' Tryz.underlying60 rfl sizeSp8 rfl U2 Tryz.underlying60 rfl sizeSp8) rfl ⟨rfl, ?_⟩
  exact (((((B5.out.setCell (p := ⟨w.heap.size + 1, 0, none⟩) (by show w.heap.size ≤ w.heap.size + 1; omega) _).setCell (p := ⟨w.heap.size + 1, 1, none⟩) (by show w.heap.size ≤ w.heap.size + 1; omega) _).setCell (p := ⟨w.heap.size + 1 + 1, 0, none⟩) (by show w.heap.size ≤ w.heap.size + 1 + 1; omega) _).setCell (p := ⟨w.heap.size + 1 + 1, 1, none⟩) (by show w.heap.size ≤ w.heap.size + 1 + 1; omega) _)).drew.drew
end Chn
end Go.Proofs.YtjcapdkibbjmiaaGreatDoor
