import Derived.Test.YtkpfpfjjkcefkaaCDL2
import Derived.Test.YtkpfpfjjkcefkaaCDV0
import Derived.Test.YtkpfpfjjkcefkaaCDL1
import Derived.Maps.OwnSet
import Derived.Maps.Ext
namespace Go.Proofs
open Go.Shelf Go.RowKit Go.Maps Go.Sort
set_option maxHeartbeats 1000000 in
theorem Try.slices_Sorted_keys {H : Type} (b nn : Nat) (D0 : DataW H) (R : Value → Option (DataW H × List MemPlace)) (w : World) (hown : w.ownsMap Try.prog 3 R b nn D0) (hmax : Maps.size D0 ≤ maxLen) (hbytes : Maps.size D0 * 8 ≤ 140737488355328) :
    Calls Try.prog 35 #[.func (.func 64) #[] #[.pointer (some ⟨w.heap.size, 0, none⟩)]] (w.alloc (.cells #[.map (some b)] 82)) fun e w' => ∃ (v : Value) (ss : List Int), e = .returned v ∧ ss.Perm (intKeys D0) ∧
      w'.ownsRow (w.alloc (.cells #[.map (some b)] 82)).heap.size 3 1 v ss.length ((ss.mergeSort (fun x y => decide (x ≤ y))).map encZ) ∧ (v = .slice none 0 0 ↔ ss = []) ∧ Below (w.alloc (.cells #[.map (some b)] 82)).heap.size (w.alloc (.cells #[.map (some b)] 82)) w' := by
  refine (callsIn_wide (n := 5)).1 ?_
  have hbl := hown.lt
  have hseq : SeqGives Fence.wide 2 Try.prog 64 #[.pointer (some ⟨w.heap.size, 0, none⟩)] encZ (fun ss => ss.Perm (intKeys D0)) (Maps.size D0) (w.alloc (.cells #[.map (some b)] 82)) :=
    AnyZI.keys_gives (ρ := Try.keysA_ren) { Try.keysA with } Fence.wide _ trivial rfl (by omega) w.heap.size b nn D0 _ (by simp) (by simp) (by
      obtain ⟨es, clock, hb, Ft, hs, hD⟩ := hown
      exact ⟨es, clock, (Below.heap_alloc _ _ b hbl).trans hb, Ft, hs, hD⟩)
  have cS := AnyZI.sorted_in Try.sortedA Fence.wide 5 trivial trivial trivial trivial rfl (by omega) (Try.sortsA _) (enters_of Try.func63 (by kernel_rfl) rfl) 64 #[.pointer (some ⟨w.heap.size, 0, none⟩)] trivial (enters_of Try.func64 (by kernel_rfl) rfl) _ _ hmax hbytes _ hseq
  exact cS
end Go.Proofs

namespace Go.Proofs.Ytkpfpfjjkcefkaa
open Go.RowKit Go.Maps

/-- a page of noughts -/
def zp : List UInt8 := List.replicate 256 0
/-- a write: its page, its bytes -/
def wv (p : Nat) (s : List UInt8) : Value := .agg #[.int .i64 (p : Int), sv s]
def wd (p : Nat) (s : List UInt8) : DataW Unit := .agg [.lit (.int .i64 (p : Int)), .lit (.string s)]
def wRl : List Value → Option (DataW Unit × List MemPlace)
  | [.int .i64 p, .string s] => some (.agg [.lit (.int .i64 p), .lit (.string s.data.toList)], [])
  | _ => none
def wR : Value → Option (DataW Unit × List MemPlace)
  | .agg a => wRl a.toList
  | _ => none
theorem wR_mk (p : Nat) (s : List UInt8) : wR (wv p s) = some (wd p s, []) := by simp [wR, wv, wd, sv, wRl]
theorem mk_data (s : ByteArray) : (⟨s.data.toList.toArray⟩ : ByteArray) = s := by cases s; simp
theorem wRl_some {l : List Value} {z : DataW Unit × List MemPlace} (h : wRl l = some z) : ∃ q s, l = [.int .i64 q, .string s] ∧ z = (.agg [.lit (.int .i64 q), .lit (.string s.data.toList)], []) := by
  unfold wRl at h
  split at h
  · exact ⟨_, _, rfl, (Option.some.inj h).symm⟩
  · cases h
theorem wR_inv {v : Value} {p : Nat} {s : List UInt8} {ps : List MemPlace} (h : wR v = some (wd p s, ps)) : v = wv p s := by
  cases v with
  | agg a =>
    obtain ⟨l⟩ := a
    obtain ⟨q, t, rfl, e⟩ := wRl_some (l := l) h
    simp only [wd, Prod.mk.injEq, DataW.agg.injEq, List.cons.injEq, DataW.lit.injEq, Lit.int.injEq, Lit.string.injEq, true_and, and_true] at e
    obtain ⟨⟨rfl, rfl⟩, _⟩ := e
    rw [wv, sv, mk_data]
  | _ => simp [wR] at h
abbrev kl (i : Nat) : Lit := .int .i64 (i : Int)
/-- what is pending, as the map has it -/
structure Pn (n : Nat) (p : Nat → Option (List UInt8)) (D : DataW Unit) : Prop where
  hs : ∀ i, i < n → Maps.has D (kl i) = (p i).isSome
  at_ : ∀ i s, p i = some s → ∀ z, D.atKey (kl i) z = wd i s
  keys : ∀ l, Maps.has D l = true → ∃ i, i < n ∧ l = kl i
  dom : ∀ i s, p i = some s → i < n ∧ s.length = 256
def upd (p : Nat → Option (List UInt8)) (i : Nat) (s : List UInt8) : Nat → Option (List UInt8) := fun k => if k = i then some s else p k
def dlt (p : Nat → Option (List UInt8)) (i : Nat) : Nat → Option (List UInt8) := fun k => if k = i then none else p k
theorem kl_ne {i j : Nat} (h : i ≠ j) : kl i ≠ kl j := fun e => h (by injection e with _ e; omega)
theorem kl_key (i : Nat) : WideAt.IsKeyLit (kl i) := trivial
theorem Pn.nil (n : Nat) : Pn n (fun _ => none) (.map []) := ⟨fun _ _ => rfl, fun _ _ h => (nomatch h), fun l h => absurd h (by simp [Maps.has_eq]), fun _ _ h => (nomatch h)⟩
theorem Pn.put {n : Nat} {p : Nat → Option (List UInt8)} {D : DataW Unit} (h : Pn n p D) (hD : IsMap D) {i : Nat} {s : List UInt8} (hi : i < n) (hs : s.length = 256) : Pn n (upd p i s) (D.put (kl i) (wd i s)) where
  hs k hk := by
    unfold upd
    by_cases e : k = i
    · subst e; rw [if_pos rfl, has_put_same hD (kl_key k)]; rfl
    · rw [if_neg e, has_put_other (kl_ne e)]; exact h.hs k hk
  at_ k t := by
    unfold upd
    by_cases e : k = i
    · subst e; rw [if_pos rfl]; rintro ⟨rfl⟩ z; exact atKey_put_same hD (kl_key k) _ z
    · rw [if_neg e]; intro ht z; rw [atKey_put_other (kl_ne e)]; exact h.at_ k t ht z
  keys l hl := by
    by_cases e : l = kl i
    · exact ⟨i, hi, e⟩
    · rw [has_put_other e] at hl; exact h.keys l hl
  dom k t := by
    unfold upd
    by_cases e : k = i
    · subst e; rw [if_pos rfl]; rintro ⟨rfl⟩; exact ⟨hi, hs⟩
    · rw [if_neg e]; exact h.dom k t
theorem Pn.del {n : Nat} {p : Nat → Option (List UInt8)} {D : DataW Unit} (h : Pn n p D) (i : Nat) : Pn n (dlt p i) (D.del (kl i)) where
  hs k hk := by
    unfold dlt
    by_cases e : k = i
    · subst e; rw [if_pos rfl, has_del_same]; rfl
    · rw [if_neg e, has_del_other (kl_ne e)]; exact h.hs k hk
  at_ k t := by
    unfold dlt
    by_cases e : k = i
    · subst e; rw [if_pos rfl]; intro h'; cases h'
    · rw [if_neg e]; intro ht z; rw [atKey_del_other (kl_ne e)]; exact h.at_ k t ht z
  keys l hl := by
    by_cases e : l = kl i
    · rw [e, has_del_same] at hl; cases hl
    · rw [has_del_other e] at hl; exact h.keys l hl
  dom k t := by
    unfold dlt
    by_cases e : k = i
    · subst e; rw [if_pos rfl]; intro h'; cases h'
    · rw [if_neg e]; exact h.dom k t
/-- the pages that are pending, rising -/
def pks (n : Nat) (p : Nat → Option (List UInt8)) : List Nat := (List.range n).filter fun i => (p i).isSome
theorem pks_mem {n : Nat} {p : Nat → Option (List UInt8)} {i : Nat} : i ∈ pks n p ↔ i < n ∧ (p i).isSome = true := by simp [pks]
theorem pks_len (n : Nat) (p : Nat → Option (List UInt8)) : (pks n p).length ≤ n := by
  have := List.length_filter_le (fun i => (p i).isSome) (List.range n)
  simpa [pks] using this
theorem pks_lt (n : Nat) (p : Nat → Option (List UInt8)) : (pks n p).Pairwise (· < ·) := List.Pairwise.filter _ List.pairwise_lt_range
/-- a map whose keys are numbers, each once -/
def Tk (D : DataW Unit) : Prop := ∃ es, D = .map es ∧ es.Pairwise (fun p q => p.1 ≠ q.1) ∧ ∀ q ∈ es, ∃ x, q.1 = .int .i64 x
theorem Pn.perm {n : Nat} {p : Nat → Option (List UInt8)} {D : DataW Unit} (h : Pn n p D) (hD : Tk D) : ((pks n p).map (fun i : Nat => (i : Int))).Perm (intKeys D) := by
  obtain ⟨es, rfl, hp, hk⟩ := hD
  refine perm_intKeys hp hk ?_ fun x => ?_
  · refine List.pairwise_map.2 ((pks_lt n p).imp fun h e => ?_)
    omega
  · rw [List.mem_map]
    constructor
    · rintro ⟨i, hi, rfl⟩
      rw [pks_mem] at hi
      have := h.hs i hi.1
      rw [hi.2] at this
      exact this
    · intro hx
      obtain ⟨i, hi, e⟩ := h.keys _ hx
      refine ⟨i, pks_mem.2 ⟨hi, ?_⟩, by injection e with _ e; exact e.symm⟩
      rw [← h.hs i hi, ← e]; exact hx
theorem Pn.sort {n : Nat} {p : Nat → Option (List UInt8)} {D : DataW Unit} (h : Pn n p D) (hD : Tk D) {ss : List Int} (hs : ss.Perm (intKeys D)) : ss.mergeSort (fun x y => decide (x ≤ y)) = (pks n p).map (fun i : Nat => (i : Int)) := by
  have e := mergeSort_of_perm_i (hs.trans (h.perm hD).symm)
  refine e.trans (List.mergeSort_of_pairwise ?_)
  refine List.pairwise_map.2 ((pks_lt n p).imp fun h => ?_)
  simp only [leI, decide_eq_true_eq]
  omega
theorem Pn.size {n : Nat} {p : Nat → Option (List UInt8)} {D : DataW Unit} (h : Pn n p D) (hD : Tk D) : Maps.size D = (pks n p).length := by
  have e := (h.perm hD).length_eq
  obtain ⟨es, rfl, hp, _⟩ := hD
  simpa [intKeys, Maps.size_eq] using e.symm
end Go.Proofs.Ytkpfpfjjkcefkaa
