import Derived.Test.YtmldibbbfmnckaaDoorCO2
import Derived.SliceStrings
import Derived.Lib.SmallJoins
import Derived.Test.YtmldibbbfmnckaaDoorCR5
namespace Go.Proofs.YtmldibbbfmnckaaDoor
open Go.ChangeShapes Go.WideShapes Go.ChangeAt Go.RowKit

theorem bulk_one {H : Type} (d : DataW H) : 1 ≤ Rows.uptoBulk d := by
  cases d with
  | lit l => cases l <;> simp [Rows.uptoBulk]
  | _ => simp [Rows.uptoBulk]
theorem small_all {H : Type} {l : List (DataW H)} (h : Rows.uptoSmall H l = true) : Rows.uptoBulkAll l ≤ 1048576 := of_decide_eq_true h
theorem bulk_str {H : Type} (b : List UInt8) : Rows.uptoBulk (DataW.lit (H := H) (.string b)) = b.length + 1 := by simp [Rows.uptoBulk]
theorem bulk_strs {H : Type} (ss : List ByteArray) : Rows.uptoBulkAll (strs (H := H) ss) = total (ss.map (·.data.toList)) + ss.length := by
  induction ss with
  | nil => simp [strs, Rows.uptoBulkAll, total]
  | cons s ss ih =>
    simp only [strs, total, List.map_cons, Rows.uptoBulkAll, bulk_str, List.flatten_cons, List.length_append, List.length_cons] at *
    omega
theorem cellsS : Tryd.prog.cellsOf 9 = 1 := by kernel_rfl
theorem cellsI : Tryd.prog.cellsOf 3 = 1 := by kernel_rfl
theorem bulk_lits {H : Type} (k : IntKind) (zs : List Int) : Rows.uptoBulkAll (lits (H := H) k zs) = zs.length := by
  induction zs with
  | nil => simp [lits, Rows.uptoBulkAll]
  | cons z zs ih =>
    simp only [lits, List.map_cons, Rows.uptoBulkAll, Rows.uptoBulk, List.length_cons] at *
    omega
theorem wf_i64 {n : Int} (h : (Lit.int .i64 n).wf = true) : -9223372036854775808 ≤ n ∧ n ≤ 9223372036854775807 := by
  simp only [Lit.wf, Bool.and_eq_true, decide_eq_true_eq] at h
  have e1 : IntKind.i64.min = -9223372036854775808 := by decide
  have e2 : IntKind.i64.max = 9223372036854775807 := by decide
  rw [e1, e2] at h
  exact h
/-- whole numbers that lie at an address -/
def AtI (w : World) (a : Option Addr) (l : List Int) : Prop := ∀ j p, l[j]? = some p → ∃ x : Addr, a = some x ∧ x.block < w.heap.size ∧ w.cell? (x.add j) = some (.int .i64 p)
set_option maxRecDepth 100000 in
/-- a slice of texts among the arguments -/
theorem open_at {H : Type} {enc : TypeId × Value → H} {W : World} {base : Nat} {v : Value} {d : DataW H} {p : List MemPlace}
    (hval : Value.okWide Tryd.prog W .any base 24 v) (hd : DataW.Trod enc Tryd.prog W 0 (fun _ => true) true 24 v d p) :
    ∃ a l cap, v = .slice a l.length cap ∧ At W a l ∧ l.length ≤ cap ∧ cap ≤ 9223372036854775807 ∧ total l + l.length ≤ Rows.uptoBulk d := by
  obtain ⟨a0, len0, cap0, rfl⟩ := okWide_slice Tryd.underlying24 hval
  obtain ⟨fuel, hf⟩ := hd
  rcases open_strings Tryd.underlying24 Tryd.underlying9 cellsS hf with ⟨hcs, hx⟩ | ⟨a, len, cap, ss, hcs, _, hl, hm, hz, hx, hcell, hsz⟩
  · simp [Value.cells] at hcs
    obtain ⟨rfl, rfl, rfl⟩ := hcs
    exact ⟨none, [], 0, rfl, At.nil _ _, by simp, by omega, by simp [total]⟩
  · simp [Value.cells] at hcs
    obtain ⟨rfl, rfl, rfl⟩ := hcs
    simp only [Prod.mk.injEq] at hx
    obtain ⟨rfl, _⟩ := hx
    simp only [if_true] at hz
    have hlen : ((ss.take len0).map (·.data.toList)).length = len0 := by simp; omega
    refine ⟨some a, (ss.take len0).map (·.data.toList), cap0, by rw [hlen], fun j p hp => ?_, by omega, hm, ?_⟩
    · rw [List.getElem?_map, Option.map_eq_some_iff] at hp
      obtain ⟨s, hs, rfl⟩ := hp
      rw [List.getElem?_take] at hs
      split at hs
      · have hj := (List.getElem?_eq_some_iff.1 hs).1
        have hc := hcell j hj
        rw [List.getD_eq_getElem?_getD, hs] at hc
        refine ⟨a, rfl, ?_, hc⟩
        have := block_lt_of_cell hc
        rwa [addr_block] at this
      · cases hs
    · have h1 := bulk_strs (H := H) (ss.take len0)
      simp only [Rows.uptoBulk, List.length_map]
      omega
set_option maxRecDepth 100000 in
/-- a slice of whole numbers among the arguments -/
theorem open_atI {H : Type} {enc : TypeId × Value → H} {W : World} {base : Nat} {v : Value} {d : DataW H} {p : List MemPlace}
    (hval : Value.okWide Tryd.prog W .any base 22 v) (hd : DataW.Trod enc Tryd.prog W 0 (fun _ => true) true 22 v d p) :
    ∃ a l cap, v = .slice a l.length cap ∧ AtI W a l ∧ l.length ≤ cap ∧ cap ≤ 9223372036854775807 ∧ l.length ≤ Rows.uptoBulk d ∧ ∀ c ∈ l, -9223372036854775808 ≤ c ∧ c ≤ 9223372036854775807 := by
  obtain ⟨a0, len0, cap0, rfl⟩ := okWide_slice Tryd.underlying22 hval
  obtain ⟨fuel, hf⟩ := hd
  rcases open_ints Tryd.underlying22 Tryd.underlying3 cellsI hf with ⟨hcs, hx⟩ | ⟨a, len, cap, zs, hcs, _, hl, hm, hz, hx, hcell, hwf⟩
  · simp [Value.cells] at hcs
    obtain ⟨rfl, rfl, rfl⟩ := hcs
    exact ⟨none, [], 0, rfl, fun j p hp => by simp at hp, by simp, by omega, by simp, fun c hc => by simp at hc⟩
  · simp [Value.cells] at hcs
    obtain ⟨rfl, rfl, rfl⟩ := hcs
    simp only [Prod.mk.injEq] at hx
    obtain ⟨rfl, _⟩ := hx
    simp only [if_true] at hz
    have hlen : (zs.take len0).length = len0 := by simp; omega
    refine ⟨some a, zs.take len0, cap0, by rw [hlen], fun j c hc => ?_, by omega, hm, ?_, fun c hc => wf_i64 (hwf c (List.mem_of_mem_take hc))⟩
    · rw [List.getElem?_take] at hc
      split at hc
      · have hj := (List.getElem?_eq_some_iff.1 hc).1
        have hc' := hcell j hj
        rw [List.getD_eq_getElem?_getD, hc] at hc'
        refine ⟨a, rfl, ?_, hc'⟩
        have := block_lt_of_cell hc'
        rwa [addr_block] at this
      · cases hc
    · have h1 := bulk_lits (H := H) .i64 (zs.take len0)
      simp only [Rows.uptoBulk]
      omega
end Go.Proofs.YtmldibbbfmnckaaDoor

namespace Go.Proofs.YtmldibbbfmnckaaDoor
open Go.ChangeShapes Go.WideShapes Go.ChangeAt Go.RowKit
theorem bytesS : Tryd.prog.bytesOf 9 = 16 := by kernel_rfl
set_option maxRecDepth 100000 in
/-- a slice of texts among the arguments, by its weight -/
theorem open_atF {H : Type} {enc : TypeId × Value → H} {W : World} {base : Nat} {v : Value} {d : DataW H} {p : List MemPlace}
    (hval : Value.okWide Tryd.prog W .any base 24 v) (hd : DataW.Trod enc Tryd.prog W 0 (fun _ => true) true 24 v d p) (hk : ∀ x ∈ DataW.weights Tryd.prog 24 d, x ≤ reachBytes) :
    ∃ a l cap, v = .slice a l.length cap ∧ At W a l ∧ l.length ≤ cap ∧ cap ≤ 9223372036854775807 ∧ l.length ≤ 8796093021952 := by
  obtain ⟨a0, len0, cap0, rfl⟩ := okWide_slice Tryd.underlying24 hval
  obtain ⟨fuel, hf⟩ := hd
  rcases open_strings Tryd.underlying24 Tryd.underlying9 cellsS hf with ⟨hcs, hx⟩ | ⟨a, len, cap, ss, hcs, _, hl, hm, hz, hx, hcell, hsz⟩
  · simp [Value.cells] at hcs
    obtain ⟨rfl, rfl, rfl⟩ := hcs
    exact ⟨none, [], 0, rfl, At.nil _ _, by simp, by omega, by simp⟩
  · simp [Value.cells] at hcs
    obtain ⟨rfl, rfl, rfl⟩ := hcs
    simp only [Prod.mk.injEq] at hx
    obtain ⟨rfl, _⟩ := hx
    simp only [if_true] at hz
    have hlen : ((ss.take len0).map (·.data.toList)).length = len0 := by simp; omega
    have hw : cap0 * 16 ≤ reachBytes := by
      refine hk _ ?_
      rw [DataW.weights, Tryd.underlying24]
      simp only [bytesS]
      have e : (strs (H := H) (ss.take len0)).length + (strs (H := H) (ss.drop len0)).length = cap0 := by simp [strs]; omega
      rw [e]
      exact List.mem_cons_self
    have hr : reachBytes = 140737488351232 := rfl
    refine ⟨some a, (ss.take len0).map (·.data.toList), cap0, by rw [hlen], fun j p hp => ?_, by omega, hm, by omega⟩
    rw [List.getElem?_map, Option.map_eq_some_iff] at hp
    obtain ⟨s, hs, rfl⟩ := hp
    rw [List.getElem?_take] at hs
    split at hs
    · have hj := (List.getElem?_eq_some_iff.1 hs).1
      have hc := hcell j hj
      rw [List.getD_eq_getElem?_getD, hs] at hc
      refine ⟨a, rfl, ?_, hc⟩
      have := block_lt_of_cell hc
      rwa [addr_block] at this
    · cases hs
theorem weights_head {H : Type} {P : Program} {t : TypeId} {ts : List TypeId} {d : DataW H} {r : List (DataW H)} (h : (DataW.weightsEach P (t :: ts) (d :: r)).all (· ≤ reachBytes) = true) : ∀ x ∈ DataW.weights P t d, x ≤ reachBytes := fun x hx => by
  have := List.all_eq_true.1 h x (by rw [DataW.weightsEach]; exact List.mem_append_left _ hx)
  simpa using this
theorem weights_mem {H : Type} {P : Program} {e : TypeId} {d : DataW H} {x : Nat} : ∀ {l : List (DataW H)}, d ∈ l → x ∈ DataW.weights P e d → x ∈ DataW.weightsAll P e l
  | [], h, _ => by cases h
  | f :: r, h, hx => by
    rw [DataW.weightsAll]
    rcases List.mem_cons.1 h with rfl | h
    · exact List.mem_append_left _ hx
    · exact List.mem_append_right _ (weights_mem h hx)
theorem weights_tail {H : Type} {P : Program} {t : TypeId} {ts : List TypeId} {d : DataW H} {r : List (DataW H)} (h : (DataW.weightsEach P (t :: ts) (d :: r)).all (· ≤ reachBytes) = true) : (DataW.weightsEach P ts r).all (· ≤ reachBytes) = true := by
  rw [List.all_eq_true] at h ⊢
  exact fun x hx => h x (by rw [DataW.weightsEach]; exact List.mem_append_right _ hx)
set_option maxRecDepth 100000 in
/-- a slice of texts among the arguments, by its weight, and by its texts' -/
theorem open_atG {H : Type} {enc : TypeId × Value → H} {W : World} {base : Nat} {v : Value} {d : DataW H} {p : List MemPlace}
    (hval : Value.okWide Tryd.prog W .any base 24 v) (hd : DataW.Trod enc Tryd.prog W 0 (fun _ => true) true 24 v d p) (hk : ∀ x ∈ DataW.weights Tryd.prog 24 d, x ≤ reachBytes) :
    ∃ a l cap, v = .slice a l.length cap ∧ At W a l ∧ l.length ≤ cap ∧ cap ≤ 9223372036854775807 ∧ l.length ≤ 8796093021952 ∧ ∀ q ∈ l, q.length ≤ 140737488351232 := by
  obtain ⟨a0, len0, cap0, rfl⟩ := okWide_slice Tryd.underlying24 hval
  obtain ⟨fuel, hf⟩ := hd
  rcases open_strings Tryd.underlying24 Tryd.underlying9 cellsS hf with ⟨hcs, hx⟩ | ⟨a, len, cap, ss, hcs, _, hl, hm, hz, hx, hcell, hsz⟩
  · simp [Value.cells] at hcs
    obtain ⟨rfl, rfl, rfl⟩ := hcs
    exact ⟨none, [], 0, rfl, At.nil _ _, by simp, by omega, by simp, by simp⟩
  · simp [Value.cells] at hcs
    obtain ⟨rfl, rfl, rfl⟩ := hcs
    simp only [Prod.mk.injEq] at hx
    obtain ⟨rfl, _⟩ := hx
    simp only [if_true] at hz
    have hlen : ((ss.take len0).map (·.data.toList)).length = len0 := by simp; omega
    have hr : reachBytes = 140737488351232 := rfl
    have hw : cap0 * 16 ≤ reachBytes := by
      refine hk _ ?_
      rw [DataW.weights, Tryd.underlying24]
      simp only [bytesS]
      have e : (strs (H := H) (ss.take len0)).length + (strs (H := H) (ss.drop len0)).length = cap0 := by simp [strs]; omega
      rw [e]
      exact List.mem_cons_self
    have hq : ∀ s ∈ ss.take len0, s.data.toList.length ≤ reachBytes := fun s hs => by
      refine hk _ ?_
      rw [DataW.weights, Tryd.underlying24]
      refine List.mem_cons_of_mem _ (List.mem_append_left _ (weights_mem (d := .lit (.string s.data.toList)) ?_ ?_))
      · unfold strs
        exact List.mem_map.2 ⟨s, hs, rfl⟩
      · simp [DataW.weights]
    refine ⟨some a, (ss.take len0).map (·.data.toList), cap0, by rw [hlen], fun j p hp => ?_, by omega, hm, by omega, fun q hq' => ?_⟩
    rotate_left
    · obtain ⟨s, hs, rfl⟩ := List.mem_map.1 hq'
      have := hq s hs
      omega
    rw [List.getElem?_map, Option.map_eq_some_iff] at hp
    obtain ⟨s, hs, rfl⟩ := hp
    rw [List.getElem?_take] at hs
    split at hs
    · have hj := (List.getElem?_eq_some_iff.1 hs).1
      have hc := hcell j hj
      rw [List.getD_eq_getElem?_getD, hs] at hc
      refine ⟨a, rfl, ?_, hc⟩
      have := block_lt_of_cell hc
      rwa [addr_block] at this
    · cases hs
set_option maxRecDepth 100000 in
/-- a text among the arguments, by its weight -/
theorem open_strG {H : Type} {enc : TypeId × Value → H} {W : World} {base : Nat} {v : Value} {d : DataW H} {p : List MemPlace}
    (hval : Value.okWide Tryd.prog W .any base 9 v) (hd : DataW.Trod enc Tryd.prog W 0 (fun _ => true) true 9 v d p) (hk : ∀ x ∈ DataW.weights Tryd.prog 9 d, x ≤ reachBytes) :
    ∃ s : List UInt8, v = sv s ∧ s.length ≤ 140737488351232 := by
  obtain ⟨s0, rfl, rfl, rfl, hs0⟩ := ChangeMaps.open_string Tryd.underlying9 hval hd
  have hr : reachBytes = 140737488351232 := rfl
  have := hk s0.data.toList.length (by simp [DataW.weights])
  exact ⟨s0.data.toList, sv_eta s0, by omega⟩
end Go.Proofs.YtmldibbbfmnckaaDoor

namespace Go.Proofs.YtmldibbbfmnckaaDoor
namespace Cut
/-- complete subtrees (where it begins, how many leaves), one behind the other, from a to b -/
def Cov : Nat → Nat → List (Nat × Nat) → Prop
  | a, b, [] => a = b
  | a, b, (p, n) :: l => p = a ∧ (∃ k, n = 2 ^ k) ∧ a % n = 0 ∧ Cov (a + n) b l
/-- no two neighbours are the halves of a complete subtree -/
def Free : List (Nat × Nat) → Prop
  | (p, n) :: (q, m) :: l => ¬ (n = m ∧ p % (2 * n) = 0) ∧ Free ((q, m) :: l)
  | _ => True
theorem Cov.le : ∀ {l : List (Nat × Nat)} {a b : Nat}, Cov a b l → a ≤ b
  | [], a, b, h => Nat.le_of_eq h
  | (p, n) :: l, a, b, h => by
    have := Cov.le h.2.2.2
    omega
theorem two_pos (k : Nat) : 0 < 2 ^ k := Nat.two_pow_pos k
theorem Free.tail {x : Nat × Nat} {l : List (Nat × Nat)} (h : Free (x :: l)) : Free l := by
  cases l with
  | nil => trivial
  | cons y l => exact h.2
theorem pow_le_of_dvd {k j : Nat} (h : 2 ^ j < 2 ^ k) : j < k := (Nat.pow_lt_pow_iff_right (by omega)).1 h
/-- what covers an aligned stretch begins with it, or with more -/
theorem first : ∀ (k p e : Nat) (n : Nat) (l : List (Nat × Nat)), p % 2 ^ k = 0 → p + 2 ^ k ≤ e → Cov p e ((p, n) :: l) → Free ((p, n) :: l) → n ≤ 2 ^ k → n = 2 ^ k
  | 0, p, e, n, l, h1, h2, h3, h4, h5 => by
    obtain ⟨_, ⟨j, rfl⟩, _⟩ := h3
    have := two_pos j
    have : (2 : Nat) ^ 0 = 1 := rfl
    omega
  | k + 1, p, e, n, l, h1, h2, h3, h4, h5 => by
    obtain ⟨_, ⟨j, hj⟩, hn, hc⟩ := h3
    have e2 : 2 ^ (k + 1) = 2 * 2 ^ k := by rw [Nat.pow_succ, Nat.mul_comm]
    by_cases he : n = 2 ^ (k + 1)
    · exact he
    · exfalso
      have hk := two_pos k
      have hjk : j < k + 1 := pow_le_of_dvd (by omega)
      have hn2 : n ≤ 2 ^ k := by rw [hj]; exact Nat.pow_le_pow_right (by omega) (by omega)
      have hpk : p % 2 ^ k = 0 := Nat.mod_eq_zero_of_dvd (Nat.dvd_trans ⟨2, by rw [e2, Nat.mul_comm]⟩ (Nat.dvd_of_mod_eq_zero h1))
      have hf := first k p e n l hpk (by omega) ⟨rfl, ⟨j, hj⟩, hn, hc⟩ h4 hn2
      subst hf
      cases l with
      | nil => have : p + 2 ^ k = e := hc; omega
      | cons y l =>
        obtain ⟨q, m⟩ := y
        obtain ⟨rfl, ⟨i, hi⟩, hm, hc'⟩ := hc
        have hm2 : m ≤ 2 ^ k := by
          rcases Nat.lt_or_ge k i with hlt | hge
          · exfalso
            have hd : 2 ^ (k + 1) ∣ m := by rw [hi]; exact Nat.pow_dvd_pow 2 (by omega)
            have h7 := Nat.dvd_trans hd (Nat.dvd_of_mod_eq_zero hm)
            have h8 := (Nat.dvd_add_right (Nat.dvd_of_mod_eq_zero h1)).1 h7
            have := Nat.le_of_dvd hk h8
            omega
          · rw [hi]; exact Nat.pow_le_pow_right (by omega) hge
        have hq : (p + 2 ^ k) % 2 ^ k = 0 := by rw [Nat.add_mod_right]; exact hpk
        have hf2 := first k (p + 2 ^ k) e m l hq (by omega) ⟨rfl, ⟨i, hi⟩, hm, hc'⟩ h4.2 hm2
        exact h4.1 ⟨hf2.symm, by rw [← e2]; exact h1⟩
/-- THERE IS ONE CUT -/
theorem unique : ∀ (l l' : List (Nat × Nat)) (a b : Nat), Cov a b l → Cov a b l' → Free l → Free l' → l = l'
  | [], [], _, _, _, _, _, _ => rfl
  | [], (p, n) :: l', a, b, h, h', _, _ => by
    have e : a = b := h
    have := Cov.le h'.2.2.2
    obtain ⟨k, hk⟩ := h'.2.1
    have := two_pos k
    omega
  | (p, n) :: l, [], a, b, h, h', _, _ => by
    have e : a = b := h'
    have := Cov.le h.2.2.2
    obtain ⟨k, hk⟩ := h.2.1
    have := two_pos k
    omega
  | (p, n) :: l, (q, m) :: l', a, b, h, h', f, f' => by
    obtain ⟨rfl, ⟨k, hk⟩, hn, hc⟩ := h
    obtain ⟨rfl, ⟨j, hj⟩, hm, hc'⟩ := h'
    have e : n = m := by
      rcases Nat.le_total n m with hle | hle
      · rw [hj] at hle hm
        have := Cov.le hc'
        rw [hj] at this
        rw [hj]
        exact first j q b n l hm this ⟨rfl, ⟨k, hk⟩, hn, hc⟩ f hle
      · rw [hk] at hle hn
        have := Cov.le hc
        rw [hk] at this
        rw [hk]
        exact (first k q b m l' hn this ⟨rfl, ⟨j, hj⟩, hm, hc'⟩ f' hle).symm
    subst e
    rw [unique l l' _ b hc hc' f.tail f'.tail]
/-- the greatest complete subtree at b that does not end behind e, from one of n on -/
def grow : Nat → Nat → Nat → Nat → Nat
  | 0, n, _, _ => n
  | f + 1, n, b, e => if b % (2 * n) = 0 ∧ b + 2 * n ≤ e then grow f (2 * n) b e else n
theorem grow_spec : ∀ (f n b e : Nat), (∃ k, n = 2 ^ k) → b % n = 0 → b + n ≤ e → e < n * 2 ^ (f + 1) → (∃ k, grow f n b e = 2 ^ k) ∧ b % grow f n b e = 0 ∧ b + grow f n b e ≤ e ∧ n ≤ grow f n b e ∧ ¬ (b % (2 * grow f n b e) = 0 ∧ b + 2 * grow f n b e ≤ e)
  | 0, n, b, e, hp, h1, h2, h3 => by
    refine ⟨hp, h1, h2, Nat.le_refl _, fun h => ?_⟩
    have : n * 2 ^ (0 + 1) = 2 * n := by rw [Nat.zero_add, Nat.pow_one, Nat.mul_comm]
    have := h.2
    show False
    simp only [grow] at *
    omega
  | f + 1, n, b, e, hp, h1, h2, h3 => by
    rw [grow]
    split
    · rename_i h
      obtain ⟨k, hk⟩ := hp
      obtain ⟨a1, a2, a3, a4, a5⟩ := grow_spec f (2 * n) b e ⟨k + 1, by rw [hk, Nat.pow_succ, Nat.mul_comm]⟩ h.1 h.2 (by rw [Nat.pow_succ] at h3; rw [Nat.mul_comm 2 n, Nat.mul_assoc, Nat.mul_comm 2]; exact h3)
      exact ⟨a1, a2, a3, by omega, a5⟩
    · rename_i h
      exact ⟨hp, h1, h2, Nat.le_refl _, h⟩
def cutF : Nat → Nat → Nat → List (Nat × Nat)
  | 0, _, _ => []
  | f + 1, b, e => if b < e then (b, grow 40 1 b e) :: cutF f (b + grow 40 1 b e) e else []
/-- the cut of [b, e) -/
def cut (b e : Nat) : List (Nat × Nat) := cutF (e - b) b e
theorem cutF_cov : ∀ (f b e : Nat), e ≤ 1099511627776 → b ≤ e → e - b ≤ f → Cov b e (cutF f b e)
  | 0, b, e, _, h1, h2 => by show b = e; omega
  | f + 1, b, e, h0, h1, h2 => by
    rw [cutF]
    split
    · rename_i h
      obtain ⟨a1, a2, a3, a4, a5⟩ := grow_spec 40 1 b e ⟨0, rfl⟩ (Nat.mod_one b) (by omega) (by rw [Nat.one_mul]; exact Nat.lt_of_le_of_lt h0 (by decide))
      exact ⟨rfl, a1, a2, cutF_cov f _ e h0 a3 (by omega)⟩
    · show b = e; omega
theorem cutF_free : ∀ (f b e : Nat), e ≤ 1099511627776 → Free (cutF f b e)
  | 0, b, e, _ => trivial
  | f + 1, b, e, h0 => by
    rw [cutF]
    split
    · rename_i h
      have ih := cutF_free f (b + grow 40 1 b e) e h0
      obtain ⟨a1, a2, a3, a4, a5⟩ := grow_spec 40 1 b e ⟨0, rfl⟩ (Nat.mod_one b) (by omega) (by rw [Nat.one_mul]; exact Nat.lt_of_le_of_lt h0 (by decide))
      generalize grow 40 1 b e = n at *
      cases f with
      | zero => trivial
      | succ f =>
        rw [cutF] at ih ⊢
        split
        · rename_i h'
          rw [if_pos h'] at ih
          obtain ⟨c1, c2, c3, c4, c5⟩ := grow_spec 40 1 (b + n) e ⟨0, rfl⟩ (Nat.mod_one _) (by omega) (by rw [Nat.one_mul]; exact Nat.lt_of_le_of_lt h0 (by decide))
          exact ⟨fun hh => a5 ⟨hh.2, by omega⟩, ih⟩
        · trivial
    · trivial
theorem cut_cov {b e : Nat} (h0 : e ≤ 1099511627776) (h1 : b ≤ e) : Cov b e (cut b e) := cutF_cov _ b e h0 h1 (Nat.le_refl _)
theorem cut_free {b e : Nat} (h0 : e ≤ 1099511627776) : Free (cut b e) := cutF_free _ b e h0
theorem cut_of {b e : Nat} {l : List (Nat × Nat)} (h0 : e ≤ 1099511627776) (h : Cov b e l) (hf : Free l) : l = cut b e := unique l _ b e h (cut_cov h0 h.le) hf (cut_free h0)
/-- a subtree is laid behind; halves become one (the list from behind) -/
def push : List (Nat × Nat) → Nat → Nat → List (Nat × Nat)
  | [], b, n => [(b, n)]
  | (p, m) :: l, b, n => if m = n ∧ p % (2 * n) = 0 then push l p (2 * n) else (b, n) :: (p, m) :: l
end Cut
end Go.Proofs.YtmldibbbfmnckaaDoor

namespace Go.Proofs.YtmldibbbfmnckaaDoor
namespace Cut
theorem cov_append : ∀ {l l' : List (Nat × Nat)} {a c : Nat}, Cov a c (l ++ l') ↔ ∃ b, Cov a b l ∧ Cov b c l'
  | [], l', a, c => ⟨fun h => ⟨a, rfl, h⟩, fun ⟨b, h1, h2⟩ => by have e : a = b := h1; subst e; exact h2⟩
  | (p, n) :: l, l', a, c => by
    refine ⟨fun h => ?_, fun ⟨b, h1, h2⟩ => ⟨h1.1, h1.2.1, h1.2.2.1, cov_append.2 ⟨b, h1.2.2.2, h2⟩⟩⟩
    obtain ⟨b, h1, h2⟩ := cov_append.1 h.2.2.2
    exact ⟨b, ⟨h.1, h.2.1, h.2.2.1, h1⟩, h2⟩
theorem free_left : ∀ {l l' : List (Nat × Nat)}, Free (l ++ l') → Free l
  | [], _, _ => trivial
  | [_], _, _ => trivial
  | _ :: y :: l, _, h => ⟨h.1, free_left (l := y :: l) h.2⟩
theorem free_snoc : ∀ {l : List (Nat × Nat)} {p m b n : Nat}, Free (l ++ [(p, m)]) → ¬ (m = n ∧ p % (2 * m) = 0) → Free (l ++ [(p, m)] ++ [(b, n)])
  | [], _, _, _, _, _, h2 => ⟨h2, trivial⟩
  | [_], _, _, _, _, h1, h2 => ⟨h1.1, h2, trivial⟩
  | _ :: y :: l, _, _, _, _, h1, h2 => ⟨h1.1, free_snoc (l := y :: l) h1.2 h2⟩
/-- what is pushed is a cut again -/
theorem push_cov : ∀ (l : List (Nat × Nat)) (a b n : Nat), Cov a b l.reverse → (∃ k, n = 2 ^ k) → b % n = 0 → Cov a (b + n) (push l b n).reverse
  | [], a, b, n, h, hp, hb => by
    have e : a = b := h
    subst e
    exact ⟨rfl, hp, hb, rfl⟩
  | (p, m) :: l, a, b, n, h, hp, hb => by
    rw [List.reverse_cons] at h
    obtain ⟨c, h1, h2⟩ := cov_append.1 h
    obtain ⟨rfl, hm, hpm, hc⟩ := h2
    have hc : p + m = b := hc
    rw [push]
    split
    · rename_i e
      obtain ⟨e1, e2⟩ := e
      subst e1
      obtain ⟨k, hk⟩ := hm
      have ih := push_cov l a p (2 * m) h1 ⟨k + 1, by rw [hk, Nat.pow_succ, Nat.mul_comm]⟩ e2
      rw [show b + m = p + 2 * m from by omega]
      exact ih
    · rw [List.reverse_cons, List.reverse_cons]
      exact cov_append.2 ⟨b, cov_append.2 ⟨p, h1, ⟨rfl, hm, hpm, hc⟩⟩, ⟨rfl, hp, hb, rfl⟩⟩
theorem push_free : ∀ (l : List (Nat × Nat)) (b n : Nat), Free l.reverse → Free (push l b n).reverse
  | [], b, n, _ => trivial
  | (p, m) :: l, b, n, h => by
    rw [push]
    rw [List.reverse_cons] at h
    split
    · exact push_free l p (2 * n) (free_left h)
    · rename_i e
      rw [List.reverse_cons, List.reverse_cons]
      exact free_snoc h fun hh => e ⟨hh.1, by rw [← hh.1]; exact hh.2⟩
/-- ADD AND JOIN: a complete subtree behind a cut -/
theorem push_cut {a b n : Nat} (h0 : b + n ≤ 1099511627776) (h1 : a ≤ b) (hp : ∃ k, n = 2 ^ k) (hb : b % n = 0) : (push (cut a b).reverse b n).reverse = cut a (b + n) := by
  refine cut_of h0 (push_cov _ a b n ?_ hp hb) (push_free _ b n ?_)
  · rw [List.reverse_reverse]; exact cut_cov (by omega) h1
  · rw [List.reverse_reverse]; exact cut_free (by omega)
theorem push_one {a b : Nat} (h0 : b + 1 ≤ 1099511627776) (h1 : a ≤ b) : (push (cut a b).reverse b 1).reverse = cut a (b + 1) := push_cut h0 h1 ⟨0, rfl⟩ (Nat.mod_one b)
/-- all subtrees of a cut, laid behind another one -/
def pushAll : List (Nat × Nat) → List (Nat × Nat) → List (Nat × Nat)
  | st, [] => st
  | st, (b, n) :: l => pushAll (push st b n) l
theorem pushAll_cov : ∀ (l st : List (Nat × Nat)) (a b c : Nat), Cov a b st.reverse → Cov b c l → Cov a c (pushAll st l).reverse
  | [], st, a, b, c, h, h' => by have e : b = c := h'; subst e; exact h
  | (p, n) :: l, st, a, b, c, h, h' => by
    obtain ⟨rfl, hp, hb, hc⟩ := h'
    exact pushAll_cov l _ a _ c (push_cov st a p n h hp hb) hc
theorem pushAll_free : ∀ (l st : List (Nat × Nat)), Free st.reverse → Free (pushAll st l).reverse
  | [], _, h => h
  | (p, n) :: l, st, h => pushAll_free l _ (push_free st p n h)
/-- two cuts that meet, joined, are the cut of both -/
theorem join_cut {a b c : Nat} (h0 : c ≤ 1099511627776) (h1 : a ≤ b) (h2 : b ≤ c) : (pushAll (cut a b).reverse (cut b c)).reverse = cut a c := by
  refine cut_of h0 (pushAll_cov _ _ a b c ?_ (cut_cov h0 h2)) (pushAll_free _ _ ?_)
  · rw [List.reverse_reverse]; exact cut_cov (by omega) h1
  · rw [List.reverse_reverse]; exact cut_free (by omega)
end Cut
end Go.Proofs.YtmldibbbfmnckaaDoor

namespace Go.Proofs.YtmldibbbfmnckaaDoor
namespace Cut
open Tree
/-- with their hashes -/
def pushH : List ((Nat × Nat) × T) → Nat → Nat → T → List ((Nat × Nat) × T)
  | [], b, n, x => [((b, n), x)]
  | ((p, m), y) :: l, b, n, x => if m = n ∧ p % (2 * n) = 0 then pushH l p (2 * n) (nd y x) else ((b, n), x) :: ((p, m), y) :: l
theorem pushH_fst : ∀ (l : List ((Nat × Nat) × T)) (b n : Nat) (x : T), (pushH l b n x).map Prod.fst = push (l.map Prod.fst) b n
  | [], _, _, _ => rfl
  | ((p, m), y) :: l, b, n, x => by
    rw [pushH, List.map_cons, push]
    split
    · exact pushH_fst l p (2 * n) (nd y x)
    · rfl
/-- each one has its hash -/
def All (h : Nat × Nat → T) (l : List ((Nat × Nat) × T)) : Prop := ∀ q ∈ l, q.2 = h q.1
/-- a subtree's hash is the node of its halves', within [a, c) -/
def Nodes (h : Nat × Nat → T) (a c : Nat) : Prop := ∀ p n, a ≤ p → p + 2 * n ≤ c → (∃ k, n = 2 ^ k) → p % (2 * n) = 0 → h (p, 2 * n) = nd (h (p, n)) (h (p + n, n))
theorem pushH_all {h : Nat × Nat → T} {a c : Nat} (hN : Nodes h a c) : ∀ (l : List ((Nat × Nat) × T)) (b n : Nat) (x : T), Cov a b (l.map Prod.fst).reverse → (∃ k, n = 2 ^ k) → b + n ≤ c → All h l → x = h (b, n) → All h (pushH l b n x)
  | [], b, n, x, _, _, _, _, hx => fun q hq => by
    rw [pushH, List.mem_singleton] at hq
    subst hq
    exact hx
  | ((p, m), y) :: l, b, n, x, hc, hp, hb, hA, hx => by
    rw [List.map_cons, List.reverse_cons] at hc
    obtain ⟨d, h1, h2⟩ := cov_append.1 hc
    obtain ⟨rfl, hm, hpm, he⟩ := h2
    have he : p + m = b := he
    have hy : y = h (p, m) := hA ((p, m), y) List.mem_cons_self
    rw [pushH]
    split
    · rename_i e
      obtain ⟨e1, e2⟩ := e
      subst e1
      obtain ⟨k, hk⟩ := hm
      refine pushH_all hN l p (2 * m) (nd y x) h1 ⟨k + 1, by rw [hk, Nat.pow_succ, Nat.mul_comm]⟩ (by omega) (fun q hq => hA q (List.mem_cons_of_mem _ hq)) ?_
      rw [hN p m h1.le (by omega) ⟨k, hk⟩ e2, hy, hx, he]
    · intro q hq
      rcases List.mem_cons.1 hq with rfl | hq
      · exact hx
      · exact hA q hq
/-- the hashes of a list that has them are those of its subtrees, in order -/
theorem All.snd : ∀ {h : Nat × Nat → T} {l : List ((Nat × Nat) × T)}, All h l → l.map Prod.snd = (l.map Prod.fst).map h
  | _, [], _ => rfl
  | h, q :: l, hA => by
    rw [List.map_cons, List.map_cons, List.map_cons, hA q List.mem_cons_self, All.snd (fun r hr => hA r (List.mem_cons_of_mem _ hr))]
/-- the hash of a subtree of leaves that begin at a -/
def lh (L : List T) (a : Nat) (q : Nat × Nat) : T := root ((L.drop (q.1 - a)).take q.2)
theorem lh_nodes (L : List T) (a : Nat) : Nodes (lh L a) a (a + L.length) := fun p n h1 h2 ⟨k, hk⟩ _ => by
  have hn := two_pos k
  have hl : ((L.drop (p - a)).take (2 * n)).length = 2 * n := by rw [List.length_take, List.length_drop]; omega
  have hs : sp (2 * n) = n := by
    rw [hk]
    exact sp_one (by omega) k (by omega) (by omega)
  show root ((L.drop (p - a)).take (2 * n)) = nd (root ((L.drop (p - a)).take n)) (root ((L.drop (p + n - a)).take n))
  rw [root_cut (by rw [hl]; omega), hl, hs, List.take_take, List.drop_take, List.drop_drop, show min n (2 * n) = n from by omega, show 2 * n - n = n from by omega, show p - a + n = p + n - a from by omega]
/-- from behind: F2 -/
def fold : List T → T
  | [] => Sha.sha []
  | [x] => x
  | x :: y :: l => nd x (fold (y :: l))
theorem Cov.ge : ∀ {l : List (Nat × Nat)} {a b : Nat}, Cov a b l → ∀ q ∈ l, a ≤ q.1
  | [], _, _, _, q, hq => by cases hq
  | (p, n) :: l, a, b, h, q, hq => by
    rcases List.mem_cons.1 hq with rfl | hq
    · exact Nat.le_of_eq h.1.symm
    · have := Cov.ge h.2.2.2 q hq
      omega
/-- THE EDGE'S ROOT is the definitions' -/
theorem fold_root : ∀ (f : Nat) (L : List T) (b K : Nat), L.length ≤ f → 1 ≤ L.length → b % 2 ^ K = 0 → L.length ≤ 2 ^ K → b + L.length ≤ 1099511627776 → fold ((cut b (b + L.length)).map (lh L b)) = root L
  | 0, L, b, K, h0, h1, _, _, _ => by omega
  | f + 1, L, b, K, h0, h1, h2, h3, h4 => by
    obtain ⟨n, hn⟩ : ∃ n, L.length = n := ⟨_, rfl⟩
    rw [hn] at h0 h1 h3 h4 ⊢
    have hc := cut_cov (b := b) (e := b + n) h4 (by omega)
    have hf := cut_free (b := b) (e := b + n) h4
    have hj1 := Nat.log2_self_le (n := n) (by omega)
    have hj2 := Nat.lt_log2_self (n := n)
    obtain ⟨j, hj⟩ : ∃ j, n.log2 = j := ⟨_, rfl⟩
    rw [hj] at hj1 hj2
    have hj3 : 2 ^ (j + 1) = 2 * 2 ^ j := by rw [Nat.pow_succ, Nat.mul_comm]
    have hjp := two_pos j
    have hjK : j ≤ K := by
      rcases Nat.lt_or_ge K j with hlt | hge
      · have : 2 ^ (K + 1) ≤ 2 ^ j := Nat.pow_le_pow_right (by omega) hlt
        have e : 2 ^ (K + 1) = 2 * 2 ^ K := by rw [Nat.pow_succ, Nat.mul_comm]
        have := two_pos K
        omega
      · exact hge
    have hbj : b % 2 ^ j = 0 := Nat.mod_eq_zero_of_dvd (Nat.dvd_trans (Nat.pow_dvd_pow 2 hjK) (Nat.dvd_of_mod_eq_zero h2))
    cases hl : cut b (b + n) with
    | nil =>
      rw [hl] at hc
      have e : b = b + n := hc
      omega
    | cons y l =>
      obtain ⟨p, m⟩ := y
      rw [hl] at hc hf
      have hc0 := hc
      obtain ⟨rfl, ⟨i, hi⟩, hm, hr⟩ := hc
      have hle := hr.le
      have hmj : m ≤ 2 ^ j := by
        rcases Nat.lt_or_ge j i with hlt | hge
        · have : 2 ^ (j + 1) ≤ 2 ^ i := Nat.pow_le_pow_right (by omega) hlt
          omega
        · rw [hi]; exact Nat.pow_le_pow_right (by omega) hge
      have hmm := first j p (p + n) m l hbj (by omega) hc0 hf hmj
      subst hmm
      have hrest : l = cut (p + 2 ^ j) (p + n) := cut_of h4 hr hf.tail
      by_cases he : 2 ^ j = n
      · have hnil : l = [] := by
          cases l with
          | nil => rfl
          | cons y l =>
            obtain ⟨q, m⟩ := y
            obtain ⟨_, ⟨i', hi'⟩, _, hr'⟩ := hr
            have := hr'.le
            have := two_pos i'
            omega
        rw [hnil]
        show root ((L.drop (p - p)).take (2 ^ j)) = root L
        rw [Nat.sub_self, List.drop_zero, List.take_of_length_le (by omega)]
      · have hs : sp n = 2 ^ j := sp_one (by omega) j (by omega) (by omega)
        have hLd : (L.drop (2 ^ j)).length = n - 2 ^ j := by rw [List.length_drop, hn]
        have ih := fold_root f (L.drop (2 ^ j)) (p + 2 ^ j) j (by omega) (by omega) (by rw [Nat.add_mod_right]; exact hbj) (by omega) (by omega)
        rw [hLd, show p + 2 ^ j + (n - 2 ^ j) = p + n from by omega, ← hrest] at ih
        have hmap : l.map (lh (L.drop (2 ^ j)) (p + 2 ^ j)) = l.map (lh L p) := List.map_congr_left fun q hq => by
          have := hr.ge q hq
          show root (((L.drop (2 ^ j)).drop (q.1 - (p + 2 ^ j))).take q.2) = root ((L.drop (q.1 - p)).take q.2)
          rw [List.drop_drop, show 2 ^ j + (q.1 - (p + 2 ^ j)) = q.1 - p from by omega]
        rw [hmap] at ih
        cases l with
        | nil =>
          have e : p + 2 ^ j = p + n := hr
          omega
        | cons y l =>
          rw [List.map_cons, List.map_cons, fold, ← List.map_cons, ih, root_cut (l := L) (by omega), hn, hs]
          show nd (root ((L.drop (p - p)).take (2 ^ j))) _ = _
          rw [Nat.sub_self, List.drop_zero]
end Cut
end Go.Proofs.YtmldibbbfmnckaaDoor

namespace Go.Proofs.YtmldibbbfmnckaaDoor
namespace Cut
open Tree
theorem cov_pos : ∀ {l : List (Nat × Nat)} {a c : Nat}, Cov a c l → ∀ q ∈ l, 0 < q.2
  | [], _, _, _, q, hq => by cases hq
  | (p, n) :: l, a, c, h, q, hq => by
    rcases List.mem_cons.1 hq with rfl | hq
    · obtain ⟨k, hk⟩ := h.2.1
      have := two_pos k
      show 0 < n
      omega
    · exact cov_pos h.2.2.2 q hq
/-- at one place one subtree begins -/
theorem cov_begin : ∀ {l : List (Nat × Nat)} {a c p n m : Nat}, Cov a c l → (p, n) ∈ l → (p, m) ∈ l → n = m
  | [], _, _, _, _, _, _, h1, _ => by cases h1
  | (q, k) :: l, a, c, p, n, m, h, h1, h2 => by
    have hk : 0 < k := cov_pos h (q, k) List.mem_cons_self
    have hq := h.1
    rcases List.mem_cons.1 h1 with e1 | e1
    · rcases List.mem_cons.1 h2 with e2 | e2
      · rw [← e1] at e2
        injection e2 with _ e2
        exact e2.symm
      · have hg : a + k ≤ p := Cov.ge h.2.2.2 (p, m) e2
        injection e1 with e1 _
        omega
    · rcases List.mem_cons.1 h2 with e2 | e2
      · have hg : a + k ≤ p := Cov.ge h.2.2.2 (p, n) e1
        injection e2 with e2 _
        omega
      · exact cov_begin h.2.2.2 e1 e2
/-- F4: a subtree's hash, out of those that are known -/
inductive Der (K : List ((Nat × Nat) × T)) : Nat × Nat → T → Prop where
  | known {q : Nat × Nat} {x : T} : (q, x) ∈ K → Der K q x
  | node {p n : Nat} {x y : T} : Der K (p, n) x → Der K (p + n, n) y → (∀ z, ((p, 2 * n), z) ∉ K) → Der K (p, 2 * n) (nd x y)
theorem der_small {K : List ((Nat × Nat) × T)} {q : Nat × Nat} {x : T} (h : Der K q x) : ∃ m z, m ≤ q.2 ∧ ((q.1, m), z) ∈ K := by
  induction h with
  | known hm => exact ⟨_, _, Nat.le_refl _, hm⟩
  | @node p n x y h1 h2 hn ih1 ih2 =>
    obtain ⟨m, z, hm, hz⟩ := ih1
    exact ⟨m, z, by show m ≤ 2 * n; have : m ≤ n := hm; omega, hz⟩
def DerAll (K : List ((Nat × Nat) × T)) (l : List ((Nat × Nat) × T)) : Prop := ∀ q ∈ l, Der K q.1 q.2
theorem pushH_der {K : List ((Nat × Nat) × T)} {a c : Nat} (hK : Cov a c (K.map Prod.fst)) : ∀ (l : List ((Nat × Nat) × T)) (b n : Nat) (x : T), Cov a b (l.map Prod.fst).reverse → 0 < n → DerAll K l → Der K (b, n) x → DerAll K (pushH l b n x)
  | [], b, n, x, _, _, _, hx => fun q hq => by
    rw [pushH, List.mem_singleton] at hq
    subst hq
    exact hx
  | ((p, m), y) :: l, b, n, x, hc, hn, hA, hx => by
    rw [List.map_cons, List.reverse_cons] at hc
    obtain ⟨d, h1, h2⟩ := cov_append.1 hc
    obtain ⟨rfl, hm, hpm, he⟩ := h2
    have he : p + m = b := he
    have hy : Der K (p, m) y := hA ((p, m), y) List.mem_cons_self
    rw [pushH]
    split
    · rename_i e
      obtain ⟨e1, e2⟩ := e
      subst e1
      refine pushH_der hK l p (2 * m) (nd y x) h1 (by omega) (fun q hq => hA q (List.mem_cons_of_mem _ hq)) (Der.node hy (by rw [he]; exact hx) fun z hz => ?_)
      obtain ⟨m', z', hm', hz'⟩ := der_small hy
      have hm' : m' ≤ m := hm'
      have hbg : 2 * m = m' := cov_begin hK (List.mem_map_of_mem (f := Prod.fst) hz) (List.mem_map_of_mem (f := Prod.fst) hz')
      omega
    · intro q hq
      rcases List.mem_cons.1 hq with rfl | hq
      · exact hx
      · exact hA q hq
def pushAllH : List ((Nat × Nat) × T) → List ((Nat × Nat) × T) → List ((Nat × Nat) × T)
  | st, [] => st
  | st, ((b, n), x) :: l => pushAllH (pushH st b n x) l
theorem pushAllH_fst : ∀ (l st : List ((Nat × Nat) × T)), (pushAllH st l).map Prod.fst = pushAll (st.map Prod.fst) (l.map Prod.fst)
  | [], _ => rfl
  | ((b, n), x) :: l, st => by
    rw [pushAllH, pushAllH_fst l, pushH_fst, List.map_cons, pushAll]
theorem pushAllH_der {K : List ((Nat × Nat) × T)} {a c : Nat} (hK : Cov a c (K.map Prod.fst)) : ∀ (l st : List ((Nat × Nat) × T)) (b e : Nat), Cov a b (st.map Prod.fst).reverse → Cov b e (l.map Prod.fst) → DerAll K st → (∀ q ∈ l, q ∈ K) → DerAll K (pushAllH st l)
  | [], _, _, _, _, _, h, _ => h
  | ((p, n), x) :: l, st, b, e, h1, h2, h3, h4 => by
    obtain ⟨rfl, hp, hb, hc⟩ := h2
    have hn : 0 < n := by
      obtain ⟨k, hk⟩ := hp
      have := two_pos k
      omega
    refine pushAllH_der hK l _ (p + n) e ?_ hc (pushH_der hK st p n x h1 hn h3 (.known (h4 _ List.mem_cons_self))) (fun q hq => h4 q (List.mem_cons_of_mem _ hq))
    rw [pushH_fst]
    exact push_cov _ a p n h1 hp hb
/-- F6: of leaves each such hash is the definitions' -/
theorem der_nodes {K : List ((Nat × Nat) × T)} {h : Nat × Nat → T} {a c : Nat} (hN : Nodes h a c) (hA : All h K) {q : Nat × Nat} {x : T} (hd : Der K q x) (hq : a ≤ q.1 ∧ q.1 + q.2 ≤ c ∧ (∃ k, q.2 = 2 ^ k) ∧ q.1 % q.2 = 0) : x = h q := by
  induction hd with
  | known hm => exact hA _ hm
  | @node p n x y h1 h2 hn ih1 ih2 =>
    obtain ⟨q1, q2, ⟨k, q3⟩, q4⟩ := hq
    have q2 : p + 2 * n ≤ c := q2
    have q3 : 2 * n = 2 ^ k := q3
    have q4 : p % (2 * n) = 0 := q4
    have q1 : a ≤ p := q1
    cases k with
    | zero => have : (2 : Nat) ^ 0 = 1 := rfl; omega
    | succ k =>
      have e : 2 ^ (k + 1) = 2 * 2 ^ k := by rw [Nat.pow_succ, Nat.mul_comm]
      have hnk : n = 2 ^ k := by omega
      have hpn : p % n = 0 := Nat.mod_eq_zero_of_dvd (Nat.dvd_trans ⟨2, by rw [Nat.mul_comm]⟩ (Nat.dvd_of_mod_eq_zero q4))
      rw [hN p n q1 q2 ⟨k, hnk⟩ q4, ih1 ⟨q1, by show p + n ≤ c; omega, ⟨k, hnk⟩, hpn⟩, ih2 ⟨by show a ≤ p + n; omega, by show p + n + n ≤ c; omega, ⟨k, hnk⟩, by show (p + n) % n = 0; rw [Nat.add_mod_right]; exact hpn⟩]
end Cut
end Go.Proofs.YtmldibbbfmnckaaDoor
