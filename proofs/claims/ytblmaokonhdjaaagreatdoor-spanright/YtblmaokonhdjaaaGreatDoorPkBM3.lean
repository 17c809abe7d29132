import Derived.Test.YtblmaokonhdjaaaGreatDoorPkBM1
import Derived.Test.YtblmaokonhdjaaaGreatDoorPkFR6
/- THE PLAIN MATHEMATICS OF LAYER 12: hashes that are a tree's -/
namespace Go.Proofs.YtblmaokonhdjaaaGreatDoor
namespace Bat
open Tree
/-- the hash of a span of a tree -/
def rt (l : List T) (s : Nat × Nat) : T := root (seg l s.1 s.2)
theorem rt_two {l : List T} {b m : Nat} (h : 2 ≤ m) (hl : b + m ≤ l.length) : rt l (b, b + m) = nd (rt l (b, b + sp m)) (rt l (b + sp m, b + m)) := root_seg_two h hl
structure Fit (is : List Nat) (n : Nat) (l : List T) (val : Nat × Nat → T) : Prop where
  nn : ∀ b m, 2 ≤ m → tch is b (b + m) = true → val (b, b + m) = nd (val (b, b + sp m)) (val (b + sp m, b + m))
  tt : ∀ s ∈ othF n 0 n is, val s = rt l s
  ll : ∀ i ∈ is, val (i, i + 1) = rt l (i, i + 1)
  hn : n ≤ l.length
theorem Fit.down {is : List Nat} {n : Nat} {l : List T} {val : Nat × Nat → T} (h : Fit is n l val) : ∀ (f b m : Nat), 1 ≤ m → m ≤ f → b + m ≤ n → (∀ s ∈ othF f b m is, val s = rt l s) → val (b, b + m) = rt l (b, b + m)
  | 0, b, m, h1, h2, _, _ => by omega
  | f + 1, b, m, h1, h2, h3, ho => by
    cases ht : tch is b (b + m) with
    | false => exact ho _ (by rw [othF_no ht]; exact List.mem_singleton.2 rfl)
    | true =>
      by_cases hm : m < 2
      · obtain rfl : m = 1 := by omega
        obtain ⟨i, hi, h4, h5⟩ := tch_mem.1 ht
        obtain rfl : i = b := by omega
        exact h.ll i hi
      · have s1 := sp_lt (n := m) (by omega)
        have s2 := sp_pos (n := m) (by omega)
        rw [othF_two ht (by omega)] at ho
        rw [h.nn b m (by omega) ht, rt_two (by omega) (by have := h.hn; omega), h.down f b (sp m) (by omega) (by omega) (by omega) (fun s hs => ho s (List.mem_append_left _ hs))]
        have := h.down f (b + sp m) (m - sp m) (by omega) (by omega) (by omega) (fun s hs => ho s (List.mem_append_right _ hs))
        rw [show b + sp m + (m - sp m) = b + m by omega] at this
        rw [this]
theorem Fit.sub {is : List Nat} {n : Nat} {l : List T} {val : Nat × Nat → T} (h : Fit is n l val) : ∀ (f b m x y : Nat), 1 ≤ m → m ≤ f → b + m ≤ n → (∀ s ∈ othF f b m is, val s = rt l s) → insF f b m x y = true → tch is x y = true → val (x, y) = rt l (x, y)
  | 0, b, m, x, y, h1, h2, _, _, _, _ => by omega
  | f + 1, b, m, x, y, h1, h2, h3, ho, hi, ht => by
    have hin := insF_in (f + 1) b m x y hi h1
    rcases insF_cases hi with e | ⟨h6, _⟩ | ⟨h6, _⟩
    · obtain ⟨rfl, rfl⟩ := e
      exact h.down (f + 1) x m h1 h2 h3 ho
    · by_cases he : x = b ∧ y = b + m
      · obtain ⟨rfl, rfl⟩ := he
        exact h.down (f + 1) x m h1 h2 h3 ho
      · have hm : 2 ≤ m := by
          rcases Nat.lt_or_ge m 2 with c | c
          · exfalso; apply he; omega
          · exact c
        have s1 := sp_lt (n := m) hm
        have s2 := sp_pos (n := m) hm
        rw [othF_two (tch_sub ht (by omega) (by omega)) hm] at ho
        rw [insF, if_neg he, if_neg (by omega), if_pos h6] at hi
        exact h.sub f b (sp m) x y (by omega) (by omega) (by omega) (fun s hs => ho s (List.mem_append_left _ hs)) hi ht
    · by_cases he : x = b ∧ y = b + m
      · obtain ⟨rfl, rfl⟩ := he
        exact h.down (f + 1) x m h1 h2 h3 ho
      · have hm : 2 ≤ m := by
          rcases Nat.lt_or_ge m 2 with c | c
          · exfalso; apply he; omega
          · exact c
        have s1 := sp_lt (n := m) hm
        have s2 := sp_pos (n := m) hm
        rw [othF_two (tch_sub ht (by omega) (by omega)) hm] at ho
        rw [insF, if_neg he, if_neg (by omega), if_neg (by omega), if_pos h6] at hi
        exact h.sub f (b + sp m) (m - sp m) x y (by omega) (by omega) (by omega) (fun s hs => ho s (List.mem_append_right _ hs)) hi ht
theorem Fit.root {is : List Nat} {n : Nat} {l : List T} {val : Nat × Nat → T} (h : Fit is n l val) (h1 : 1 ≤ n) : val (0, n) = Tree.root (l.take n) := by
  have := h.down n 0 n h1 (Nat.le_refl _) (by omega) h.tt
  rw [Nat.zero_add] at this
  rw [this]
  show Tree.root (seg l 0 n) = _
  simp [seg]
theorem Fit.path {is : List Nat} {n : Nat} {l : List T} {val : Nat × Nat → T} (h : Fit is n l val) {i : Nat} (hi : i ∈ is) (hn : i < n) : (pthF n 0 n i).map val = path i (l.take n) := by
  obtain ⟨n', rfl⟩ : ∃ n', n = n' + 1 := ⟨n - 1, by omega⟩
  have hs := insF_self (f := n') (b := 0) (n := n' + 1)
  have key := pth_known hi (fun s => val s = rt l s) (by omega) (fun x y h1 h2 => h.sub (n' + 1) 0 (n' + 1) x y (by omega) (Nat.le_refl _) (by omega) h.tt h1 h2) (n' + 1) 0 (n' + 1) (by omega) (Nat.le_refl _) (by omega) (by omega) hs h.tt
  rw [List.map_congr_left key]
  have e := pthF_hash l (n' + 1) 0 (n' + 1) i (Nat.le_refl _) (Nat.zero_le _) (by omega) (by have := h.hn; omega)
  rw [Nat.zero_add, Nat.sub_zero] at e
  rw [show seg l 0 (n' + 1) = l.take (n' + 1) by simp [seg]] at e
  exact e
/-- told hashes of a tree, and its leaves -/
theorem Val.fit {is : List Nat} {n : Nat} {l H L : List T} {val : Nat × Nat → T} (V : Val is n H L val) (hn : n ≤ l.length) (hi : ∀ i ∈ is, i < n) (hH : H = (othF n 0 n is).map (rt l)) (hL : ∀ (k : Nat) (i : Nat), is[k]? = some i → L[k]? = l[i]?) : Fit is n l val := by
  refine ⟨V.n, fun s hs => ?_, fun i hm => ?_, hn⟩
  · have e := V.h.symm.trans hH
    obtain ⟨k, hk, rfl⟩ := List.mem_iff_getElem.1 hs
    have := congrArg (fun l => l[k]?) e
    simpa [hk] using this
  · obtain ⟨k, hk, e⟩ := List.mem_iff_getElem.1 hm
    have h1 := hL k i (by rw [List.getElem?_eq_getElem hk, e])
    have h2 := V.l
    have hil := hi i hm
    rw [h2, List.getElem?_map, List.getElem?_eq_getElem hk, e, Option.map_some, List.getElem?_eq_getElem (by omega)] at h1
    have h3 := Option.some.inj h1
    rw [h3]
    show _ = Tree.root (seg l i (i + 1))
    rw [show seg l i (i + 1) = [l[i]'(by omega)] by
      have hlt : i < l.length := by omega
      unfold seg
      rw [List.take_add_one, List.getElem?_eq_getElem hlt, List.drop_append_of_le_length (by rw [List.length_take]; omega), List.drop_of_length_le (by rw [List.length_take]; omega)]
      rfl]
    exact (root_one _).symm
end Bat
end Go.Proofs.YtblmaokonhdjaaaGreatDoor

/- THE PLAIN MATHEMATICS OF LAYER 14: a run of leaves, what is told beside it, and what it folds to; nothing of the program. -/
namespace Go.Proofs.YtblmaokonhdjaaaGreatDoor
namespace Spn
open Tree
/-- the leaves of a run -/
abbrev rix (s e : Nat) : List Nat := List.range' s (e - s)
theorem mem_rix {s e i : Nat} : i ∈ rix s e ↔ s ≤ i ∧ i < e := by rw [rix, List.mem_range'_1]; omega
theorem tch_rix {s e b m : Nat} (h : s < e) (hm : 1 ≤ m) : tch (rix s e) b (b + m) = true ↔ ¬ (b + m ≤ s ∨ e ≤ b) := by
  rw [tch_mem]
  constructor
  · rintro ⟨i, hi, h1, h2⟩
    have := mem_rix.1 hi
    omega
  · intro hh
    exact ⟨max s b, mem_rix.2 (by omega), by omega, by omega⟩
theorem tch_no {s e b m : Nat} (h : s < e) (hm : 1 ≤ m) (hh : b + m ≤ s ∨ e ≤ b) : tch (rix s e) b (b + m) = false := by
  cases ht : tch (rix s e) b (b + m) with
  | false => rfl
  | true => exact absurd hh ((tch_rix h hm).1 ht)
theorem run_nil {f b n x y : Nat} (h1 : 1 ≤ n) (h : x ≤ b) (h2 : b + n ≤ y) : runF (f + 1) b n x y = [] := by
  rw [runF, if_neg (by omega), if_pos ⟨h, h2⟩]
/-- what is told beside a run is what is told beside its leaves -/
theorem oth_run {s e : Nat} (hse : s < e) : ∀ (f b n : Nat), 1 ≤ n → n ≤ f → othF f b n (rix s e) = runF f b n s e
  | 0, b, n, h1, h2 => by omega
  | f + 1, b, n, h1, h2 => by
    by_cases h3 : b + n ≤ s ∨ e ≤ b
    · rw [othF_no (tch_no hse h1 h3), runF, if_pos h3]
    · have ht := (tch_rix hse h1).2 h3
      by_cases hn : n < 2
      · rw [othF_one ht hn, run_nil h1 (by omega) (by omega)]
      · have s1 := sp_lt (n := n) (by omega)
        have s2 := sp_pos (n := n) (by omega)
        rw [othF_two ht (by omega), oth_run hse f b (sp n) (by omega) (by omega), oth_run hse f (b + sp n) (n - sp n) (by omega) (by omega), runF, if_neg h3]
        by_cases h4 : s ≤ b ∧ b + n ≤ e
        · obtain ⟨g, rfl⟩ : ∃ g, f = g + 1 := ⟨f - 1, by omega⟩
          rw [if_pos h4, run_nil (by omega) (by omega) (by omega), run_nil (by omega) (by omega) (by omega)]
          rfl
        · rw [if_neg h4]
/-- how many are told -/
theorem run_left {x y : Nat} : ∀ (d f b n : Nat), 1 ≤ n → n ≤ f → n ≤ 2 ^ d → x ≤ b → (runF f b n x y).length ≤ d + 1
  | _, 0, b, n, h1, h2, _, _ => by omega
  | d, f + 1, b, n, h1, h2, h3, h4 => by
    rw [runF]
    by_cases c1 : b + n ≤ x ∨ y ≤ b
    · rw [if_pos c1]; simp
    · rw [if_neg c1]
      by_cases c2 : x ≤ b ∧ b + n ≤ y
      · rw [if_pos c2]; simp
      · rw [if_neg c2]
        have hn : 2 ≤ n := by
          rcases Nat.lt_or_ge n 2 with c | c
          · exfalso; apply c2; omega
          · exact c
        obtain ⟨a, e1, e2, e3⟩ := sp_pow hn
        have s1 := sp_lt hn
        have s2 := sp_pos hn
        cases d with
        | zero => have : (2 : Nat) ^ 0 = 1 := rfl; omega
        | succ d =>
          have ha : a ≤ d := by
            rcases Nat.lt_or_ge d a with c | c
            · have := Nat.pow_le_pow_right (n := 2) (by omega) c
              omega
            · exact c
          have ha2 := Nat.pow_le_pow_right (n := 2) (by omega) ha
          have ha3 : 2 ^ (a + 1) = 2 * 2 ^ a := by rw [Nat.pow_succ, Nat.mul_comm]
          obtain ⟨g, rfl⟩ : ∃ g, f = g + 1 := ⟨f - 1, by omega⟩
          rw [List.length_append]
          by_cases c3 : b + sp n ≤ y
          · rw [run_nil (by omega) h4 c3]
            have := run_left (x := x) (y := y) d (g + 1) (b + sp n) (n - sp n) (by omega) (by omega) (by omega) (by omega)
            simp only [List.length_nil]
            omega
          · have := run_left (x := x) (y := y) d (g + 1) b (sp n) (by omega) (by omega) (by omega) h4
            rw [show runF (g + 1) (b + sp n) (n - sp n) x y = [(b + sp n, b + sp n + (n - sp n))] from by rw [runF, if_pos (by omega)]]
            simp only [List.length_cons, List.length_nil]
            omega
theorem run_right {x y : Nat} : ∀ (d f b n : Nat), 1 ≤ n → n ≤ f → n ≤ 2 ^ d → b + n ≤ y → (runF f b n x y).length ≤ d + 1
  | _, 0, b, n, h1, h2, _, _ => by omega
  | d, f + 1, b, n, h1, h2, h3, h4 => by
    rw [runF]
    by_cases c1 : b + n ≤ x ∨ y ≤ b
    · rw [if_pos c1]; simp
    · rw [if_neg c1]
      by_cases c2 : x ≤ b ∧ b + n ≤ y
      · rw [if_pos c2]; simp
      · rw [if_neg c2]
        have hn : 2 ≤ n := by
          rcases Nat.lt_or_ge n 2 with c | c
          · exfalso; apply c2; omega
          · exact c
        obtain ⟨a, e1, e2, e3⟩ := sp_pow hn
        have s1 := sp_lt hn
        have s2 := sp_pos hn
        cases d with
        | zero => have : (2 : Nat) ^ 0 = 1 := rfl; omega
        | succ d =>
          have ha : a ≤ d := by
            rcases Nat.lt_or_ge d a with c | c
            · have := Nat.pow_le_pow_right (n := 2) (by omega) c
              omega
            · exact c
          have ha2 := Nat.pow_le_pow_right (n := 2) (by omega) ha
          have ha3 : 2 ^ (a + 1) = 2 * 2 ^ a := by rw [Nat.pow_succ, Nat.mul_comm]
          obtain ⟨g, rfl⟩ : ∃ g, f = g + 1 := ⟨f - 1, by omega⟩
          rw [List.length_append]
          by_cases c3 : x ≤ b + sp n
          · rw [run_nil (f := g) (b := b + sp n) (by omega) c3 (by omega)]
            have := run_right (x := x) (y := y) d (g + 1) b (sp n) (by omega) (by omega) (by omega) (by omega)
            simp only [List.length_nil]
            omega
          · have := run_right (x := x) (y := y) d (g + 1) (b + sp n) (n - sp n) (by omega) (by omega) (by omega) (by omega)
            rw [show runF (g + 1) b (sp n) x y = [(b, b + sp n)] from by rw [runF, if_pos (by omega)]]
            simp only [List.length_cons, List.length_nil]
            omega
theorem run_len {x y : Nat} : ∀ (d f b n : Nat), 1 ≤ n → n ≤ f → n ≤ 2 ^ d → (runF f b n x y).length ≤ 2 * d + 1
  | _, 0, b, n, h1, h2, _ => by omega
  | d, f + 1, b, n, h1, h2, h3 => by
    rw [runF]
    by_cases c1 : b + n ≤ x ∨ y ≤ b
    · rw [if_pos c1]; simp
    · rw [if_neg c1]
      by_cases c2 : x ≤ b ∧ b + n ≤ y
      · rw [if_pos c2]; simp
      · rw [if_neg c2]
        have hn : 2 ≤ n := by
          rcases Nat.lt_or_ge n 2 with c | c
          · exfalso; apply c2; omega
          · exact c
        obtain ⟨a, e1, e2, e3⟩ := sp_pow hn
        have s1 := sp_lt hn
        have s2 := sp_pos hn
        cases d with
        | zero => have : (2 : Nat) ^ 0 = 1 := rfl; omega
        | succ d =>
          have ha : a ≤ d := by
            rcases Nat.lt_or_ge d a with c | c
            · have := Nat.pow_le_pow_right (n := 2) (by omega) c
              omega
            · exact c
          have ha2 := Nat.pow_le_pow_right (n := 2) (by omega) ha
          have ha3 : 2 ^ (a + 1) = 2 * 2 ^ a := by rw [Nat.pow_succ, Nat.mul_comm]
          obtain ⟨g, rfl⟩ : ∃ g, f = g + 1 := ⟨f - 1, by omega⟩
          rw [List.length_append]
          by_cases c3 : y ≤ b + sp n
          · have := run_len (x := x) (y := y) d (g + 1) b (sp n) (by omega) (by omega) (by omega)
            rw [show runF (g + 1) (b + sp n) (n - sp n) x y = [(b + sp n, b + sp n + (n - sp n))] from by rw [runF, if_pos (by omega)]]
            simp only [List.length_cons, List.length_nil]
            omega
          · by_cases c4 : b + sp n ≤ x
            · have := run_len (x := x) (y := y) d (g + 1) (b + sp n) (n - sp n) (by omega) (by omega) (by omega)
              rw [show runF (g + 1) b (sp n) x y = [(b, b + sp n)] from by rw [runF, if_pos (by omega)]]
              simp only [List.length_cons, List.length_nil]
              omega
            · have h5 := run_right (x := x) (y := y) d (g + 1) b (sp n) (by omega) (by omega) (by omega) (by omega)
              have h6 := run_left (x := x) (y := y) d (g + 1) (b + sp n) (n - sp n) (by omega) (by omega) (by omega) (by omega)
              omega
theorem told_len {n s e : Nat} (h1 : 1 ≤ n) (h2 : n ≤ 1099511627776) : (runF n 0 n s e).length ≤ 81 := run_len 40 n 0 n h1 (Nat.le_refl _) h2
/-- the spans of a cut -/
def csp (b e : Nat) : List (Nat × Nat) := (Cut.cut b e).map fun q => (q.1, q.1 + q.2)
theorem csp_len {b e : Nat} (h0 : e ≤ 1099511627776) (h : b ≤ e) : (csp b e).length ≤ 81 := by rw [csp, List.length_map]; exact Cut.cut_len h0 h
theorem cov_hit : ∀ {l : List (Nat × Nat)} {a b i : Nat}, Cut.Cov a b l → a ≤ i → i < b → ∃ q ∈ l, q.1 ≤ i ∧ i < q.1 + q.2
  | [], a, b, i, h, h1, h2 => by have e : a = b := h; omega
  | (p, n) :: l, a, b, i, h, h1, h2 => by
    obtain ⟨rfl, _, _, hc⟩ := h
    by_cases c : i < p + n
    · exact ⟨(p, n), List.mem_cons_self, h1, c⟩
    · obtain ⟨q, hq, h3⟩ := cov_hit hc (by omega) h2
      exact ⟨q, List.mem_cons_of_mem _ hq, h3⟩
theorem cov_pow : ∀ {l : List (Nat × Nat)} {a b : Nat}, Cut.Cov a b l → ∀ q ∈ l, ∃ k, q.2 = 2 ^ k ∧ q.1 % 2 ^ k = 0
  | [], a, b, h, q, hq => by cases hq
  | (p, n) :: l, a, b, h, q, hq => by
    obtain ⟨rfl, ⟨k, hk⟩, hm, hc⟩ := h
    rcases List.mem_cons.1 hq with rfl | hq
    · exact ⟨k, hk, by rw [← hk]; exact hm⟩
    · exact cov_pow hc q hq
/-- an aligned block does not lie over an aligned place -/
theorem no_over {p k c j : Nat} (hp : p % 2 ^ k = 0) (hc : c % 2 ^ j = 0) (hkj : k ≤ j) (h1 : p < c) : p + 2 ^ k ≤ c := by
  have hck : c % 2 ^ k = 0 := Cut.mod_of_le hkj hc
  obtain ⟨x, rfl⟩ := Nat.dvd_of_mod_eq_zero hp
  obtain ⟨y, rfl⟩ := Nat.dvd_of_mod_eq_zero hck
  have hk := Nat.two_pow_pos k
  have : x < y := Nat.lt_of_mul_lt_mul_left h1
  rw [← Nat.mul_succ]
  exact Nat.mul_le_mul_left _ this
/-- in a cut the block at an aligned place is the greatest one -/
theorem cut_max {s e k : Nat} (he : e ≤ 1099511627776) (hse : s ≤ e) {q : Nat × Nat} (hq : q ∈ Cut.cut s e) (h1 : q.1 % 2 ^ k = 0) (h2 : q.1 + 2 ^ k ≤ e) (h3 : q.2 ≤ 2 ^ k) : q.2 = 2 ^ k := by
  obtain ⟨l1, l2, hl⟩ := List.append_of_mem hq
  have hc := Cut.cut_cov he hse
  have hf := Cut.cut_free (b := s) he
  rw [hl] at hc hf
  obtain ⟨b, hc1, hc2⟩ := Cut.cov_append.1 hc
  have hf2 : Cut.Free (q :: l2) := by
    clear hc hc1 hc2 hl hq
    induction l1 with
    | nil => exact hf
    | cons x l1 ih => exact ih hf.tail
  obtain ⟨p, n⟩ := q
  obtain ⟨rfl, r1, r2, r3⟩ := hc2
  exact Cut.first k p e n l2 h1 h2 ⟨rfl, r1, r2, r3⟩ hf2 h3
/-- can [b, b + n) be folded of K, so that P holds wherever it is cut in two? -/
def canP (P : Nat → Nat → Prop) : Nat → Nat → Nat → List (Nat × Nat) → Prop
  | 0, _, _, _ => False
  | f + 1, b, n, K => (b, b + n) ∈ K ∨ (2 ≤ n ∧ P b n ∧ canP P f b (sp n) K ∧ canP P f (b + sp n) (n - sp n) K)
theorem canP_within {P : Nat → Nat → Prop} (K : List (Nat × Nat)) : ∀ (f b n : Nat), n ≤ f → 1 ≤ n → canP P f b n K → ∃ s ∈ K, b ≤ s.1 ∧ s.2 ≤ b + n ∧ s.1 < s.2
  | 0, b, n, h, h1, _ => by omega
  | f + 1, b, n, h, h1, hc => by
    rcases hc with hk | ⟨h2, _, h3, _⟩
    · exact ⟨_, hk, Nat.le_refl _, Nat.le_refl _, by show b < b + n; omega⟩
    · have s1 := sp_lt (n := n) (by omega)
      have s2 := sp_pos (n := n) (by omega)
      obtain ⟨s, h3, h4, h5, h6⟩ := canP_within K f b (sp n) (by omega) (by omega) h3
      exact ⟨s, h3, h4, by omega, h6⟩
/-- THE TOLD ONES AND THE CUT OF THE RUN (or of all that ends with it) ARE ENOUGH -/
theorem can_span {P : Nat → Nat → Prop} (K : List (Nat × Nat)) (s c e N : Nat) (he : e ≤ 1099511627776) (hse : s < e) (heN : e ≤ N) (hc : c = s ∨ c = 0) (hP : ∀ b n, 2 ≤ n → s < b + n → b < e → P b n) (hK : ∀ q ∈ csp c e, q ∈ K) : ∀ (f b n A : Nat), n ≤ f → 1 ≤ n → n ≤ 2 ^ A → b % 2 ^ A = 0 → (n = 2 ^ A ∨ b + n = N) → (∀ t ∈ runF f b n c e, t ∈ K) →
    (∀ q ∈ Cut.cut c e, q.1 + q.2 ≤ b ∨ b + n ≤ q.1 ∨ (b ≤ q.1 ∧ q.1 + q.2 ≤ b + n)) → canP P f b n K
  | 0, b, n, A, h1, h2, _, _, _, _, _ => by omega
  | f + 1, b, n, A, h1, h2, hA, hb, hN, ht, hq => by
    rw [canP]
    by_cases hk : (b, b + n) ∈ K
    · exact .inl hk
    · have hcov := Cut.cut_cov (b := c) he (by omega)
      by_cases c1 : b + n ≤ c ∨ e ≤ b
      · rw [runF, if_pos c1] at ht
        exact absurd (ht _ (List.mem_singleton.2 rfl)) hk
      · have hin : ∀ q ∈ Cut.cut c e, q = (b, n) → False := fun q hqm e1 => hk (hK _ (List.mem_map.2 ⟨q, hqm, by rw [e1]⟩))
        by_cases hn : n < 2
        · exfalso
          obtain rfl : n = 1 := by omega
          obtain ⟨q, hqm, q1, q2⟩ := cov_hit (i := b) hcov (by omega) (by omega)
          have h5 := hq q hqm
          exact hin q hqm (Prod.ext (by omega) (by show q.2 = 1; omega))
        · obtain ⟨a, e1, e2, e3⟩ := sp_pow (n := n) (by omega)
          have s1 := sp_lt (n := n) (by omega)
          have s2 := sp_pos (n := n) (by omega)
          have ha3 : 2 ^ (a + 1) = 2 * 2 ^ a := by rw [Nat.pow_succ, Nat.mul_comm]
          have haA : a + 1 ≤ A := by
            rcases Nat.lt_or_ge a A with c | c
            · exact c
            · have := Nat.pow_le_pow_right (n := 2) (by omega) c
              omega
          have hb1 : b % 2 ^ (a + 1) = 0 := Cut.mod_of_le haA hb
          have hb0 : b % 2 ^ a = 0 := Cut.mod_of_le (by omega) hb
          have hbm : (b + 2 ^ a) % 2 ^ a = 0 := by rw [Nat.add_mod_right]; exact hb0
          have hNr : n - sp n = 2 ^ a ∨ b + sp n + (n - sp n) = N := by
            rcases hN with h | h
            · refine .inl ?_
              have : A ≤ a + 1 := by
                rcases Nat.lt_or_ge (a + 1) A with c | c
                · have := Nat.pow_lt_pow_right (a := 2) (by omega) c
                  omega
                · exact c
              have hAa : A = a + 1 := by omega
              rw [hAa] at h
              omega
            · exact .inr (by omega)
          have hPb : P b n := by
            by_cases c5 : s < b + n
            · exact hP b n (by omega) c5 (by omega)
            · exfalso
              have hc0 : c = 0 := by
                rcases hc with h | h
                · omega
                · exact h
              have hnA : n = 2 ^ A := by
                rcases hN with h | h
                · exact h
                · omega
              obtain ⟨q, hqm, q1, q2⟩ := cov_hit (i := b) hcov (by omega) (by omega)
              have h5 := hq q hqm
              have q3 : q.1 = b := by omega
              have q4 := cut_max (k := A) he (by omega) hqm (by rw [q3]; exact hb) (by omega) (by omega)
              exact hin q hqm (Prod.ext q3 (by show q.2 = n; omega))
          have hpart : ∀ q ∈ Cut.cut c e, b ≤ q.1 → q.1 + q.2 ≤ b + n → q.1 + q.2 ≤ b + sp n ∨ b + sp n ≤ q.1 := fun q hqm q1 q2 => by
            obtain ⟨k, hk2, hk3⟩ := cov_pow hcov q hqm
            by_cases c2 : b + sp n ≤ q.1
            · exact .inr c2
            · refine .inl ?_
              rcases Nat.lt_or_ge a k with c3 | c3
              · exfalso
                have h6 := Nat.pow_le_pow_right (n := 2) (by omega) (show a + 1 ≤ k from c3)
                exact hin q hqm (Prod.ext (by omega) (by show q.2 = n; omega))
              · rw [hk2, e1]
                exact no_over hk3 hbm c3 (by omega)
          have hleft : ∀ t ∈ runF f b (sp n) c e, t ∈ K := fun t h => by
            by_cases c4 : c ≤ b ∧ b + n ≤ e
            · obtain ⟨g, rfl⟩ : ∃ g, f = g + 1 := ⟨f - 1, by omega⟩
              rw [run_nil (by omega) (by omega) (by omega)] at h
              cases h
            · rw [runF, if_neg c1, if_neg c4] at ht
              exact ht t (List.mem_append_left _ h)
          have hright : ∀ t ∈ runF f (b + sp n) (n - sp n) c e, t ∈ K := fun t h => by
            by_cases c4 : c ≤ b ∧ b + n ≤ e
            · obtain ⟨g, rfl⟩ : ∃ g, f = g + 1 := ⟨f - 1, by omega⟩
              rw [run_nil (by omega) (by omega) (by omega)] at h
              cases h
            · rw [runF, if_neg c1, if_neg c4] at ht
              exact ht t (List.mem_append_right _ h)
          refine .inr ⟨by omega, hPb, can_span K s c e N he hse heN hc hP hK f b (sp n) a (by omega) (by omega) (by omega) hb0 (.inl e1) hleft (fun q hqm => by
              rcases hq q hqm with h | h | ⟨h5, h6⟩
              · exact .inl h
              · exact .inr (.inl (by omega))
              · rcases hpart q hqm h5 h6 with h7 | h7
                · exact .inr (.inr ⟨h5, h7⟩)
                · exact .inr (.inl h7)),
            can_span K s c e N he hse heN hc hP hK f (b + sp n) (n - sp n) a (by omega) (by omega) (by omega) (by rw [e1]; exact hbm) hNr hright (fun q hqm => by
              rcases hq q hqm with h | h | ⟨h5, h6⟩
              · exact .inl (by omega)
              · exact .inr (.inl (by omega))
              · rcases hpart q hqm h5 h6 with h7 | h7
                · exact .inl h7
                · exact .inr (.inr ⟨h7, by omega⟩))⟩
theorem can_all {P : Nat → Nat → Prop} {n s c e : Nat} {K : List (Nat × Nat)} (h2 : n ≤ 1099511627776) (hse : s < e) (hen : e ≤ n) (hc : c = s ∨ c = 0) (hP : ∀ b n, 2 ≤ n → s < b + n → b < e → P b n) (hK : ∀ q ∈ csp c e, q ∈ K) (hT : ∀ q ∈ runF n 0 n c e, q ∈ K) : canP P n 0 n K :=
  can_span K s c e n (by omega) hse hen hc hP hK n 0 n 40 (Nat.le_refl _) (by omega) h2 (Nat.zero_mod _) (.inr (Nat.zero_add _)) hT fun q hq => by
    have := (Cut.cut_cov (show e ≤ 1099511627776 by omega) (show c ≤ e by omega)).within q hq
    exact .inr (.inr ⟨Nat.zero_le _, by omega⟩)
end Spn
end Go.Proofs.YtblmaokonhdjaaaGreatDoor
