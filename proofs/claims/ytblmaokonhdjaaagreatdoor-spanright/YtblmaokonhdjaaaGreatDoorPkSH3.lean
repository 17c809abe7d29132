import Derived.Test.YtblmaokonhdjaaaGreatDoorPkEX3
/- THE PLAIN MATHEMATICS OF LAYER 8: subtrees, and what can be folded; nothing of the program. -/
namespace Go.Proofs.YtblmaokonhdjaaaGreatDoor
namespace Tree
/-- H1: is [x, y) a subtree of [b, b + n)? -/
def insF : Nat → Nat → Nat → Nat → Nat → Bool
  | 0, _, _, _, _ => false
  | f + 1, b, n, x, y => if x = b ∧ y = b + n then true else if n < 2 then false else if y ≤ b + sp n then insF f b (sp n) x y else if b + sp n ≤ x then insF f (b + sp n) (n - sp n) x y else false
theorem insF_self {f b n : Nat} : insF (f + 1) b n b (b + n) = true := by rw [insF, if_pos ⟨rfl, rfl⟩]
theorem insF_in : ∀ (f b n x y : Nat), insF f b n x y = true → 1 ≤ n → b ≤ x ∧ x < y ∧ y ≤ b + n
  | 0, _, _, _, _, h, _ => by cases h
  | f + 1, b, n, x, y, h, h1 => by
    rw [insF] at h
    split at h
    · omega
    · split at h
      · cases h
      · have s1 := sp_lt (n := n) (by omega)
        have s2 := sp_pos (n := n) (by omega)
        split at h
        · have := insF_in f b (sp n) x y h (by omega); omega
        · split at h
          · have := insF_in f (b + sp n) (n - sp n) x y h (by omega); omega
          · cases h
/-- the parts of a subtree are subtrees -/
theorem insF_parts : ∀ (f b n x y : Nat), n ≤ f → 1 ≤ n → insF f b n x y = true → 2 ≤ y - x → insF f b n x (x + sp (y - x)) = true ∧ insF f b n (x + sp (y - x)) y = true
  | 0, _, _, _, _, _, _, h, _ => by cases h
  | f + 1, b, n, x, y, hf, h1, h, h2 => by
    have hin := insF_in (f + 1) b n x y h h1
    have t1 := sp_lt (n := y - x) h2
    have t2 := sp_pos (n := y - x) h2
    rw [insF] at h
    by_cases he : x = b ∧ y = b + n
    · obtain ⟨rfl, rfl⟩ := he
      rw [show x + n - x = n by omega] at h2 t1 t2 ⊢
      obtain ⟨f', rfl⟩ : ∃ f', f = f' + 1 := ⟨f - 1, by omega⟩
      constructor
      · rw [insF, if_neg (by omega), if_neg (by omega), if_pos (by omega), insF_self]
      · rw [insF, if_neg (by omega), if_neg (by omega), if_neg (by omega), if_pos (by omega), show x + n = x + sp n + (n - sp n) by omega, insF_self]
    · rw [if_neg he] at h
      split at h
      · cases h
      · have s1 := sp_lt (n := n) (by omega)
        have s2 := sp_pos (n := n) (by omega)
        split at h
        · rename_i hy
          obtain ⟨a1, a2⟩ := insF_parts f b (sp n) x y (by omega) (by omega) h h2
          constructor
          · rw [insF, if_neg (by omega), if_neg (by omega), if_pos (by omega)]; exact a1
          · rw [insF, if_neg (by omega), if_neg (by omega), if_pos (by omega)]; exact a2
        · split at h
          · rename_i hx
            obtain ⟨a1, a2⟩ := insF_parts f (b + sp n) (n - sp n) x y (by omega) (by omega) h h2
            constructor
            · rw [insF, if_neg (by omega), if_neg (by omega), if_neg (by omega), if_pos (by omega)]; exact a1
            · rw [insF, if_neg (by omega), if_neg (by omega), if_neg (by omega), if_pos (by omega)]; exact a2
          · cases h
/-- H5: can [b, b + n) be folded of some spans? -/
def canF : Nat → Nat → Nat → List (Nat × Nat) → Bool
  | 0, _, _, _ => false
  | f + 1, b, n, K => if (b, b + n) ∈ K then true else if n < 2 then false else canF f b (sp n) K && canF f (b + sp n) (n - sp n) K
/-- the hash of the first of known that a span is -/
def hashAt : List (Nat × Nat) → List T → Nat × Nat → T
  | k :: K, h :: H, s => if k = s then h else hashAt K H s
  | _, _, _ => []
def fldF : Nat → Nat → Nat → List (Nat × Nat) → List T → T
  | 0, _, _, _, _ => []
  | f + 1, b, n, K, H => if (b, b + n) ∈ K then hashAt K H (b, b + n) else nd (fldF f b (sp n) K H) (fldF f (b + sp n) (n - sp n) K H)
theorem hashAt_ok (l : List T) : ∀ (K : List (Nat × Nat)) (H : List T) (s : Nat × Nat), H = K.map (fun s => root (seg l s.1 s.2)) → s ∈ K → hashAt K H s = root (seg l s.1 s.2)
  | [], _, s, _, h => by cases h
  | k :: K, [], s, e, _ => by cases e
  | k :: K, h :: H, s, e, hs => by
    have e1 : h = root (seg l k.1 k.2) := (List.cons.inj e).1
    have e2 : H = K.map (fun s => root (seg l s.1 s.2)) := (List.cons.inj e).2
    rw [hashAt]
    by_cases hk : k = s
    · rw [if_pos hk, e1, hk]
    · rw [if_neg hk]
      refine hashAt_ok l K H s e2 ?_
      rcases List.mem_cons.1 hs with e3 | e3
      · exact absurd e3.symm hk
      · exact e3
/-- H6: what can be folded of right hashes is the right hash -/
theorem fld_root (l : List T) (K : List (Nat × Nat)) (H : List T) (hH : H = K.map (fun s => root (seg l s.1 s.2))) : ∀ (f b n : Nat), n ≤ f → 1 ≤ n → b + n ≤ l.length → canF f b n K = true → fldF f b n K H = root (seg l b (b + n))
  | 0, b, n, h, h1, _, _ => by omega
  | f + 1, b, n, h, h1, hl, hc => by
    rw [canF] at hc
    rw [fldF]
    by_cases hk : (b, b + n) ∈ K
    · rw [if_pos hk, hashAt_ok l K H _ hH hk]
    · rw [if_neg hk] at hc ⊢
      split at hc
      · cases hc
      · have s1 := sp_lt (n := n) (by omega)
        have s2 := sp_pos (n := n) (by omega)
        rw [Bool.and_eq_true] at hc
        have e := fld_root l K H hH f (b + sp n) (n - sp n) (by omega) (by omega) (by omega) hc.2
        rw [show b + sp n + (n - sp n) = b + n by omega] at e
        rw [fld_root l K H hH f b (sp n) (by omega) (by omega) (by omega) hc.1, e, ← root_seg_two (by omega) hl]
/-- what can be folded has one of known within it -/
theorem can_within (K : List (Nat × Nat)) : ∀ (f b n : Nat), n ≤ f → 1 ≤ n → canF f b n K = true → ∃ s ∈ K, b ≤ s.1 ∧ s.2 ≤ b + n ∧ s.1 < s.2
  | 0, b, n, h, h1, _ => by omega
  | f + 1, b, n, h, h1, hc => by
    rw [canF] at hc
    by_cases hk : (b, b + n) ∈ K
    · exact ⟨_, hk, Nat.le_refl _, Nat.le_refl _, by show b < b + n; omega⟩
    · rw [if_neg hk] at hc
      split at hc
      · cases hc
      · have s1 := sp_lt (n := n) (by omega)
        have s2 := sp_pos (n := n) (by omega)
        rw [Bool.and_eq_true] at hc
        obtain ⟨s, h3, h4, h5, h6⟩ := can_within K f b (sp n) (by omega) (by omega) hc.1
        exact ⟨s, h3, h4, by omega, h6⟩
theorem can_leaves (K : List (Nat × Nat)) : ∀ (f b n : Nat), n ≤ f → 1 ≤ n → (∀ i, b ≤ i → i < b + n → (i, i + 1) ∈ K) → canF f b n K = true
  | 0, b, n, h, h1, _ => by omega
  | f + 1, b, n, h, h1, hK => by
    rw [canF]
    by_cases hk : (b, b + n) ∈ K
    · rw [if_pos hk]
    · rw [if_neg hk]
      by_cases h2 : n < 2
      · exact absurd (by have := hK b (Nat.le_refl _) (by omega); rwa [show n = 1 by omega]) hk
      · have s1 := sp_lt (n := n) (by omega)
        have s2 := sp_pos (n := n) (by omega)
        rw [if_neg h2, can_leaves K f b (sp n) (by omega) (by omega) fun i hi he => hK i hi (by omega), can_leaves K f (b + sp n) (n - sp n) (by omega) (by omega) fun i hi he => hK i (by omega) (by omega)]
        rfl
theorem can_oth (K : List (Nat × Nat)) (is : List Nat) : ∀ (f b n : Nat), n ≤ f → 1 ≤ n → (∀ s ∈ othF f b n is, s ∈ K) → (∀ i ∈ is, b ≤ i → i < b + n → (i, i + 1) ∈ K) → canF f b n K = true
  | 0, b, n, h, h1, _, _ => by omega
  | f + 1, b, n, h, h1, hK, hi => by
    rw [canF]
    by_cases hk : (b, b + n) ∈ K
    · rw [if_pos hk]
    · rw [if_neg hk]
      cases ht : tch is b (b + n) with
      | false =>
        rw [othF_no ht] at hK
        exact absurd (hK _ (List.mem_singleton.2 rfl)) hk
      | true =>
        by_cases h2 : n < 2
        · obtain ⟨i, h3, h4, h5⟩ := tch_mem.1 ht
          exact absurd (by have := hi i h3 h4 h5; rwa [show i = b by omega, show b + 1 = b + n by omega] at this) hk
        · have s1 := sp_lt (n := n) (by omega)
          have s2 := sp_pos (n := n) (by omega)
          rw [othF_two ht (by omega)] at hK
          rw [if_neg h2, can_oth K is f b (sp n) (by omega) (by omega) (fun s hs => hK s (List.mem_append_left _ hs)) (fun i h3 h4 h5 => hi i h3 h4 (by omega)), can_oth K is f (b + sp n) (n - sp n) (by omega) (by omega) (fun s hs => hK s (List.mem_append_right _ hs)) (fun i h3 h4 h5 => hi i h3 (by omega) (by omega))]
          rfl
theorem can_run (K : List (Nat × Nat)) (x y : Nat) : ∀ (f b n : Nat), n ≤ f → 1 ≤ n → (∀ s ∈ runF f b n x y, s ∈ K) → (∀ i, x ≤ i → i < y → (i, i + 1) ∈ K) → canF f b n K = true
  | 0, b, n, h, h1, _, _ => by omega
  | f + 1, b, n, h, h1, hK, hi => by
    by_cases h3 : b + n ≤ x ∨ y ≤ b
    · rw [runF, if_pos h3] at hK
      rw [canF, if_pos (hK _ (List.mem_singleton.2 rfl))]
    · by_cases h4 : x ≤ b ∧ b + n ≤ y
      · exact can_leaves K (f + 1) b n h h1 fun i h5 h6 => hi i (by omega) (by omega)
      · have s1 := sp_lt (n := n) (by omega)
        have s2 := sp_pos (n := n) (by omega)
        rw [runF, if_neg h3, if_neg h4] at hK
        rw [canF]
        split
        · rfl
        · rw [if_neg (by omega), can_run K x y f b (sp n) (by omega) (by omega) (fun s hs => hK s (List.mem_append_left _ hs)) hi, can_run K x y f (b + sp n) (n - sp n) (by omega) (by omega) (fun s hs => hK s (List.mem_append_right _ hs)) hi]
          rfl
end Tree
end Go.Proofs.YtblmaokonhdjaaaGreatDoor

/- THE PLAIN MATHEMATICS OF LAYER 8: how many spans a batch has; nothing of the program. -/
namespace Go.Proofs.YtblmaokonhdjaaaGreatDoor
namespace Tree
theorem sp_two (a : Nat) : sp (2 ^ (a + 1)) = 2 ^ a := sp_unique (Nat.pow_lt_pow_right (by omega) (by omega)) (Nat.le_refl _)
/-- the longest path: of a tree of more than 2^a, at most 2^(a + 1) leaves it has a + 1 steps -/
theorem D_zero : ∀ (a n : Nat), 2 ^ a < n → n ≤ 2 ^ (a + 1) → (D n 0).length = a + 1
  | 0, n, h1, h2 => by
    obtain rfl : n = 2 := by simp at h1 h2; omega
    have e : sp 2 = 1 := sp_two 0
    rw [D_left (by omega) (by rw [e]; omega), e, D_one _ (by omega)]; rfl
  | a + 1, n, h1, h2 => by
    have p := Nat.two_pow_pos (a + 1)
    have e := sp_unique h1 h2
    have lt : 2 ^ a < 2 ^ (a + 1) := Nat.pow_lt_pow_right (by omega) (by omega)
    rw [D_left (by omega) (by rw [e]; omega), List.length_append, e, D_zero a (2 ^ (a + 1)) lt (Nat.le_refl _)]; rfl
theorem D_mono {m n : Nat} (h : m ≤ n) : (D m 0).length ≤ (D n 0).length := by
  by_cases hm : m < 2
  · rw [D_one _ hm]; exact Nat.zero_le _
  · obtain ⟨a, _, a1, a2⟩ := sp_pow (n := m) (by omega)
    obtain ⟨c, _, c1, c2⟩ := sp_pow (n := n) (by omega)
    rw [D_zero a m a1 a2, D_zero c n c1 c2]
    rcases Nat.lt_or_ge c a with e | e
    · have := Nat.pow_le_pow_right (n := 2) (by omega) (show c + 1 ≤ a from e); omega
    · omega
theorem D_step {n : Nat} (h : 2 ≤ n) : (D n 0).length = (D (sp n) 0).length + 1 := by
  have := sp_pos (n := n) h
  rw [D_left h (by omega), List.length_append]; rfl
theorem wit_len {is : List Nat} {b m e : Nat} (h1 : b ≤ m) (h2 : m ≤ e) : (wit is b e).length = (wit is b m).length + (wit is m e).length := by
  induction is with
  | nil => rfl
  | cons i is ih =>
    unfold wit at ih ⊢
    simp only [List.filter_cons]
    by_cases c1 : b ≤ i ∧ i < m
    · rw [if_pos (by simp; omega), if_pos (by simpa using c1), if_neg (by simp; omega)]
      simp only [List.length_cons]; omega
    · by_cases c2 : m ≤ i ∧ i < e
      · rw [if_pos (by simp; omega), if_neg (by simpa using c1), if_pos (by simpa using c2)]
        simp only [List.length_cons]; omega
      · rw [if_neg (by simp; omega), if_neg (by simpa using c1), if_neg (by simpa using c2)]
        exact ih
theorem wit_one {is : List Nat} (hn : is.Nodup) (b : Nat) : (wit is b (b + 1)).length ≤ 1 := by
  have h1 : (wit is b (b + 1)).Nodup := hn.filter _
  match hw : wit is b (b + 1), h1 with
  | [], _ => exact Nat.zero_le _
  | [x], _ => exact Nat.le_refl _
  | x :: y :: r, h1 =>
    have hx : x ∈ wit is b (b + 1) := by rw [hw]; simp
    have hy : y ∈ wit is b (b + 1) := by rw [hw]; simp
    have e1 := (List.mem_filter.1 hx).2
    have e2 := (List.mem_filter.1 hy).2
    simp only [decide_eq_true_eq] at e1 e2
    have : x = y := by omega
    rw [this] at h1
    simp at h1
/-- H6: at most as many spans as there are other leaves -/
theorem oth_count (is : List Nat) (hn : is.Nodup) : ∀ (f b n : Nat), n ≤ f → 1 ≤ n → (othF f b n is).length + (wit is b (b + n)).length ≤ n
  | 0, b, n, h, h1 => by omega
  | f + 1, b, n, h, h1 => by
    cases ht : tch is b (b + n) with
    | false => rw [othF_no ht, wit_nil ht]; simpa using h1
    | true =>
      by_cases h2 : n < 2
      · obtain rfl : n = 1 := by omega
        rw [othF_one ht h2]
        have := wit_one hn b
        simpa using this
      · have s1 := sp_lt (n := n) (by omega)
        have s2 := sp_pos (n := n) (by omega)
        have e1 := oth_count is hn f b (sp n) (by omega) (by omega)
        have e2 := oth_count is hn f (b + sp n) (n - sp n) (by omega) (by omega)
        rw [show b + sp n + (n - sp n) = b + n by omega] at e2
        rw [othF_two ht (by omega), List.length_append, wit_len (is := is) (b := b) (m := b + sp n) (e := b + n) (by omega) (by omega)]
        omega
/-- H6: at most so many times the longest path as there are leaves -/
theorem oth_most (is : List Nat) : ∀ (f b n : Nat), n ≤ f → 1 ≤ n → tch is b (b + n) = true → (othF f b n is).length ≤ (wit is b (b + n)).length * (D n 0).length
  | 0, b, n, h, h1, _ => by omega
  | f + 1, b, n, h, h1, ht => by
    by_cases h2 : n < 2
    · rw [othF_one ht h2]; exact Nat.zero_le _
    · have s1 := sp_lt (n := n) (by omega)
      have s2 := sp_pos (n := n) (by omega)
      have s3 : n - sp n ≤ sp n := by
        obtain ⟨a, ha, a1, a2⟩ := sp_pow (n := n) (by omega)
        rw [Nat.pow_succ] at a2; omega
      have hd := D_step (n := n) (by omega)
      have hm := D_mono s3
      have w1 := wit_len (is := is) (b := b) (m := b + sp n) (e := b + n) (by omega) (by omega)
      rw [othF_two ht (by omega), List.length_append, hd, w1]
      have nz : ∀ {x y : Nat}, tch is x y = true → 1 ≤ (wit is x y).length := fun h => by
        have := wit_ne h
        exact Nat.one_le_iff_ne_zero.2 fun e => this (List.length_eq_zero_iff.1 e)
      have nl : ∀ (f b n : Nat), 1 ≤ f → tch is b (b + n) = false → (othF f b n is).length = 1 := fun f b n hf h => by
        cases f with
        | zero => omega
        | succ f => rw [othF_no h]; rfl
      obtain ⟨dl, hdl⟩ : ∃ dl, (D (sp n) 0).length = dl := ⟨_, rfl⟩
      rw [hdl] at hm ⊢
      cases c1 : tch is b (b + sp n) with
      | false =>
        cases c2 : tch is (b + sp n) (b + n) with
        | false =>
          rw [tch_cut (m := b + sp n) (by omega) (by omega), c1, c2] at ht
          cases ht
        | true =>
          have e2 := oth_most is f (b + sp n) (n - sp n) (by omega) (by omega) (by rw [show b + sp n + (n - sp n) = b + n by omega]; exact c2)
          rw [show b + sp n + (n - sp n) = b + n by omega] at e2
          have e1 := nl f b (sp n) (by omega) c1
          have k2 := nz c2
          have m2 := Nat.mul_le_mul_left (wit is (b + sp n) (b + n)).length hm
          rw [e1, wit_nil c1, List.length_nil, Nat.zero_add, Nat.mul_add, Nat.mul_one]
          omega
      | true =>
        have e1 := oth_most is f b (sp n) (by omega) (by omega) c1
        rw [hdl] at e1
        have k1 := nz c1
        cases c2 : tch is (b + sp n) (b + n) with
        | false =>
          have e2 := nl f (b + sp n) (n - sp n) (by omega) (by rw [show b + sp n + (n - sp n) = b + n by omega]; exact c2)
          rw [e2, wit_nil c2, List.length_nil, Nat.mul_add, Nat.mul_one]
          simp only [Nat.add_zero]
          omega
        | true =>
          have e2 := oth_most is f (b + sp n) (n - sp n) (by omega) (by omega) (by rw [show b + sp n + (n - sp n) = b + n by omega]; exact c2)
          rw [show b + sp n + (n - sp n) = b + n by omega] at e2
          have m2 := Nat.mul_le_mul_left (wit is (b + sp n) (b + n)).length hm
          rw [Nat.mul_add, Nat.mul_one, Nat.add_mul]
          omega
end Tree
end Go.Proofs.YtblmaokonhdjaaaGreatDoor
