import Derived.Test.YthoekndjeclimaaGreatDoorCM2
/- THE PLAIN MATHEMATICS OF LAYER 3: roots, paths, proofs over lists; nothing of the program. -/
namespace Go.Proofs.YthoekndjeclimaaGreatDoor
/-- D3: the node of two hashes; nothing of texts of other lengths -/
def Tree.nd (l r : List UInt8) : List UInt8 := if l.length = 32 ∧ r.length = 32 then Sha.sha (1 :: (l ++ r)) else []
namespace Tree
/-- T1 -/
def sp (n : Nat) : Nat := if n < 2 then 0 else 2 ^ (n - 1).log2
theorem sp_small {n : Nat} (h : n < 2) : sp n = 0 := by rw [sp, if_pos h]
theorem sp_eq {n : Nat} (h : 2 ≤ n) : sp n = 2 ^ (n - 1).log2 := by rw [sp, if_neg (by omega)]
theorem sp_lt {n : Nat} (h : 2 ≤ n) : sp n < n := by
  rw [sp_eq h]
  have := Nat.log2_self_le (n := n - 1) (by omega)
  omega
theorem sp_pos {n : Nat} (h : 2 ≤ n) : 0 < sp n := by rw [sp_eq h]; exact Nat.two_pow_pos _
theorem sp_ge {n : Nat} (h : 2 ≤ n) : n ≤ 2 * sp n := by
  rw [sp_eq h]
  have := Nat.lt_log2_self (n := n - 1)
  rw [Nat.pow_succ] at this
  omega
/-- the one power of two that is below n and not below its half -/
theorem sp_one {n : Nat} (h : 2 ≤ n) (a : Nat) (h1 : 2 ^ a < n) (h2 : n ≤ 2 * 2 ^ a) : sp n = 2 ^ a := by
  rw [sp_eq h]
  congr 1
  have h3 : (n - 1).log2 < a + 1 := (Nat.log2_lt (by omega)).2 (by rw [Nat.pow_succ]; omega)
  have h4 : ¬ (n - 1).log2 < a := fun hlt => by
    have := (Nat.log2_lt (n := n - 1) (by omega)).1 hlt
    omega
  omega

abbrev T := List UInt8
def rootF : Nat → List T → T
  | 0, l => l.headD (Sha.sha [])
  | f + 1, l => if l.length < 2 then l.headD (Sha.sha []) else nd (rootF f (l.take (sp l.length))) (rootF f (l.drop (sp l.length)))
def root (l : List T) : T := rootF l.length l
theorem rootF_eq : ∀ (f g : Nat) (l : List T), l.length ≤ f → l.length ≤ g → rootF f l = rootF g l
  | 0, 0, _, _, _ => rfl
  | 0, g + 1, l, h, _ => by rw [rootF, rootF, if_pos (by omega)]
  | f + 1, 0, l, _, h => by rw [rootF, rootF, if_pos (by omega)]
  | f + 1, g + 1, l, h1, h2 => by
    rw [rootF, rootF]
    by_cases h : l.length < 2
    · rw [if_pos h, if_pos h]
    · have a := sp_lt (n := l.length) (by omega)
      have b := sp_pos (n := l.length) (by omega)
      rw [if_neg h, if_neg h, rootF_eq f g _ (by simp; omega) (by simp; omega), rootF_eq f g (l.drop _) (by simp; omega) (by simp; omega)]
theorem root_nil : root [] = Sha.sha [] := rfl
theorem root_one (a : T) : root [a] = a := rfl
theorem root_cut {l : List T} (h : 2 ≤ l.length) : root l = nd (root (l.take (sp l.length))) (root (l.drop (sp l.length))) := by
  have a := sp_lt h
  have b := sp_pos h
  have e : root l = rootF (l.length - 1 + 1) l := rootF_eq _ _ _ (by omega) (by omega)
  rw [e, rootF, if_neg (by omega), root, root, rootF_eq (l.length - 1) _ (l.take _) (by simp; omega) (Nat.le_refl _), rootF_eq (l.length - 1) _ (l.drop _) (by simp; omega) (Nat.le_refl _)]
/-- are all hashes? -/
def Hs (l : List T) : Prop := ∀ x ∈ l, x.length = 32
theorem Hs.take {l : List T} (h : Hs l) (k : Nat) : Hs (l.take k) := fun x hx => h x (List.mem_of_mem_take hx)
theorem Hs.drop {l : List T} (h : Hs l) (k : Nat) : Hs (l.drop k) := fun x hx => h x (List.mem_of_mem_drop hx)
theorem nd_length {a b : T} (ha : a.length = 32) (hb : b.length = 32) : (nd a b).length = 32 := by rw [nd, if_pos ⟨ha, hb⟩, Sha.sha_length]
theorem root_length : ∀ (n : Nat) (l : List T), l.length ≤ n → Hs l → (root l).length = 32
  | n, [], _, _ => by rw [root_nil, Sha.sha_length]
  | n, [a], _, h => by rw [root_one]; exact h a (by simp)
  | 0, a :: b :: l, h, _ => by simp at h
  | n + 1, a :: b :: l, h, hh => by
    have x := sp_lt (n := (a :: b :: l).length) (by simp)
    have y := sp_pos (n := (a :: b :: l).length) (by simp)
    rw [root_cut (by simp)]
    exact nd_length (root_length n _ (by simp at *; omega) (hh.take _)) (root_length n _ (by simp at *; omega) (hh.drop _))
theorem root_hash {l : List T} (h : Hs l) : (root l).length = 32 := root_length _ l (Nat.le_refl _) h

/-- P(m, l) -/
def pathF : Nat → Nat → List T → List T
  | 0, _, _ => []
  | f + 1, m, l => if l.length < 2 then [] else
    if m < sp l.length then pathF f m (l.take (sp l.length)) ++ [root (l.drop (sp l.length))] else pathF f (m - sp l.length) (l.drop (sp l.length)) ++ [root (l.take (sp l.length))]
def path (m : Nat) (l : List T) : List T := pathF l.length m l
theorem pathF_eq : ∀ (f g m : Nat) (l : List T), l.length ≤ f → l.length ≤ g → pathF f m l = pathF g m l
  | 0, 0, _, _, _, _ => rfl
  | 0, g + 1, m, l, h, _ => by rw [pathF, pathF, if_pos (by omega)]
  | f + 1, 0, m, l, _, h => by rw [pathF, pathF, if_pos (by omega)]
  | f + 1, g + 1, m, l, h1, h2 => by
    rw [pathF, pathF]
    by_cases h : l.length < 2
    · rw [if_pos h, if_pos h]
    · have a := sp_lt (n := l.length) (by omega)
      have b := sp_pos (n := l.length) (by omega)
      rw [if_neg h, if_neg h, pathF_eq f g _ _ (by simp; omega) (by simp; omega), pathF_eq f g _ (l.drop _) (by simp; omega) (by simp; omega)]
theorem path_small {m : Nat} {l : List T} (h : l.length < 2) : path m l = [] := by
  rw [path, pathF_eq _ 1 _ _ (Nat.le_refl _) (by omega), pathF, if_pos h]
theorem path_cut {m : Nat} {l : List T} (h : 2 ≤ l.length) : path m l = if m < sp l.length then path m (l.take (sp l.length)) ++ [root (l.drop (sp l.length))] else path (m - sp l.length) (l.drop (sp l.length)) ++ [root (l.take (sp l.length))] := by
  have a := sp_lt h
  have b := sp_pos h
  have e : path m l = pathF (l.length - 1 + 1) m l := pathF_eq _ _ _ _ (by omega) (by omega)
  rw [e, pathF, if_neg (by omega), path, path, pathF_eq (l.length - 1) _ _ (l.take _) (by simp; omega) (Nat.le_refl _), pathF_eq (l.length - 1) _ _ (l.drop _) (by simp; omega) (Nat.le_refl _)]

/-- S(m, l, whole) -/
def proofF : Nat → Nat → List T → Bool → List T
  | 0, _, _, _ => []
  | f + 1, m, l, whole => if m = l.length then (if whole then [] else [root l]) else
    if m ≤ sp l.length then proofF f m (l.take (sp l.length)) whole ++ [root (l.drop (sp l.length))] else proofF f (m - sp l.length) (l.drop (sp l.length)) false ++ [root (l.take (sp l.length))]
def proof (m : Nat) (l : List T) (whole : Bool) : List T := proofF l.length m l whole
theorem proofF_eq : ∀ (f g m : Nat) (l : List T) (whole : Bool), 1 ≤ m → m ≤ l.length → l.length ≤ f → l.length ≤ g → proofF f m l whole = proofF g m l whole
  | 0, _, m, l, _, h1, h2, h3, _ => by omega
  | _ + 1, 0, m, l, _, h1, h2, _, h3 => by omega
  | f + 1, g + 1, m, l, whole, h1, h2, h3, h4 => by
    rw [proofF, proofF]
    by_cases h : m = l.length
    · rw [if_pos h, if_pos h]
    · have a := sp_lt (n := l.length) (by omega)
      have b := sp_pos (n := l.length) (by omega)
      rw [if_neg h, if_neg h]
      by_cases hm : m ≤ sp l.length
      · rw [if_pos hm, if_pos hm, proofF_eq f g _ _ _ h1 (by simp; omega) (by simp; omega) (by simp; omega)]
      · rw [if_neg hm, if_neg hm, proofF_eq f g _ (l.drop _) _ (by omega) (by simp; omega) (by simp; omega) (by simp; omega)]
theorem proof_whole {l : List T} (h : 1 ≤ l.length) : proof l.length l true = [] := by
  rw [proof, proofF_eq _ (l.length - 1 + 1) _ _ _ h (Nat.le_refl _) (Nat.le_refl _) (by omega), proofF, if_pos rfl]; rfl
theorem proof_part {l : List T} (h : 1 ≤ l.length) : proof l.length l false = [root l] := by
  rw [proof, proofF_eq _ (l.length - 1 + 1) _ _ _ h (Nat.le_refl _) (Nat.le_refl _) (by omega), proofF, if_pos rfl]; rfl
theorem proof_left {m : Nat} {l : List T} {whole : Bool} (h1 : 1 ≤ m) (h2 : m < l.length) (h3 : m ≤ sp l.length) : proof m l whole = proof m (l.take (sp l.length)) whole ++ [root (l.drop (sp l.length))] := by
  have a := sp_lt (n := l.length) (by omega)
  have b := sp_pos (n := l.length) (by omega)
  have e : proof m l whole = proofF (l.length - 1 + 1) m l whole := proofF_eq _ _ _ _ _ h1 (by omega) (by omega) (by omega)
  rw [e, proofF, if_neg (by omega), if_pos h3, proof, proofF_eq (l.length - 1) _ _ (l.take _) _ h1 (by simp; omega) (by simp; omega) (Nat.le_refl _)]
theorem proof_right {m : Nat} {l : List T} {whole : Bool} (h1 : 1 ≤ m) (h2 : m < l.length) (h3 : ¬ m ≤ sp l.length) : proof m l whole = proof (m - sp l.length) (l.drop (sp l.length)) false ++ [root (l.take (sp l.length))] := by
  have a := sp_lt (n := l.length) (by omega)
  have b := sp_pos (n := l.length) (by omega)
  have e : proof m l whole = proofF (l.length - 1 + 1) m l whole := proofF_eq _ _ _ _ _ h1 (by omega) (by omega) (by omega)
  rw [e, proofF, if_neg (by omega), if_neg h3, proof, proofF_eq (l.length - 1) _ _ (l.drop _) _ (by omega) (by simp; omega) (by simp; omega) (Nat.le_refl _)]

/-- M(indices, l), l's first leaf being the b-th of all; the indices rise -/
def manyF : Nat → List Nat → Nat → List T → List T
  | 0, _, _, _ => []
  | f + 1, is, b, l => if is = [] then [root l] else if l.length < 2 then [] else
    manyF f (is.filter (· < b + sp l.length)) b (l.take (sp l.length)) ++ manyF f (is.filter (b + sp l.length ≤ ·)) (b + sp l.length) (l.drop (sp l.length))
def many (is : List Nat) (b : Nat) (l : List T) : List T := manyF l.length is b l
theorem manyF_eq : ∀ (f g : Nat) (is : List Nat) (b : Nat) (l : List T), 1 ≤ l.length → l.length ≤ f → l.length ≤ g → manyF f is b l = manyF g is b l
  | 0, _, _, _, l, h0, h1, _ => by omega
  | _ + 1, 0, _, _, l, h0, _, h1 => by omega
  | f + 1, g + 1, is, b, l, h0, h1, h2 => by
    rw [manyF, manyF]
    by_cases hi : is = []
    · rw [if_pos hi, if_pos hi]
    · rw [if_neg hi, if_neg hi]
      by_cases h : l.length < 2
      · rw [if_pos h, if_pos h]
      · have a := sp_lt (n := l.length) (by omega)
        have b := sp_pos (n := l.length) (by omega)
        rw [if_neg h, if_neg h, manyF_eq f g _ _ _ (by simp; omega) (by simp; omega) (by simp; omega), manyF_eq f g _ _ (l.drop _) (by simp; omega) (by simp; omega) (by simp; omega)]
theorem many_none {b : Nat} {l : List T} (h : 1 ≤ l.length) : many [] b l = [root l] := by
  rw [many, manyF_eq _ (l.length - 1 + 1) _ _ _ h (by omega) (by omega), manyF, if_pos rfl]
theorem many_one {is : List Nat} {b : Nat} {l : List T} (hi : is ≠ []) (h : l.length = 1) : many is b l = [] := by
  rw [many, h, manyF, if_neg hi, if_pos (by omega)]
theorem many_cut {is : List Nat} {b : Nat} {l : List T} (hi : is ≠ []) (h : 2 ≤ l.length) :
    many is b l = many (is.filter (· < b + sp l.length)) b (l.take (sp l.length)) ++ many (is.filter (b + sp l.length ≤ ·)) (b + sp l.length) (l.drop (sp l.length)) := by
  have x := sp_lt h
  have y := sp_pos h
  rw [many, manyF_eq _ (l.length - 1 + 1) _ _ _ (by omega) (by omega) (by omega), manyF, if_neg hi, if_neg (by omega), many, many, manyF_eq (l.length - 1) _ _ _ (l.take _) (by simp; omega) (by simp; omega) (Nat.le_refl _), manyF_eq (l.length - 1) _ _ _ (l.drop _) (by simp; omega) (by simp; omega) (Nat.le_refl _)]
end Tree
end Go.Proofs.YthoekndjeclimaaGreatDoor
