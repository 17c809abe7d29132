import Derived.Test.YtkiibcfjjplkaaaDoorCM1
/- THE PLAIN MATHEMATICS OF LAYER 3: roots, paths, proofs over lists; nothing of the program. -/
namespace Go.Proofs.YtkiibcfjjplkaaaDoor
/-- D3: the node of two hashes; nothing of texts of other lengths -/
def Tree.nd (l r : List UInt8) : List UInt8 := if l.length = 32 ∧ r.length = 32 then Sha.sha (1 :: (l ++ r)) else []
namespace Tree
/-- T1 -/
def sp (n : Nat) : Nat := if n < 2 then 0 else 2 ^ (n - 1).log2
theorem sp_small {n : Nat} (h : n < 2) : sp n = 0 := by rw [sp, if_pos h]
theorem sp_eq {n : Nat} (h : 2 ≤ n) : sp n = 2 ^ (n - 1).log2 := by rw [sp, if_neg (by omega)]
theorem sp_lt {n : Nat} (h : 2 ≤ n) : sp n < n := by
  rw [sp_eq h]
  have := Nat.log2_self_le (n := n - 1) (by omega)
  omega
theorem sp_pos {n : Nat} (h : 2 ≤ n) : 0 < sp n := by rw [sp_eq h]; exact Nat.two_pow_pos _
theorem sp_ge {n : Nat} (h : 2 ≤ n) : n ≤ 2 * sp n := by
  rw [sp_eq h]
  have := Nat.lt_log2_self (n := n - 1)
  rw [Nat.pow_succ] at this
  omega
/-- the one power of two that is below n and not below its half -/
theorem sp_one {n : Nat} (h : 2 ≤ n) (a : Nat) (h1 : 2 ^ a < n) (h2 : n ≤ 2 * 2 ^ a) : sp n = 2 ^ a := by
  rw [sp_eq h]
  congr 1
  have h3 : (n - 1).log2 < a + 1 := (Nat.log2_lt (by omega)).2 (by rw [Nat.pow_succ]; omega)
  have h4 : ¬ (n - 1).log2 < a := fun hlt => by
    have := (Nat.log2_lt (n := n - 1) (by omega)).1 hlt
    omega
  omega

abbrev T := List UInt8
def rootF : Nat → List T → T
  | 0, l => l.headD (Sha.sha [])
  | f + 1, l => if l.length < 2 then l.headD (Sha.sha []) else nd (rootF f (l.take (sp l.length))) (rootF f (l.drop (sp l.length)))
def root (l : List T) : T := rootF l.length l
theorem rootF_eq : ∀ (f g : Nat) (l : List T), l.length ≤ f → l.length ≤ g → rootF f l = rootF g l
  | 0, 0, _, _, _ => rfl
  | 0, g + 1, l, h, _ => by rw [rootF, rootF, if_pos (by omega)]
  | f + 1, 0, l, _, h => by rw [rootF, rootF, if_pos (by omega)]
  | f + 1, g + 1, l, h1, h2 => by
    rw [rootF, rootF]
    by_cases h : l.length < 2
    · rw [if_pos h, if_pos h]
    · have a := sp_lt (n := l.length) (by omega)
      have b := sp_pos (n := l.length) (by omega)
      rw [if_neg h, if_neg h, rootF_eq f g _ (by simp; omega) (by simp; omega), rootF_eq f g (l.drop _) (by simp; omega) (by simp; omega)]
theorem root_nil : root [] = Sha.sha [] := rfl
theorem root_one (a : T) : root [a] = a := rfl
theorem root_cut {l : List T} (h : 2 ≤ l.length) : root l = nd (root (l.take (sp l.length))) (root (l.drop (sp l.length))) := by
  have a := sp_lt h
  have b := sp_pos h
  have e : root l = rootF (l.length - 1 + 1) l := rootF_eq _ _ _ (by omega) (by omega)
  rw [e, rootF, if_neg (by omega), root, root, rootF_eq (l.length - 1) _ (l.take _) (by simp; omega) (Nat.le_refl _), rootF_eq (l.length - 1) _ (l.drop _) (by simp; omega) (Nat.le_refl _)]
/-- are all hashes? -/
def Hs (l : List T) : Prop := ∀ x ∈ l, x.length = 32
theorem Hs.take {l : List T} (h : Hs l) (k : Nat) : Hs (l.take k) := fun x hx => h x (List.mem_of_mem_take hx)
theorem Hs.drop {l : List T} (h : Hs l) (k : Nat) : Hs (l.drop k) := fun x hx => h x (List.mem_of_mem_drop hx)
theorem nd_length {a b : T} (ha : a.length = 32) (hb : b.length = 32) : (nd a b).length = 32 := by rw [nd, if_pos ⟨ha, hb⟩, Sha.sha_length]
theorem root_length : ∀ (n : Nat) (l : List T), l.length ≤ n → Hs l → (root l).length = 32
  | n, [], _, _ => by rw [root_nil, Sha.sha_length]
  | n, [a], _, h => by rw [root_one]; exact h a (by simp)
  | 0, a :: b :: l, h, _ => by simp at h
  | n + 1, a :: b :: l, h, hh => by
    have x := sp_lt (n := (a :: b :: l).length) (by simp)
    have y := sp_pos (n := (a :: b :: l).length) (by simp)
    rw [root_cut (by simp)]
    exact nd_length (root_length n _ (by simp at *; omega) (hh.take _)) (root_length n _ (by simp at *; omega) (hh.drop _))
theorem root_hash {l : List T} (h : Hs l) : (root l).length = 32 := root_length _ l (Nat.le_refl _) h

/-- P(m, l) -/
def pathF : Nat → Nat → List T → List T
  | 0, _, _ => []
  | f + 1, m, l => if l.length < 2 then [] else
    if m < sp l.length then pathF f m (l.take (sp l.length)) ++ [root (l.drop (sp l.length))] else pathF f (m - sp l.length) (l.drop (sp l.length)) ++ [root (l.take (sp l.length))]
def path (m : Nat) (l : List T) : List T := pathF l.length m l
theorem pathF_eq : ∀ (f g m : Nat) (l : List T), l.length ≤ f → l.length ≤ g → pathF f m l = pathF g m l
  | 0, 0, _, _, _, _ => rfl
  | 0, g + 1, m, l, h, _ => by rw [pathF, pathF, if_pos (by omega)]
  | f + 1, 0, m, l, _, h => by rw [pathF, pathF, if_pos (by omega)]
  | f + 1, g + 1, m, l, h1, h2 => by
    rw [pathF, pathF]
    by_cases h : l.length < 2
    · rw [if_pos h, if_pos h]
    · have a := sp_lt (n := l.length) (by omega)
      have b := sp_pos (n := l.length) (by omega)
      rw [if_neg h, if_neg h, pathF_eq f g _ _ (by simp; omega) (by simp; omega), pathF_eq f g _ (l.drop _) (by simp; omega) (by simp; omega)]
theorem path_small {m : Nat} {l : List T} (h : l.length < 2) : path m l = [] := by
  rw [path, pathF_eq _ 1 _ _ (Nat.le_refl _) (by omega), pathF, if_pos h]
theorem path_cut {m : Nat} {l : List T} (h : 2 ≤ l.length) : path m l = if m < sp l.length then path m (l.take (sp l.length)) ++ [root (l.drop (sp l.length))] else path (m - sp l.length) (l.drop (sp l.length)) ++ [root (l.take (sp l.length))] := by
  have a := sp_lt h
  have b := sp_pos h
  have e : path m l = pathF (l.length - 1 + 1) m l := pathF_eq _ _ _ _ (by omega) (by omega)
  rw [e, pathF, if_neg (by omega), path, path, pathF_eq (l.length - 1) _ _ (l.take _) (by simp; omega) (Nat.le_refl _), pathF_eq (l.length - 1) _ _ (l.drop _) (by simp; omega) (Nat.le_refl _)]

/-- S(m, l, whole) -/
def proofF : Nat → Nat → List T → Bool → List T
  | 0, _, _, _ => []
  | f + 1, m, l, whole => if m = l.length then (if whole then [] else [root l]) else
    if m ≤ sp l.length then proofF f m (l.take (sp l.length)) whole ++ [root (l.drop (sp l.length))] else proofF f (m - sp l.length) (l.drop (sp l.length)) false ++ [root (l.take (sp l.length))]
def proof (m : Nat) (l : List T) (whole : Bool) : List T := proofF l.length m l whole
theorem proofF_eq : ∀ (f g m : Nat) (l : List T) (whole : Bool), 1 ≤ m → m ≤ l.length → l.length ≤ f → l.length ≤ g → proofF f m l whole = proofF g m l whole
  | 0, _, m, l, _, h1, h2, h3, _ => by omega
  | _ + 1, 0, m, l, _, h1, h2, _, h3 => by omega
  | f + 1, g + 1, m, l, whole, h1, h2, h3, h4 => by
    rw [proofF, proofF]
    by_cases h : m = l.length
    · rw [if_pos h, if_pos h]
    · have a := sp_lt (n := l.length) (by omega)
      have b := sp_pos (n := l.length) (by omega)
      rw [if_neg h, if_neg h]
      by_cases hm : m ≤ sp l.length
      · rw [if_pos hm, if_pos hm, proofF_eq f g _ _ _ h1 (by simp; omega) (by simp; omega) (by simp; omega)]
      · rw [if_neg hm, if_neg hm, proofF_eq f g _ (l.drop _) _ (by omega) (by simp; omega) (by simp; omega) (by simp; omega)]
theorem proof_whole {l : List T} (h : 1 ≤ l.length) : proof l.length l true = [] := by
  rw [proof, proofF_eq _ (l.length - 1 + 1) _ _ _ h (Nat.le_refl _) (Nat.le_refl _) (by omega), proofF, if_pos rfl]; rfl
theorem proof_part {l : List T} (h : 1 ≤ l.length) : proof l.length l false = [root l] := by
  rw [proof, proofF_eq _ (l.length - 1 + 1) _ _ _ h (Nat.le_refl _) (Nat.le_refl _) (by omega), proofF, if_pos rfl]; rfl
theorem proof_left {m : Nat} {l : List T} {whole : Bool} (h1 : 1 ≤ m) (h2 : m < l.length) (h3 : m ≤ sp l.length) : proof m l whole = proof m (l.take (sp l.length)) whole ++ [root (l.drop (sp l.length))] := by
  have a := sp_lt (n := l.length) (by omega)
  have b := sp_pos (n := l.length) (by omega)
  have e : proof m l whole = proofF (l.length - 1 + 1) m l whole := proofF_eq _ _ _ _ _ h1 (by omega) (by omega) (by omega)
  rw [e, proofF, if_neg (by omega), if_pos h3, proof, proofF_eq (l.length - 1) _ _ (l.take _) _ h1 (by simp; omega) (by simp; omega) (Nat.le_refl _)]
theorem proof_right {m : Nat} {l : List T} {whole : Bool} (h1 : 1 ≤ m) (h2 : m < l.length) (h3 : ¬ m ≤ sp l.length) : proof m l whole = proof (m - sp l.length) (l.drop (sp l.length)) false ++ [root (l.take (sp l.length))] := by
  have a := sp_lt (n := l.length) (by omega)
  have b := sp_pos (n := l.length) (by omega)
  have e : proof m l whole = proofF (l.length - 1 + 1) m l whole := proofF_eq _ _ _ _ _ h1 (by omega) (by omega) (by omega)
  rw [e, proofF, if_neg (by omega), if_neg h3, proof, proofF_eq (l.length - 1) _ _ (l.drop _) _ (by omega) (by simp; omega) (by simp; omega) (Nat.le_refl _)]

/-- M(indices, l), l's first leaf being the b-th of all; the indices rise -/
def manyF : Nat → List Nat → Nat → List T → List T
  | 0, _, _, _ => []
  | f + 1, is, b, l => if is = [] then [root l] else if l.length < 2 then [] else
    manyF f (is.filter (· < b + sp l.length)) b (l.take (sp l.length)) ++ manyF f (is.filter (b + sp l.length ≤ ·)) (b + sp l.length) (l.drop (sp l.length))
def many (is : List Nat) (b : Nat) (l : List T) : List T := manyF l.length is b l
theorem manyF_eq : ∀ (f g : Nat) (is : List Nat) (b : Nat) (l : List T), 1 ≤ l.length → l.length ≤ f → l.length ≤ g → manyF f is b l = manyF g is b l
  | 0, _, _, _, l, h0, h1, _ => by omega
  | _ + 1, 0, _, _, l, h0, _, h1 => by omega
  | f + 1, g + 1, is, b, l, h0, h1, h2 => by
    rw [manyF, manyF]
    by_cases hi : is = []
    · rw [if_pos hi, if_pos hi]
    · rw [if_neg hi, if_neg hi]
      by_cases h : l.length < 2
      · rw [if_pos h, if_pos h]
      · have a := sp_lt (n := l.length) (by omega)
        have b := sp_pos (n := l.length) (by omega)
        rw [if_neg h, if_neg h, manyF_eq f g _ _ _ (by simp; omega) (by simp; omega) (by simp; omega), manyF_eq f g _ _ (l.drop _) (by simp; omega) (by simp; omega) (by simp; omega)]
theorem many_none {b : Nat} {l : List T} (h : 1 ≤ l.length) : many [] b l = [root l] := by
  rw [many, manyF_eq _ (l.length - 1 + 1) _ _ _ h (by omega) (by omega), manyF, if_pos rfl]
theorem many_one {is : List Nat} {b : Nat} {l : List T} (hi : is ≠ []) (h : l.length = 1) : many is b l = [] := by
  rw [many, h, manyF, if_neg hi, if_pos (by omega)]
theorem many_cut {is : List Nat} {b : Nat} {l : List T} (hi : is ≠ []) (h : 2 ≤ l.length) :
    many is b l = many (is.filter (· < b + sp l.length)) b (l.take (sp l.length)) ++ many (is.filter (b + sp l.length ≤ ·)) (b + sp l.length) (l.drop (sp l.length)) := by
  have x := sp_lt h
  have y := sp_pos h
  rw [many, manyF_eq _ (l.length - 1 + 1) _ _ _ (by omega) (by omega) (by omega), manyF, if_neg hi, if_neg (by omega), many, many, manyF_eq (l.length - 1) _ _ _ (l.take _) (by simp; omega) (by simp; omega) (Nat.le_refl _), manyF_eq (l.length - 1) _ _ _ (l.drop _) (by simp; omega) (by simp; omega) (Nat.le_refl _)]
end Tree
end Go.Proofs.YtkiibcfjjplkaaaDoor

/- THE PLAIN MATHEMATICS OF LAYER 7: complete subtrees, rows of them, spans; nothing of the program. -/
namespace Go.Proofs.YtkiibcfjjplkaaaDoor
namespace Til
open Tree
/-- leaves b up to e -/
def sg (L : List T) (b e : Nat) : List T := (L.take e).drop b
theorem sg_len {L : List T} {b e : Nat} (h : e ≤ L.length) : (sg L b e).length = e - b := by unfold sg; rw [List.length_drop, List.length_take]; omega
theorem sg_hs {L : List T} (h : Hs L) (b e : Nat) : Hs (sg L b e) := (h.take e).drop b
theorem sg_take {L : List T} {b e k : Nat} (h : b + k ≤ e) : (sg L b e).take k = sg L b (b + k) := by
  unfold sg
  rw [List.take_drop, List.take_take]
  congr 2
  omega
theorem sg_drop {L : List T} {b e k : Nat} : (sg L b e).drop k = sg L (b + k) e := by
  unfold sg
  rw [List.drop_drop]
theorem sg_all (L : List T) : sg L 0 L.length = L := by unfold sg; rw [List.take_length, List.drop_zero]
theorem sg_append {L M : List T} {b e : Nat} (h : e ≤ L.length) : sg (L ++ M) b e = sg L b e := by
  unfold sg
  rw [List.take_append_of_le_length h]
theorem sg_nil {L : List T} (b : Nat) : sg L b b = [] := by
  unfold sg
  exact List.drop_eq_nil_of_le (by rw [List.length_take]; omega)
theorem sg_one {L : List T} {b : Nat} (h : b < L.length) : sg L b (b + 1) = [L[b]] := by
  unfold sg
  rw [List.take_add_one, List.getElem?_eq_getElem h, Option.toList_some, List.drop_append_of_le_length (by rw [List.length_take]; omega), List.drop_eq_nil_of_le (by rw [List.length_take]; omega), List.nil_append]
/-- the root of 2^a and some more -/
theorem root_two {L : List T} {b e a : Nat} (he : e ≤ L.length) (h1 : b + 2 ^ a < e) (h2 : e ≤ b + 2 * 2 ^ a) : root (sg L b e) = nd (root (sg L b (b + 2 ^ a))) (root (sg L (b + 2 ^ a) e)) := by
  have hp := Nat.two_pow_pos a
  have hl := sg_len (L := L) (b := b) he
  have hs := sp_one (n := (sg L b e).length) (by omega) a (by omega) (by omega)
  rw [root_cut (by omega), hs, sg_take (by omega), sg_drop]
/-- the hash of a complete subtree -/
def hs (L : List T) (l i : Nat) : T := root (sg L (i * 2 ^ l) ((i + 1) * 2 ^ l))
theorem hs_leaf {L : List T} {i : Nat} (h : i < L.length) : hs L 0 i = L[i] := by
  unfold hs
  rw [Nat.pow_zero, Nat.mul_one, Nat.mul_one, sg_one h, root_one]
theorem hs_node {L : List T} {l i : Nat} (h : (i + 1) * 2 ^ (l + 1) ≤ L.length) : hs L (l + 1) i = nd (hs L l (2 * i)) (hs L l (2 * i + 1)) := by
  unfold hs
  have hp := Nat.two_pow_pos l
  have e1 : i * 2 ^ (l + 1) = 2 * i * 2 ^ l := by rw [Nat.pow_succ, Nat.mul_comm (2 ^ l) 2, ← Nat.mul_assoc, Nat.mul_comm i 2]
  have e2 : (i + 1) * 2 ^ (l + 1) = 2 * i * 2 ^ l + 2 * 2 ^ l := by rw [Nat.add_mul, e1, Nat.one_mul, Nat.pow_succ]; omega
  have e3 : (2 * i + 1) * 2 ^ l = 2 * i * 2 ^ l + 2 ^ l := by rw [Nat.add_mul, Nat.one_mul]
  have e4 : (2 * i + 1 + 1) * 2 ^ l = 2 * i * 2 ^ l + 2 * 2 ^ l := by rw [Nat.add_mul, Nat.one_mul, e3]; omega
  rw [e1, e2, e3, e4, root_two (a := l) (by omega) (by omega) (by omega)]
theorem hs_append {L M : List T} {l i : Nat} (h : (i + 1) * 2 ^ l ≤ L.length) : hs (L ++ M) l i = hs L l i := by
  unfold hs
  rw [sg_append h]
theorem hs_hash {L : List T} (h : Hs L) (l i : Nat) : (hs L l i).length = 32 := root_hash (sg_hs h _ _)
/-- a row of complete subtrees, of which there are c -/
def row (L : List T) (h c l i : Nat) : List T := (List.range (min (2 ^ h) (c - i * 2 ^ h))).map fun t => hs L l (i * 2 ^ h + t)
theorem row_len (L : List T) (h c l i : Nat) : (row L h c l i).length = min (2 ^ h) (c - i * 2 ^ h) := by unfold row; rw [List.length_map, List.length_range]
theorem row_hs {L : List T} (hL : Hs L) (h c l i : Nat) : Hs (row L h c l i) := fun x hx => by
  obtain ⟨t, _, rfl⟩ := List.mem_map.1 hx
  exact hs_hash hL _ _
theorem row_get {L : List T} {h c l i t : Nat} (ht : t < min (2 ^ h) (c - i * 2 ^ h)) : (row L h c l i)[t]? = some (hs L l (i * 2 ^ h + t)) := by
  unfold row
  rw [List.getElem?_map, List.getElem?_range ht]
  rfl
/-- the hash stands in its row -/
theorem row_at {L : List T} {h c l i : Nat} (hi : i < c) : (row L h c l (i / 2 ^ h))[i % 2 ^ h]? = some (hs L l i) := by
  have hp := Nat.two_pow_pos h
  have h1 := Nat.mod_lt i hp
  have h2 : i / 2 ^ h * 2 ^ h + i % 2 ^ h = i := by rw [Nat.mul_comm]; exact Nat.div_add_mod i _
  rw [row_get (by omega), h2]
theorem row_more {L : List T} (h c l : Nat) : row L h (c + 1) l (c / 2 ^ h) = row L h c l (c / 2 ^ h) ++ [hs L l c] := by
  have hp := Nat.two_pow_pos h
  have h1 := Nat.mod_lt c hp
  have h2 : c / 2 ^ h * 2 ^ h + c % 2 ^ h = c := by rw [Nat.mul_comm]; exact Nat.div_add_mod c _
  unfold row
  rw [show min (2 ^ h) (c + 1 - c / 2 ^ h * 2 ^ h) = c % 2 ^ h + 1 by omega, show min (2 ^ h) (c - c / 2 ^ h * 2 ^ h) = c % 2 ^ h by omega, List.range_succ, List.map_append]
  simp only [List.map_cons, List.map_nil, h2]
theorem row_other {L : List T} {h c l i : Nat} (hi : i ≠ c / 2 ^ h) : row L h (c + 1) l i = row L h c l i := by
  have hp := Nat.two_pow_pos h
  have h1 := Nat.mod_lt c hp
  have h2 : c / 2 ^ h * 2 ^ h + c % 2 ^ h = c := by rw [Nat.mul_comm]; exact Nat.div_add_mod c _
  unfold row
  congr 2
  rcases Nat.lt_or_gt_of_ne hi with h3 | h3
  · have h4 : (i + 1) * 2 ^ h ≤ c / 2 ^ h * 2 ^ h := Nat.mul_le_mul_right _ h3
    rw [Nat.add_mul, Nat.one_mul] at h4
    omega
  · have h4 : (c / 2 ^ h + 1) * 2 ^ h ≤ i * 2 ^ h := Nat.mul_le_mul_right _ h3
    rw [Nat.add_mul, Nat.one_mul] at h4
    omega
theorem row_append {L M : List T} {h c l i : Nat} (hc : c * 2 ^ l ≤ L.length) : row (L ++ M) h c l i = row L h c l i := by
  unfold row
  apply List.map_congr_left
  intro t ht
  rw [List.mem_range] at ht
  apply hs_append
  have : (i * 2 ^ h + t + 1) * 2 ^ l ≤ c * 2 ^ l := Nat.mul_le_mul_right _ (by omega)
  omega
/-- all rows, of cnt l subtrees at level l -/
def rf (L : List T) (h : Nat) (cnt : Nat → Nat) (p : Int × Int) : List T := if 0 ≤ p.1 ∧ 0 ≤ p.2 then row L h (cnt p.1.toNat) p.1.toNat p.2.toNat else []
def cn (n l : Nat) : Nat := n / 2 ^ l
def up (cnt : Nat → Nat) (l : Nat) : Nat → Nat := fun k => if k = l then cnt l + 1 else cnt k
theorem rf_nat (L : List T) (h : Nat) (cnt : Nat → Nat) (l i : Nat) : rf L h cnt ((l : Int), (i : Int)) = row L h (cnt l) l i := by
  unfold rf
  rw [if_pos ⟨Int.natCast_nonneg _, Int.natCast_nonneg _⟩, Int.toNat_natCast, Int.toNat_natCast]
theorem rf_up_same (L : List T) (h : Nat) (cnt : Nat → Nat) (l : Nat) : rf L h (up cnt l) ((l : Int), ((cnt l / 2 ^ h : Nat) : Int)) = rf L h cnt ((l : Int), ((cnt l / 2 ^ h : Nat) : Int)) ++ [hs L l (cnt l)] := by
  rw [rf_nat, rf_nat]
  unfold up
  rw [if_pos rfl]
  exact row_more h (cnt l) l
theorem rf_up_other (L : List T) (h : Nat) (cnt : Nat → Nat) (l : Nat) {p : Int × Int} (hp : p ≠ ((l : Int), ((cnt l / 2 ^ h : Nat) : Int))) : rf L h (up cnt l) p = rf L h cnt p := by
  unfold rf
  by_cases h0 : 0 ≤ p.1 ∧ 0 ≤ p.2
  · rw [if_pos h0, if_pos h0]
    unfold up
    by_cases hl : p.1.toNat = l
    · rw [if_pos hl]
      subst hl
      refine row_other fun e => hp ?_
      have h1 : p.1 = ((p.1.toNat : Nat) : Int) := by omega
      have h2 : p.2 = ((p.2.toNat : Nat) : Int) := by omega
      apply Prod.ext
      · exact h1
      · rw [← e]; exact h2
    · rw [if_neg hl]
  · rw [if_neg h0, if_neg h0]
theorem rf_append {L M : List T} {h : Nat} {cnt : Nat → Nat} (hc : ∀ l, cnt l * 2 ^ l ≤ L.length) (p : Int × Int) : rf (L ++ M) h cnt p = rf L h cnt p := by
  unfold rf
  split
  · exact row_append (hc _)
  · rfl
theorem cn_le (n l : Nat) : cn n l * 2 ^ l ≤ n := Nat.div_mul_le_self n _
/-- while a leaf is taken: up to level k all is as with it -/
def gc (n k : Nat) : Nat → Nat := fun l => if l < k then cn (n + 1) l else cn n l
theorem gc_zero (n : Nat) : gc n 0 = cn n := by funext l; unfold gc; rw [if_neg (by omega)]
theorem cn_more {n k : Nat} (h : 2 ^ k ∣ n + 1) : cn (n + 1) k = cn n k + 1 := by
  unfold cn
  obtain ⟨c, hc⟩ := h
  have hp := Nat.two_pow_pos k
  have h1 : 0 < c := by
    rcases Nat.eq_zero_or_pos c with h0 | h0
    · rw [h0, Nat.mul_zero] at hc; omega
    · exact h0
  rw [hc, Nat.mul_div_cancel_left _ hp]
  have : n / 2 ^ k = c - 1 := by
    apply Nat.div_eq_of_lt_le
    · rw [Nat.mul_comm, Nat.mul_sub]; omega
    · rw [show c - 1 + 1 = c by omega, Nat.mul_comm]; omega
  omega
theorem cn_same {n k : Nat} (h : ¬ 2 ^ k ∣ n + 1) : cn (n + 1) k = cn n k := by
  unfold cn
  have hp := Nat.two_pow_pos k
  have h1 : (n + 1) / 2 ^ k = if 2 ^ k ∣ n + 1 then n / 2 ^ k + 1 else n / 2 ^ k := by rw [Nat.succ_div]; split <;> omega
  rw [h1, if_neg h]
theorem gc_up {n k : Nat} (h : 2 ^ k ∣ n + 1) : up (gc n k) k = gc n (k + 1) := by
  funext l
  unfold up gc
  by_cases hl : l = k
  · subst hl
    rw [if_pos rfl, if_neg (by omega), if_pos (by omega), cn_more h]
  · rw [if_neg hl]
    by_cases h2 : l < k
    · rw [if_pos h2, if_pos (by omega)]
    · rw [if_neg h2, if_neg (by omega)]
theorem gc_end {n k : Nat} (h : ¬ 2 ^ k ∣ n + 1) : gc n k = cn (n + 1) := by
  funext l
  unfold gc
  by_cases hl : l < k
  · rw [if_pos hl]
  · rw [if_neg hl]
    exact (cn_same fun h1 => h (Nat.dvd_trans (Nat.pow_dvd_pow 2 (by omega)) h1)).symm
end Til
end Go.Proofs.YtkiibcfjjplkaaaDoor
