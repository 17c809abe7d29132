import Derived.Test.YticjokhfjkebpaaGreatDoorPkRX1
/- THE PLAIN MATHEMATICS OF LAYER 6: texts of the steps of a walk, the highest ones that differ; nothing of the program. -/
namespace Go.Proofs.YticjokhfjkebpaaGreatDoor
namespace Tree
/-- the text of a node -/
def nt (a b : T) : T := 1 :: (a ++ b)
theorem nd_nt {a b : T} (ha : a.length = 32) (hb : b.length = 32) : nd a b = Sha.sha (nt a b) := by rw [nd, if_pos ⟨ha, hb⟩]; rfl
theorem nt_inj {a b c d : T} (h : a.length = c.length) (e : nt a b = nt c d) : a = c ∧ b = d := by
  unfold nt at e
  exact List.append_inj (List.cons.inj e).2 h
/-- the text of a step -/
def txt (d : Bool) (r h : T) : T := if d then nt h r else nt r h
theorem txt_inj {d : Bool} {r h s g : T} (h1 : r.length = 32) (h2 : h.length = 32) (h3 : s.length = 32) (h4 : g.length = 32) (e : txt d r h = txt d s g) : r = s ∧ h = g := by
  cases d
  · exact nt_inj (h1.trans h3.symm) e
  · have := nt_inj (h2.trans h4.symm) e
    exact ⟨this.2, this.1⟩
theorem txt_nd {d : Bool} {r h : T} (h1 : r.length = 32) (h2 : h.length = 32) : Sha.sha (txt d r h) = if d then nd h r else nd r h := by
  cases d
  · exact (nd_nt h1 h2).symm
  · exact (nd_nt h2 h1).symm
/-- the texts of a walk, from below -/
def txs : T → List Bool → List T → List T
  | r, d :: ds, h :: hs => txt d r h :: txs (Sha.sha (txt d r h)) ds hs
  | _, _, _ => []
theorem txs_length : ∀ (r : T) (ds : List Bool) (hs : List T), ds.length = hs.length → (txs r ds hs).length = ds.length
  | _, [], [], _ => rfl
  | r, d :: ds, h :: hs, e => by
    show (txs _ ds hs).length + 1 = _
    rw [txs_length _ ds hs (by simpa using e)]; rfl
theorem Hs.cons {h : T} {hs : List T} (e : Hs (h :: hs)) : h.length = 32 ∧ Hs hs := ⟨e h (List.mem_cons_self ..), fun x hx => e x (List.mem_cons_of_mem _ hx)⟩
theorem upd_length : ∀ (r : T) (ds : List Bool) (hs : List T), r.length = 32 → Hs hs → (upd r ds hs).length = 32
  | _, [], _, h1, _ => h1
  | _, _ :: _, [], h1, _ => h1
  | r, d :: ds, h :: hs, h1, h2 => by
    have h3 := h2.cons
    show (upd (if d then nd h r else nd r h) ds hs).length = 32
    refine upd_length _ ds hs ?_ h3.2
    cases d
    · exact nd_length h1 h3.1
    · exact nd_length h3.1 h1
theorem upd_cons {r : T} {d : Bool} {ds : List Bool} {h : T} {hs : List T} (h1 : r.length = 32) (h2 : h.length = 32) : upd r (d :: ds) (h :: hs) = upd (Sha.sha (txt d r h)) ds hs := by
  rw [txt_nd h1 h2]; rfl
theorem txs_snoc : ∀ (r : T) (ds : List Bool) (hs : List T) (d : Bool) (h : T), ds.length = hs.length → r.length = 32 → Hs hs → txs r (ds ++ [d]) (hs ++ [h]) = txs r ds hs ++ [txt d (upd r ds hs) h]
  | r, [], [], d, h, _, _, _ => rfl
  | r, x :: ds, y :: hs, d, h, e, h1, h2 => by
    have h3 := h2.cons
    rw [upd_cons h1 h3.1]
    show txt x r y :: txs _ (ds ++ [d]) (hs ++ [h]) = txt x r y :: txs _ ds hs ++ _
    rw [txs_snoc _ ds hs d h (by simpa using e) (Sha.sha_length _) h3.2]; rfl
/-- the highest ones that differ: lists from below -/
def hi : List T → List T → Option (T × T)
  | a :: az, b :: bs => match hi az bs with
    | some p => some p
    | none => if a = b then none else some (a, b)
  | _, _ => none
theorem hi_same : ∀ l : List T, hi l l = none
  | [] => rfl
  | a :: l => by rw [hi, hi_same l]; simp
/-- X5: two walks to one root, that are not the same -/
theorem hi_some : ∀ (ds : List Bool) (r s : T) (hs gs : List T), hs.length = ds.length → gs.length = ds.length → Hs hs → Hs gs → r.length = 32 → s.length = 32 → upd r ds hs = upd s ds gs → ¬ (r = s ∧ hs = gs) → ∃ p q, hi (txs r ds hs) (txs s ds gs) = some (p, q) ∧ p ≠ q ∧ Sha.sha p = Sha.sha q
  | [], r, s, [], [], _, _, _, _, _, _, e, hne => absurd ⟨e, rfl⟩ hne
  | d :: ds, r, s, h :: hs, g :: gs, l1, l2, H1, H2, hr, hs', e, hne => by
    have c1 := H1.cons
    have c2 := H2.cons
    rw [upd_cons hr c1.1, upd_cons hs' c2.1] at e
    by_cases hq : Sha.sha (txt d r h) = Sha.sha (txt d s g) ∧ hs = gs
    · obtain ⟨h1, rfl⟩ := hq
      have hn : txt d r h ≠ txt d s g := fun x => by
        obtain ⟨rfl, rfl⟩ := txt_inj hr c1.1 hs' c2.1 x
        exact hne ⟨rfl, rfl⟩
      refine ⟨_, _, ?_, hn, h1⟩
      show (match hi (txs (Sha.sha (txt d r h)) ds hs) (txs (Sha.sha (txt d s g)) ds hs) with | some p => some p | none => if txt d r h = txt d s g then none else some (txt d r h, txt d s g)) = _
      rw [h1, hi_same, if_neg hn]
    · obtain ⟨p, q, h1, h2, h3⟩ := hi_some ds _ _ hs gs (by simpa using l1) (by simpa using l2) c1.2 c2.2 (Sha.sha_length _) (Sha.sha_length _) e hq
      refine ⟨p, q, ?_, h2, h3⟩
      show (match hi (txs (Sha.sha (txt d r h)) ds hs) (txs (Sha.sha (txt d s g)) ds gs) with | some p => some p | none => if txt d r h = txt d s g then none else some (txt d r h, txt d s g)) = _
      rw [h1]
/-- the first ones that differ: lists from the top -/
def fst2 : List T → List T → Option (T × T)
  | a :: az, b :: bs => if a = b then fst2 az bs else some (a, b)
  | _, _ => none
theorem fst2_snoc : ∀ (l m : List T) (a b : T), l.length = m.length → fst2 (l ++ [a]) (m ++ [b]) = match fst2 l m with | some p => some p | none => if a = b then none else some (a, b)
  | [], [], a, b, _ => rfl
  | x :: l, y :: m, a, b, e => by
    show (if x = y then fst2 (l ++ [a]) (m ++ [b]) else some (x, y)) = match (if x = y then fst2 l m else some (x, y)) with | some p => some p | none => if a = b then none else some (a, b)
    by_cases h : x = y
    · rw [if_pos h, if_pos h, fst2_snoc l m a b (by simpa using e)]
    · rw [if_neg h, if_neg h]
theorem fst2_rev : ∀ (l m : List T), l.length = m.length → fst2 l.reverse m.reverse = hi l m
  | [], [], _ => rfl
  | a :: l, b :: m, e => by
    rw [List.reverse_cons, List.reverse_cons, fst2_snoc _ _ _ _ (by simpa using e), fst2_rev l m (by simpa using e)]; rfl
/-- X2: where two lists with one root part -/
def partF : Nat → List T → List T → Option (T × T)
  | 0, _, _ => none
  | f + 1, a, b => if a.length < 2 then none else
    if nt (root (a.take (sp a.length))) (root (a.drop (sp a.length))) = nt (root (b.take (sp a.length))) (root (b.drop (sp a.length))) then
      (if a.take (sp a.length) = b.take (sp a.length) then partF f (a.drop (sp a.length)) (b.drop (sp a.length)) else partF f (a.take (sp a.length)) (b.take (sp a.length)))
    else some (nt (root (a.take (sp a.length))) (root (a.drop (sp a.length))), nt (root (b.take (sp a.length))) (root (b.drop (sp a.length))))
theorem partF_some : ∀ (f : Nat) (a b : List T), a.length ≤ f → a.length = b.length → Hs a → Hs b → root a = root b → a ≠ b → ∃ p q, partF f a b = some (p, q) ∧ p ≠ q ∧ Sha.sha p = Sha.sha q
  | 0, a, b, h0, hl, _, _, _, hne => by
    obtain rfl : a = [] := List.length_eq_zero_iff.1 (by omega)
    obtain rfl : b = [] := List.length_eq_zero_iff.1 (by simpa using hl.symm)
    exact absurd rfl hne
  | f + 1, a, b, h0, hl, ha, hb, hr, hne => by
    by_cases h2 : a.length < 2
    · exfalso
      match a, b, hl, h2 with
      | [], [], _, _ => exact hne rfl
      | [x], [y], _, _ => rw [root_one, root_one] at hr; exact hne (by rw [hr])
    · have s1 := sp_lt (n := a.length) (by omega)
      have s2 := sp_pos (n := a.length) (by omega)
      have l1 := root_length _ (a.take (sp a.length)) (Nat.le_refl _) (ha.take _)
      have l2 := root_length _ (a.drop (sp a.length)) (Nat.le_refl _) (ha.drop _)
      have l3 := root_length _ (b.take (sp a.length)) (Nat.le_refl _) (hb.take _)
      have l4 := root_length _ (b.drop (sp a.length)) (Nat.le_refl _) (hb.drop _)
      have e1 := root_cut (l := a) (by omega)
      have e2 := root_cut (l := b) (by omega)
      rw [← hl] at e2
      rw [nd_nt l1 l2] at e1
      rw [nd_nt l3 l4] at e2
      rw [partF, if_neg h2]
      split
      · rename_i hq
        obtain ⟨q1, q2⟩ := nt_inj (l1.trans l3.symm) hq
        split
        · rename_i ht
          refine partF_some f _ _ (by rw [List.length_drop]; omega) (by rw [List.length_drop, List.length_drop]; omega) (ha.drop _) (hb.drop _) q2 fun e => hne ?_
          rw [← List.take_append_drop (sp a.length) a, ← List.take_append_drop (sp a.length) b, ht, e]
        · rename_i ht
          exact partF_some f _ _ (by rw [List.length_take]; omega) (by rw [List.length_take, List.length_take]; omega) (ha.take _) (hb.take _) q1 ht
      · rename_i hq
        exact ⟨_, _, rfl, hq, by rw [← e1, ← e2, hr]⟩
end Tree
end Go.Proofs.YticjokhfjkebpaaGreatDoor

/- THE PLAIN MATHEMATICS OF LAYER 6: forks, and what stands beside the way of a proof. -/
namespace Go.Proofs.YticjokhfjkebpaaGreatDoor
namespace Tree
/-- a subtree that parts: begin, middle, end; does the way go on in its right part? -/
abbrev Fork := Nat × Nat × Nat × Bool
def fkB (f : Fork) : Nat := f.1
def fkM (f : Fork) : Nat := f.2.1
def fkE (f : Fork) : Nat := f.2.2.1
def fkR (f : Fork) : Bool := f.2.2.2
/-- those on the way to leaf i, from the top -/
def fks : Nat → Nat → Nat → Nat → List Fork
  | 0, _, _, _ => []
  | f + 1, b, n, i => if n < 2 then [] else if i < b + sp n then (b, b + sp n, b + n, false) :: fks f b (sp n) i else (b, b + sp n, b + n, true) :: fks f (b + sp n) (n - sp n) i
theorem fks_small {f b n i : Nat} (h : n < 2) : fks f b n i = [] := by
  cases f
  · rfl
  · rw [fks, if_pos h]
theorem fks_left {f b n i : Nat} (h : 2 ≤ n) (hi : i < b + sp n) : fks (f + 1) b n i = (b, b + sp n, b + n, false) :: fks f b (sp n) i := by rw [fks, if_neg (by omega), if_pos hi]
theorem fks_right {f b n i : Nat} (h : 2 ≤ n) (hi : ¬ i < b + sp n) : fks (f + 1) b n i = (b, b + sp n, b + n, true) :: fks f (b + sp n) (n - sp n) i := by rw [fks, if_neg (by omega), if_neg hi]
theorem fks_D : ∀ (f b n i : Nat), n ≤ f → b ≤ i → (fks f b n i).map fkR = (D n (i - b)).reverse
  | 0, b, n, i, h, _ => by rw [D_one _ (by omega)]; rfl
  | f + 1, b, n, i, h, hb => by
    by_cases h2 : n < 2
    · rw [fks_small h2, D_one _ h2]; rfl
    · have s1 := sp_lt (n := n) (by omega)
      have s2 := sp_pos (n := n) (by omega)
      by_cases hi : i < b + sp n
      · rw [fks_left (by omega) hi, D_left (by omega) (by omega), List.reverse_append, List.map_cons, fks_D f b (sp n) i (by omega) hb]; rfl
      · rw [fks_right (by omega) hi, D_right (by omega) (by omega), List.reverse_append, List.map_cons, fks_D f (b + sp n) (n - sp n) i (by omega) (by omega), show i - b - sp n = i - (b + sp n) by omega]; rfl
/-- up to the one that ends at m -/
def cutE (m : Nat) (l : List Fork) : List Fork := l.takeWhile (fun f => fkE f != m)
theorem cutE_stop {m : Nat} {f : Fork} {l : List Fork} (h : fkE f = m) : cutE m (f :: l) = [] := by unfold cutE; rw [List.takeWhile_cons, if_neg (by simp [h])]
theorem cutE_go {m : Nat} {f : Fork} {l : List Fork} (h : fkE f ≠ m) : cutE m (f :: l) = f :: cutE m l := by unfold cutE; rw [List.takeWhile_cons, if_pos (by simp [h])]
theorem fks_PD : ∀ (f b n k : Nat), n ≤ f → 1 ≤ k → k ≤ n → (cutE (b + k) (fks f b n (b + k - 1))).map fkR = (PD k n).reverse
  | 0, b, n, k, h, h1, h2 => by omega
  | f + 1, b, n, k, h, h1, h2 => by
    by_cases h3 : n < 2
    · obtain rfl : n = 1 := by omega
      obtain rfl : k = 1 := by omega
      rw [fks_small (by omega), PD_same]; rfl
    · have s1 := sp_lt (n := n) (by omega)
      have s2 := sp_pos (n := n) (by omega)
      by_cases hk : k = n
      · subst hk
        rw [PD_same]
        by_cases hi : b + k - 1 < b + sp k
        · rw [fks_left (by omega) hi, cutE_stop (by rfl)]; rfl
        · rw [fks_right (by omega) hi, cutE_stop (by rfl)]; rfl
      · by_cases hi : k ≤ sp n
        · rw [fks_left (by omega) (by omega), cutE_go (by show b + n ≠ b + k; omega), PD_left h1 (by omega) hi, List.map_cons, fks_PD f b (sp n) k (by omega) h1 hi, List.reverse_append]; rfl
        · have e := fks_PD f (b + sp n) (n - sp n) (k - sp n) (by omega) (by omega) (by omega)
          rw [show b + sp n + (k - sp n) = b + k by omega] at e
          rw [fks_right (by omega) (by omega), cutE_go (by show b + n ≠ b + k; omega), PD_right h1 (by omega) hi, List.map_cons, e, List.reverse_append]; rfl
/-- what stands beside the way to the subtree that ends at k, from below -/
def own : Nat → Nat → List T → List T
  | 0, _, _ => []
  | f + 1, k, l => if l.length < 2 ∨ k = l.length then [] else if k ≤ sp l.length then own f k (l.take (sp l.length)) ++ [root (l.drop (sp l.length))] else own f (k - sp l.length) (l.drop (sp l.length)) ++ [root (l.take (sp l.length))]
/-- its own root -/
def stt : Nat → Nat → List T → T
  | 0, _, l => root l
  | f + 1, k, l => if l.length < 2 ∨ k = l.length then root l else if k ≤ sp l.length then stt f k (l.take (sp l.length)) else stt f (k - sp l.length) (l.drop (sp l.length))
theorem root_len {l : List T} (h : Hs l) : (root l).length = 32 := root_length _ l (Nat.le_refl _) h
theorem Hs.snoc {l : List T} {x : T} (h : Hs l) (hx : x.length = 32) : Hs (l ++ [x]) := fun y hy => by
  rcases List.mem_append.1 hy with e | e
  · exact h y e
  · rw [List.mem_singleton.1 e]; exact hx
theorem own_all : ∀ (f k : Nat) (l : List T), l.length ≤ f → 1 ≤ k → k ≤ l.length → Hs l → (own f k l).length = (PD k l.length).length ∧ Hs (own f k l) ∧ (stt f k l).length = 32 ∧ upd (stt f k l) (PD k l.length) (own f k l) = root l
  | 0, k, l, h, h1, h2, _ => by omega
  | f + 1, k, l, h, h1, h2, H => by
    by_cases h3 : l.length < 2 ∨ k = l.length
    · have e : PD k l.length = [] := by
        rcases h3 with h3 | h3
        · rw [show k = l.length by omega, PD_same]
        · rw [h3, PD_same]
      rw [own, stt, if_pos h3, if_pos h3, e]
      exact ⟨rfl, fun x hx => absurd hx (List.not_mem_nil), root_len H, rfl⟩
    · have s1 := sp_lt (n := l.length) (by omega)
      have s2 := sp_pos (n := l.length) (by omega)
      have lt : (l.take (sp l.length)).length = sp l.length := by rw [List.length_take]; omega
      have ld : (l.drop (sp l.length)).length = l.length - sp l.length := by rw [List.length_drop]
      rw [own, stt, if_neg h3, if_neg h3]
      by_cases hk : k ≤ sp l.length
      · obtain ⟨a1, a2, a3, a4⟩ := own_all f k (l.take (sp l.length)) (by omega) h1 (by omega) (H.take _)
        rw [lt] at a1 a4
        rw [if_pos hk, if_pos hk, PD_left h1 (by omega) hk]
        refine ⟨by simp [a1], a2.snoc (root_len (H.drop _)), a3, ?_⟩
        rw [upd_snoc _ _ _ _ _ a1.symm, a4, root_cut (l := l) (by omega)]; rfl
      · obtain ⟨a1, a2, a3, a4⟩ := own_all f (k - sp l.length) (l.drop (sp l.length)) (by omega) (by omega) (by omega) (H.drop _)
        rw [ld] at a1 a4
        rw [if_neg hk, if_neg hk, PD_right h1 (by omega) hk]
        refine ⟨by simp [a1], a2.snoc (root_len (H.take _)), a3, ?_⟩
        rw [upd_snoc _ _ _ _ _ a1.symm, a4, root_cut (l := l) (by omega)]; rfl
/-- a span of the leaves -/
def seg (l : List T) (b e : Nat) : List T := (l.take e).drop b
/-- the text of a fork, out of the leaves -/
def ftx (l : List T) (f : Fork) : T := nt (root ((seg l (fkB f) (fkE f)).take (fkM f - fkB f))) (root ((seg l (fkB f) (fkE f)).drop (fkM f - fkB f)))
theorem seg_len {l : List T} {b e : Nat} (h : e ≤ l.length) : (seg l b e).length = e - b := by unfold seg; rw [List.length_drop, List.length_take]; omega
theorem seg_take {l : List T} {b n k : Nat} (hk : k ≤ n) : (seg l b (b + n)).take k = seg l b (b + k) := by
  unfold seg
  rw [List.take_drop, List.take_take, show min (b + k) (b + n) = b + k by omega]
theorem seg_drop {l : List T} {b n k : Nat} (hk : k ≤ n) : (seg l b (b + n)).drop k = seg l (b + k) (b + k + (n - k)) := by
  unfold seg
  rw [List.drop_drop, show b + k + (n - k) = b + n by omega]
theorem fks_ftx : ∀ (f b n k : Nat) (l : List T), n ≤ f → 1 ≤ k → k ≤ n → b + n ≤ l.length → Hs l → (cutE (b + k) (fks f b n (b + k - 1))).map (ftx l) = (txs (stt f k (seg l b (b + n))) (PD k n) (own f k (seg l b (b + n)))).reverse
  | 0, b, n, k, l, h, h1, h2, _, _ => by omega
  | f + 1, b, n, k, l, h, h1, h2, hl, H => by
    have sl : (seg l b (b + n)).length = n := by rw [seg_len hl]; omega
    have HS : Hs (seg l b (b + n)) := (H.take _).drop _
    by_cases h3 : n < 2 ∨ k = n
    · have e : PD k n = [] := by
        rcases h3 with h3 | h3
        · rw [show k = n by omega, PD_same]
        · rw [h3, PD_same]
      have e2 : (cutE (b + k) (fks (f + 1) b n (b + k - 1))) = [] := by
        by_cases h4 : n < 2
        · rw [fks_small h4]; rfl
        · obtain rfl : k = n := by omega
          by_cases hi : b + k - 1 < b + sp k
          · rw [fks_left (by omega) hi, cutE_stop (by rfl)]
          · rw [fks_right (by omega) hi, cutE_stop (by rfl)]
      rw [e, e2]; rfl
    · have s1 := sp_lt (n := n) (by omega)
      have s2 := sp_pos (n := n) (by omega)
      have q1 := seg_take (l := l) (b := b) (n := n) (k := sp n) (by omega)
      have q2 := seg_drop (l := l) (b := b) (n := n) (k := sp n) (by omega)
      rw [own, stt, sl, if_neg h3, if_neg h3]
      have top : ∀ d, ftx l (b, b + sp n, b + n, d) = nt (root (seg l b (b + sp n))) (root (seg l (b + sp n) (b + sp n + (n - sp n)))) := fun d => by
        show nt (root ((seg l b (b + n)).take (b + sp n - b))) (root ((seg l b (b + n)).drop (b + sp n - b))) = _
        rw [show b + sp n - b = sp n by omega, q1, q2]
      by_cases hk : k ≤ sp n
      · have L1 : (seg l b (b + sp n)).length = sp n := by rw [seg_len (by omega)]; omega
        obtain ⟨a1, a2, a3, a4⟩ := own_all f k (seg l b (b + sp n)) (by omega) h1 (by omega) ((H.take _).drop _)
        rw [L1] at a1 a4
        rw [fks_left (by omega) (by omega), cutE_go (by show b + n ≠ b + k; omega), List.map_cons, fks_ftx f b (sp n) k l (by omega) h1 hk (by omega) H, if_pos hk, if_pos hk, PD_left h1 (by omega) hk, q1, q2, txs_snoc _ _ _ _ _ a1.symm a3 a2, List.reverse_append, a4, top]; rfl
      · have L1 : (seg l (b + sp n) (b + sp n + (n - sp n))).length = n - sp n := by rw [seg_len (by omega)]; omega
        obtain ⟨a1, a2, a3, a4⟩ := own_all f (k - sp n) (seg l (b + sp n) (b + sp n + (n - sp n))) (by omega) (by omega) (by omega) ((H.take _).drop _)
        rw [L1] at a1 a4
        have ih := fks_ftx f (b + sp n) (n - sp n) (k - sp n) l (by omega) (by omega) (by omega) (by omega) H
        rw [show b + sp n + (k - sp n) = b + k by omega] at ih
        rw [fks_right (by omega) (by omega), cutE_go (by show b + n ≠ b + k; omega), List.map_cons, ih, if_neg hk, if_neg hk, PD_right h1 (by omega) hk, q1, q2, txs_snoc _ _ _ _ _ a1.symm a3 a2, List.reverse_append, a4, top]; rfl
theorem upd2_snd : ∀ (a b : T) (ds : List Bool) (hs : List T), (upd2 a b ds hs).2 = upd b ds hs
  | _, _, [], _ => rfl
  | _, _, true :: _, [] => rfl
  | _, _, false :: _, [] => rfl
  | _, _, true :: ds, _ :: hs => upd2_snd _ _ ds hs
  | _, _, false :: ds, _ :: hs => upd2_snd _ _ ds hs
theorem proof_own : ∀ (f k : Nat) (l : List T) (whole : Bool), l.length ≤ f → 1 ≤ k → k ≤ l.length → proof k l whole = (if fl k l.length whole then stt f k l :: own f k l else own f k l) ∧ (fl k l.length whole = false → stt f k l = root (l.take k))
  | 0, k, l, _, h, h1, h2 => by omega
  | f + 1, k, l, whole, h, h1, h2 => by
    by_cases hk : k = l.length
    · have hc : l.length < 2 ∨ k = l.length := .inr hk
      rw [own, stt, if_pos hc, if_pos hc]
      subst hk
      rw [fl_same, List.take_length]
      cases whole
      · rw [proof_part h1]; exact ⟨rfl, fun _ => rfl⟩
      · rw [proof_whole h1]; exact ⟨rfl, fun _ => rfl⟩
    · have s1 := sp_lt (n := l.length) (by omega)
      have s2 := sp_pos (n := l.length) (by omega)
      have lt : (l.take (sp l.length)).length = sp l.length := by rw [List.length_take]; omega
      have ld : (l.drop (sp l.length)).length = l.length - sp l.length := by rw [List.length_drop]
      have hc : ¬ (l.length < 2 ∨ k = l.length) := by omega
      rw [own, stt, if_neg hc, if_neg hc]
      by_cases hs : k ≤ sp l.length
      · obtain ⟨a1, a2⟩ := proof_own f k (l.take (sp l.length)) whole (by omega) h1 (by omega)
        rw [lt] at a1 a2
        rw [if_pos hs, if_pos hs, proof_left h1 (by omega) hs, fl_left h1 (by omega) hs, a1]
        refine ⟨by split <;> rfl, fun e => ?_⟩
        rw [a2 e, List.take_take, show min k (sp l.length) = k by omega]
      · obtain ⟨a1, _⟩ := proof_own f (k - sp l.length) (l.drop (sp l.length)) false (by omega) (by omega) (by omega)
        rw [fl_false, if_pos rfl] at a1
        rw [if_neg hs, if_neg hs, proof_right h1 (by omega) hs, fl_right h1 (by omega) hs, if_pos rfl, a1]
        exact ⟨rfl, fun e => by cases e⟩
/-- the walk of a proof begins here -/
def frm (m n : Nat) (old : T) (P : List T) : T := if fl m n true then P.headD [] else old
def bsd (m n : Nat) (P : List T) : List T := if fl m n true then P.tail else P
theorem bth_frm (m n : Nat) (old : T) (P : List T) : (bth m n true old P).2 = upd (frm m n old P) (PD m n) (bsd m n P) := by
  unfold bth frm bsd
  split <;> rw [upd2_snd]
theorem frm_ok {m n : Nat} {old : T} {P : List T} (hl : P.length = pl m n true) (ho : old.length = 32) (hP : Hs P) : (frm m n old P).length = 32 ∧ Hs (bsd m n P) ∧ (bsd m n P).length = (PD m n).length := by
  unfold frm bsd
  unfold pl at hl
  split
  · rename_i h
    rw [if_pos h] at hl
    match P, hl, hP with
    | p :: P, hl, hP => exact ⟨hP.cons.1, hP.cons.2, by simpa using hl⟩
  · rename_i h
    rw [if_neg h] at hl
    exact ⟨ho, hP, by omega⟩
/-- X5: a proof that is accepted, from another old root -/
theorem con_some {m : Nat} {l : List T} {old : T} {P : List T} (h1 : 1 ≤ m) (h2 : m ≤ l.length) (hl : P.length = pl m l.length true) (ho : old.length = 32) (hP : Hs P) (H : Hs l) (hb : bth m l.length true old P = (old, root l)) (hne : old ≠ root (l.take m)) :
    ∃ p q, hi (txs (frm m l.length old P) (PD m l.length) (bsd m l.length P)) (txs (stt l.length m l) (PD m l.length) (own l.length m l)) = some (p, q) ∧ p ≠ q ∧ Sha.sha p = Sha.sha q := by
  obtain ⟨a1, a2, a3, a4⟩ := own_all l.length m l (Nat.le_refl _) h1 h2 H
  obtain ⟨f1, f2, f3⟩ := frm_ok hl ho hP
  obtain ⟨b1, b2⟩ := proof_own l.length m l true (Nat.le_refl _) h1 h2
  refine hi_some _ _ _ _ _ f3 a1 f2 a2 f1 a3 ?_ ?_
  · rw [a4, ← bth_frm, hb]
  · rintro ⟨e1, e2⟩
    unfold frm at e1
    unfold bsd at e2
    by_cases hf : fl m l.length true = true
    · rw [if_pos hf] at e1 e2 b1
      have hPe : P = proof m l true := by
        rw [b1, ← e1, ← e2]
        unfold pl at hl
        rw [if_pos hf] at hl
        match P, hl with
        | p :: P, hl => rfl
      have hq := (proof_PD l.length m l true h1 h2 (Nat.le_refl _)).2 (root (l.take m)) (fun _ => rfl)
      rw [← hPe] at hq
      have : bth m l.length true old P = bth m l.length true (root (l.take m)) P := by unfold bth; rw [if_pos hf, if_pos hf]
      rw [this, hq] at hb
      exact hne (congrArg Prod.fst hb).symm
    · rw [if_neg hf] at e1
      exact hne (e1.trans (b2 (by simpa using hf)))
end Tree
end Go.Proofs.YticjokhfjkebpaaGreatDoor

/- which proofs begin with their first hash: those from a size that is no power of two -/
namespace Go.Proofs.YticjokhfjkebpaaGreatDoor
namespace Tree
theorem St_zero : ∀ (f p l : Nat), p ≤ f → ((St p l).1 = 0 ↔ ∃ j, p + 1 = 2 ^ j)
  | f, p, l, hf => by
    by_cases h : p % 2 = 1
    · match f, hf with
      | 0, hf => omega
      | f + 1, hf =>
      rw [St_odd _ h, St_zero f (p / 2) (l / 2) (by omega)]
      constructor
      · rintro ⟨j, hj⟩
        exact ⟨j + 1, by rw [Nat.pow_succ]; omega⟩
      · rintro ⟨j, hj⟩
        match j, hj with
        | 0, hj => simp at hj; omega
        | j + 1, hj => exact ⟨j, by rw [Nat.pow_succ] at hj; omega⟩
    · rw [St_even _ h]
      constructor
      · intro e
        have e : p = 0 := e
        exact ⟨0, by simp; omega⟩
      · rintro ⟨j, hj⟩
        show p = 0
        match j, hj with
        | 0, hj => simp at hj; omega
        | j + 1, hj => rw [Nat.pow_succ] at hj; omega
/-- a size is a power of two: told by what it is made of -/
def pw (m : Nat) : Bool := [1, 2, 4, 8, 16, 32, 64, 128, 256, 512, 1024, 2048, 4096].contains m
theorem pw_iff {m : Nat} (h : m ≤ 4096) : pw m = true ↔ ∃ j, m = 2 ^ j := by
  constructor
  · intro h1
    have h2 : m ∈ [1, 2, 4, 8, 16, 32, 64, 128, 256, 512, 1024, 2048, 4096] := by simpa [pw] using h1
    simp only [List.mem_cons, List.not_mem_nil, or_false] at h2
    rcases h2 with rfl | rfl | rfl | rfl | rfl | rfl | rfl | rfl | rfl | rfl | rfl | rfl | rfl
    · exact ⟨0, rfl⟩
    · exact ⟨1, rfl⟩
    · exact ⟨2, rfl⟩
    · exact ⟨3, rfl⟩
    · exact ⟨4, rfl⟩
    · exact ⟨5, rfl⟩
    · exact ⟨6, rfl⟩
    · exact ⟨7, rfl⟩
    · exact ⟨8, rfl⟩
    · exact ⟨9, rfl⟩
    · exact ⟨10, rfl⟩
    · exact ⟨11, rfl⟩
    · exact ⟨12, rfl⟩
  · rintro ⟨j, rfl⟩
    have hj : j < 13 := by
      refine Nat.lt_of_not_le fun hle => ?_
      have := Nat.pow_le_pow_right (n := 2) (by decide) hle
      omega
    have : ∀ j : Fin 13, pw (2 ^ j.val) = true := by decide
    exact this ⟨j, hj⟩
theorem fl_pw {m n : Nat} (h1 : 1 ≤ m) (h2 : m < n) (h3 : m ≤ 4096) : fl m n true = !pw m := by
  have h := (PD_SU n m n (Nat.le_refl _) h1 h2).2
  unfold fl
  rw [h]
  have hz := St_zero (m - 1) (m - 1) (n - 1) (Nat.le_refl _)
  rw [show m - 1 + 1 = m by omega, ← pw_iff h3] at hz
  by_cases hp : pw m = true
  · rw [hp]
    have := hz.2 hp
    simp [this]
  · have hp' : pw m = false := by simpa using hp
    have : ¬ (St (m - 1) (n - 1)).1 = 0 := fun e => hp (hz.1 e)
    simp [hp', this]
end Tree
end Go.Proofs.YticjokhfjkebpaaGreatDoor

/- THE PLAIN MATHEMATICS OF LAYER 6: the document's steps of a walk. -/
namespace Go.Proofs.YticjokhfjkebpaaGreatDoor
namespace Tree
/-- the steps from a subtree (b, n) down to a span: what stands beside (begin, end), and does it stand left? -/
def dn : Nat → Nat → Nat → Nat → Nat → List (Nat × Nat × Bool)
  | 0, _, _, _, _ => []
  | f + 1, b, n, fb, fe => if (b = fb ∧ b + n = fe) ∨ n < 2 then [] else if b + sp n ≤ fb then (b, b + sp n, true) :: dn f (b + sp n) (n - sp n) fb fe else (b + sp n, b + n, false) :: dn f b (sp n) fb fe
theorem dn_stop {f b n fb fe : Nat} (h : (b = fb ∧ b + n = fe) ∨ n < 2) : dn f b n fb fe = [] := by
  cases f
  · rfl
  · rw [dn, if_pos h]
theorem dn_right {f b n fb fe : Nat} (h : ¬ ((b = fb ∧ b + n = fe) ∨ n < 2)) (h2 : b + sp n ≤ fb) : dn (f + 1) b n fb fe = (b, b + sp n, true) :: dn f (b + sp n) (n - sp n) fb fe := by rw [dn, if_neg h, if_pos h2]
theorem dn_left {f b n fb fe : Nat} (h : ¬ ((b = fb ∧ b + n = fe) ∨ n < 2)) (h2 : ¬ b + sp n ≤ fb) : dn (f + 1) b n fb fe = (b + sp n, b + n, false) :: dn f b (sp n) fb fe := by rw [dn, if_neg h, if_neg h2]
theorem dn_D : ∀ (f b n i : Nat), n ≤ f → b ≤ i → i < b + n → (dn f b n i (i + 1)).map (·.2.2) = (D n (i - b)).reverse
  | 0, b, n, i, h, _, h2 => by omega
  | f + 1, b, n, i, h, hb, h2 => by
    by_cases h3 : n < 2
    · rw [dn_stop (.inr h3), D_one _ h3]; rfl
    · have s1 := sp_lt (n := n) (by omega)
      have s2 := sp_pos (n := n) (by omega)
      have hs : ¬ ((b = i ∧ b + n = i + 1) ∨ n < 2) := by omega
      by_cases hi : b + sp n ≤ i
      · rw [dn_right hs hi, D_right (by omega) (by omega), List.reverse_append, List.map_cons, dn_D f (b + sp n) (n - sp n) i (by omega) hi (by omega), show i - b - sp n = i - (b + sp n) by omega]; rfl
      · rw [dn_left hs hi, D_left (by omega) (by omega), List.reverse_append, List.map_cons, dn_D f b (sp n) i (by omega) hb (by omega)]; rfl
theorem pow_mono {a b : Nat} (h : a ≤ b) : 2 ^ a ∣ 2 ^ b := Nat.pow_dvd_pow 2 h
/-- sp n is a power of two, n at most its double -/
theorem sp_pow {n : Nat} (h : 2 ≤ n) : ∃ a, sp n = 2 ^ a ∧ 2 ^ a < n ∧ n ≤ 2 ^ (a + 1) := by
  refine ⟨(n - 1).log2, sp_eq h, ?_, ?_⟩
  · rw [← sp_eq h]; exact sp_lt h
  · have := Nat.lt_log2_self (n := n - 1)
    omega
theorem dn_PD (l : List T) : ∀ (f b n k j : Nat), n ≤ f → 1 ≤ k → k < n → (∃ J, n ≤ 2 ^ J ∧ 2 ^ J ∣ b) → 2 ^ j ∣ b + k → ¬ 2 ^ (j + 1) ∣ b + k → b + n ≤ l.length →
    (dn f b n (b + k - 2 ^ j) (b + k)).map (·.2.2) = (PD k n).reverse ∧ (dn f b n (b + k - 2 ^ j) (b + k)).map (fun s => root (seg l s.1 s.2.1)) = (own f k (seg l b (b + n))).reverse ∧ root (seg l (b + k - 2 ^ j) (b + k)) = stt f k (seg l b (b + n))
  | 0, b, n, k, j, h, h1, h2, _, _, _, _ => by omega
  | f + 1, b, n, k, j, h, h1, h2, ⟨J, hJ, hd⟩, hj, hj2, hl => by
    obtain ⟨a, ha, ha1, ha2⟩ := sp_pow (n := n) (by omega)
    have sl : (seg l b (b + n)).length = n := by rw [seg_len hl]; omega
    have q1 := seg_take (l := l) (b := b) (n := n) (k := sp n) (by omega)
    have q2 := seg_drop (l := l) (b := b) (n := n) (k := sp n) (by omega)
    have haJ : a + 1 ≤ J := by
      rcases Nat.lt_or_ge a J with e | e
      · exact e
      · have := Nat.pow_le_pow_right (n := 2) (by omega) e; omega
    have d1 : 2 ^ (a + 1) ∣ b := Nat.dvd_trans (pow_mono haJ) hd
    have d0 : 2 ^ a ∣ b := Nat.dvd_trans (pow_mono (by omega)) d1
    have hs : ¬ ((b = b + k - 2 ^ j ∧ b + n = b + k) ∨ n < 2) := by omega
    have ho : ¬ (n < 2 ∨ k = n) := by omega
    have pj := Nat.two_pow_pos j
    rw [own, stt, sl, if_neg ho, if_neg ho]
    rcases Nat.lt_trichotomy k (sp n) with hk | hk | hk
    · obtain ⟨r1, r2, r3⟩ := dn_PD l f b (sp n) k j (by omega) h1 hk ⟨J, by omega, hd⟩ hj hj2 (by omega)
      rw [dn_left hs (by omega), List.map_cons, List.map_cons, r1, r2, r3, PD_left h1 h2 (by omega), if_pos (by omega), if_pos (by omega), q1, q2, List.reverse_append, List.reverse_append]
      refine ⟨rfl, ?_, rfl⟩
      show root (seg l (b + sp n) (b + n)) :: _ = _
      rw [show b + sp n + (n - sp n) = b + n by omega]; rfl
    · have e : j = a := by
        have k1 : 2 ^ a ∣ b + k := by rw [hk, ha]; exact Nat.dvd_add d0 (Nat.dvd_refl _)
        have k2 : ¬ 2 ^ (a + 1) ∣ b + k := fun e => by
          have := (Nat.dvd_add_right d1).1 e
          rw [hk, ha] at this
          have := Nat.le_of_dvd (Nat.two_pow_pos a) this
          rw [Nat.pow_succ] at this; have := Nat.two_pow_pos a; omega
        rcases Nat.lt_trichotomy j a with e | e | e
        · exact absurd (Nat.dvd_trans (pow_mono e) k1) hj2
        · exact e
        · exact absurd (Nat.dvd_trans (pow_mono e) hj) k2
      subst e
      have e1 : b + k - 2 ^ j = b := by omega
      have e2 : PD k (sp n) = [] := by rw [hk, PD_same]
      have e3 : own f k (seg l b (b + sp n)) = [] ∧ stt f k (seg l b (b + sp n)) = root (seg l b (b + sp n)) := by
        have sl2 : (seg l b (b + sp n)).length = sp n := by rw [seg_len (by omega)]; omega
        cases f with
        | zero => exact ⟨rfl, rfl⟩
        | succ f =>
          rw [own, stt, sl2, if_pos (.inr hk), if_pos (.inr hk)]
          exact ⟨rfl, rfl⟩
      rw [dn_left hs (by omega), e1, dn_stop (.inl ⟨rfl, by rw [hk]⟩), PD_left h1 h2 (by omega), e2, if_pos (by omega), if_pos (by omega), q1, q2, e3.1, e3.2]
      refine ⟨rfl, ?_, by rw [hk]⟩
      show [root (seg l (b + sp n) (b + n))] = _
      rw [show b + sp n + (n - sp n) = b + n by omega]; rfl
    · have d2 : 2 ^ a ∣ b + sp n := by rw [ha]; exact Nat.dvd_add d0 (Nat.dvd_refl _)
      have e0 : b + k = b + sp n + (k - sp n) := by omega
      have hlt : k - sp n < 2 ^ a := by rw [Nat.pow_succ] at ha2; omega
      have hja : j < a := by
        rcases Nat.lt_or_ge j a with e | e
        · exact e
        · have := Nat.dvd_trans (pow_mono e) hj
          rw [e0] at this
          have := Nat.le_of_dvd (by omega) ((Nat.dvd_add_right d2).1 this)
          omega
      have hle : 2 ^ j ≤ k - sp n := by
        rw [e0] at hj
        exact Nat.le_of_dvd (by omega) ((Nat.dvd_add_right (Nat.dvd_trans (pow_mono (by omega)) d2)).1 hj)
      obtain ⟨r1, r2, r3⟩ := dn_PD l f (b + sp n) (n - sp n) (k - sp n) j (by omega) (by omega) (by omega) ⟨a, by rw [Nat.pow_succ] at ha2; omega, d2⟩ (by rw [← e0]; exact hj) (by rw [← e0]; exact hj2) (by omega)
      rw [← e0] at r1 r2 r3
      rw [dn_right hs (by omega), List.map_cons, List.map_cons, r1, r2, r3, PD_right h1 h2 (by omega), if_neg (by omega), if_neg (by omega), q1, q2, List.reverse_append, List.reverse_append]
      exact ⟨rfl, rfl, rfl⟩
/-- the hash that a walk has come to -/
def stw : T → List Bool → List T → T
  | r, d :: ds, h :: hs => stw (Sha.sha (txt d r h)) ds hs
  | r, _, _ => r
theorem txs_step : ∀ (r : T) (ds : List Bool) (hs : List T) (d : Bool) (h : T), ds.length = hs.length → txs r (ds ++ [d]) (hs ++ [h]) = txs r ds hs ++ [txt d (stw r ds hs) h] ∧ stw r (ds ++ [d]) (hs ++ [h]) = Sha.sha (txt d (stw r ds hs) h)
  | _, [], [], _, _, _ => ⟨rfl, rfl⟩
  | r, x :: ds, y :: hs, d, h, e => by
    obtain ⟨e1, e2⟩ := txs_step (Sha.sha (txt x r y)) ds hs d h (by simpa using e)
    refine ⟨?_, e2⟩
    show txt x r y :: txs _ (ds ++ [d]) (hs ++ [h]) = _
    rw [e1]; rfl
end Tree
end Go.Proofs.YticjokhfjkebpaaGreatDoor

/- THE PLAIN MATHEMATICS OF LAYER 8: spans of paths and proofs; nothing of the program. -/
namespace Go.Proofs.YticjokhfjkebpaaGreatDoor
namespace Tree
/-- the greatest power of two below n is the only one -/
theorem sp_unique {n j : Nat} (h1 : 2 ^ j < n) (h2 : n ≤ 2 ^ (j + 1)) : sp n = 2 ^ j := by
  have p := Nat.two_pow_pos j
  obtain ⟨a, ha, a1, a2⟩ := sp_pow (n := n) (by omega)
  rw [ha]
  rcases Nat.lt_trichotomy a j with e | e | e
  · have := Nat.pow_le_pow_right (n := 2) (by omega) (show a + 1 ≤ j from e); omega
  · rw [e]
  · have := Nat.pow_le_pow_right (n := 2) (by omega) (show j + 1 ≤ a from e); omega
theorem root_seg_two {l : List T} {b n : Nat} (h : 2 ≤ n) (hl : b + n ≤ l.length) : root (seg l b (b + n)) = nd (root (seg l b (b + sp n))) (root (seg l (b + sp n) (b + n))) := by
  have s1 := sp_lt (n := n) h
  have sl : (seg l b (b + n)).length = n := by rw [seg_len hl]; omega
  rw [root_cut (l := seg l b (b + n)) (by omega), sl, seg_take (by omega), seg_drop (by omega), show b + sp n + (n - sp n) = b + n by omega]
/-- H2: what lies beside the way to leaf i, from below -/
def pthF : Nat → Nat → Nat → Nat → List (Nat × Nat)
  | 0, _, _, _ => []
  | f + 1, b, n, i => if n < 2 then [] else if i < b + sp n then pthF f b (sp n) i ++ [(b + sp n, b + n)] else pthF f (b + sp n) (n - sp n) i ++ [(b, b + sp n)]
theorem pthF_small {f b n i : Nat} (h : n < 2) : pthF f b n i = [] := by
  cases f
  · rfl
  · rw [pthF, if_pos h]
theorem pthF_left {f b n i : Nat} (h : 2 ≤ n) (hi : i < b + sp n) : pthF (f + 1) b n i = pthF f b (sp n) i ++ [(b + sp n, b + n)] := by rw [pthF, if_neg (by omega), if_pos hi]
theorem pthF_right {f b n i : Nat} (h : 2 ≤ n) (hi : ¬ i < b + sp n) : pthF (f + 1) b n i = pthF f (b + sp n) (n - sp n) i ++ [(b, b + sp n)] := by rw [pthF, if_neg (by omega), if_neg hi]
theorem pthF_len : ∀ (f b n i : Nat), n ≤ f → b ≤ i → (pthF f b n i).length = (D n (i - b)).length
  | 0, b, n, i, h, _ => by rw [D_one _ (by omega)]; rfl
  | f + 1, b, n, i, h, hb => by
    by_cases h2 : n < 2
    · rw [pthF_small h2, D_one _ h2]; rfl
    · have s1 := sp_lt (n := n) (by omega)
      have s2 := sp_pos (n := n) (by omega)
      by_cases hi : i < b + sp n
      · rw [pthF_left (by omega) hi, D_left (by omega) (by omega), List.length_append, List.length_append, pthF_len f b (sp n) i (by omega) hb]; rfl
      · rw [pthF_right (by omega) hi, D_right (by omega) (by omega), List.length_append, List.length_append, pthF_len f (b + sp n) (n - sp n) i (by omega) (by omega), show i - b - sp n = i - (b + sp n) by omega]; rfl
/-- H6: their hashes are the path -/
theorem pthF_hash (l : List T) : ∀ (f b n i : Nat), n ≤ f → b ≤ i → i < b + n → b + n ≤ l.length → (pthF f b n i).map (fun s => root (seg l s.1 s.2)) = path (i - b) (seg l b (b + n))
  | 0, b, n, i, h, _, h2, _ => by omega
  | f + 1, b, n, i, h, hb, h2, hl => by
    have sl : (seg l b (b + n)).length = n := by rw [seg_len hl]; omega
    by_cases h3 : n < 2
    · rw [pthF_small h3, path_small (by omega)]; rfl
    · have s1 := sp_lt (n := n) (by omega)
      have s2 := sp_pos (n := n) (by omega)
      have q1 := seg_take (l := l) (b := b) (n := n) (k := sp n) (by omega)
      have q2 := seg_drop (l := l) (b := b) (n := n) (k := sp n) (by omega)
      rw [path_cut (by omega), sl, q1, q2, show b + sp n + (n - sp n) = b + n by omega]
      by_cases hi : i < b + sp n
      · rw [pthF_left (by omega) hi, if_pos (by omega), List.map_append, pthF_hash l f b (sp n) i (by omega) hb hi (by omega)]; rfl
      · have e := pthF_hash l f (b + sp n) (n - sp n) i (by omega) (by omega) (by omega) (by omega)
        rw [show b + sp n + (n - sp n) = b + n by omega] at e
        rw [pthF_right (by omega) hi, if_neg (by omega), List.map_append, e, show i - b - sp n = i - (b + sp n) by omega]; rfl
/-- H3: of a proof from size m -/
def prfF : Nat → Nat → Nat → Nat → List (Nat × Nat)
  | 0, _, _, _ => []
  | f + 1, b, n, m => if b + n = m then (if b = 0 then [] else [(b, b + n)]) else if m ≤ b + sp n then prfF f b (sp n) m ++ [(b + sp n, b + n)] else prfF f (b + sp n) (n - sp n) m ++ [(b, b + sp n)]
theorem prfF_hash (l : List T) : ∀ (f b n m : Nat), n ≤ f → b < m → m ≤ b + n → b + n ≤ l.length → (prfF f b n m).map (fun s => root (seg l s.1 s.2)) = proof (m - b) (seg l b (b + n)) (decide (b = 0))
  | 0, b, n, m, h, _, h2, _ => by omega
  | f + 1, b, n, m, h, hb, h2, hl => by
    have sl : (seg l b (b + n)).length = n := by rw [seg_len hl]; omega
    rw [prfF]
    by_cases hm : b + n = m
    · rw [if_pos hm]
      obtain rfl : m = b + n := hm.symm
      rw [show b + n - b = (seg l b (b + n)).length by rw [sl]; omega]
      by_cases h0 : b = 0
      · rw [if_pos h0, decide_eq_true h0, proof_whole (by omega)]; rfl
      · rw [if_neg h0, decide_eq_false h0, proof_part (by omega)]; rfl
    · rw [if_neg hm]
      have s1 := sp_lt (n := n) (by omega)
      have s2 := sp_pos (n := n) (by omega)
      have q1 := seg_take (l := l) (b := b) (n := n) (k := sp n) (by omega)
      have q2 := seg_drop (l := l) (b := b) (n := n) (k := sp n) (by omega)
      by_cases hi : m ≤ b + sp n
      · rw [if_pos hi, List.map_append, prfF_hash l f b (sp n) m (by omega) hb hi (by omega), proof_left (l := seg l b (b + n)) (by omega) (by omega) (by rw [sl]; omega), sl, q1, q2, show b + sp n + (n - sp n) = b + n by omega]; rfl
      · have e := prfF_hash l f (b + sp n) (n - sp n) m (by omega) (by omega) (by omega) (by omega)
        rw [show b + sp n + (n - sp n) = b + n by omega, decide_eq_false (by omega), show m - (b + sp n) = m - b - sp n by omega] at e
        rw [if_neg hi, List.map_append, e, proof_right (l := seg l b (b + n)) (by omega) (by omega) (by rw [sl]; omega), sl, q1, q2, show b + sp n + (n - sp n) = b + n by omega]; rfl
theorem prfF_len : ∀ (f b n m : Nat), n ≤ f → b < m → m ≤ b + n → (prfF f b n m).length = pl (m - b) n (decide (b = 0))
  | 0, b, n, m, h, _, h2 => by omega
  | f + 1, b, n, m, h, hb, h2 => by
    rw [prfF]
    by_cases hm : b + n = m
    · rw [if_pos hm, show m - b = n by omega, pl_same]
      by_cases h0 : b = 0
      · rw [if_pos h0, decide_eq_true h0]; rfl
      · rw [if_neg h0, decide_eq_false h0]; rfl
    · rw [if_neg hm]
      have s1 := sp_lt (n := n) (by omega)
      have s2 := sp_pos (n := n) (by omega)
      by_cases hi : m ≤ b + sp n
      · rw [if_pos hi, List.length_append, prfF_len f b (sp n) m (by omega) hb hi, pl_left (m := m - b) (n := n) (by omega) (by omega) (by omega), List.length_singleton]; omega
      · have e := prfF_len f (b + sp n) (n - sp n) m (by omega) (by omega) (by omega)
        rw [decide_eq_false (by omega), show m - (b + sp n) = m - b - sp n by omega] at e
        rw [if_neg hi, List.length_append, e, pl_right (m := m - b) (n := n) (by omega) (by omega) (by omega), List.length_singleton]; omega
end Tree
end Go.Proofs.YticjokhfjkebpaaGreatDoor

/- THE PLAIN MATHEMATICS OF LAYER 8: spans that lie beside some leaves, beside a run of them; nothing of the program. -/
namespace Go.Proofs.YticjokhfjkebpaaGreatDoor
namespace Tree
/-- has [b, e) one of some leaves? -/
def tch (is : List Nat) (b e : Nat) : Bool := is.any fun i => decide (b ≤ i ∧ i < e)
theorem tch_mem {is : List Nat} {b e : Nat} : tch is b e = true ↔ ∃ i ∈ is, b ≤ i ∧ i < e := by
  unfold tch; rw [List.any_eq_true]; simp
theorem tch_cut {is : List Nat} {b m e : Nat} (h1 : b ≤ m) (h2 : m ≤ e) : tch is b e = (tch is b m || tch is m e) := by
  rw [Bool.eq_iff_iff, Bool.or_eq_true, tch_mem, tch_mem, tch_mem]
  constructor
  · rintro ⟨i, hi, h3, h4⟩
    by_cases h : i < m
    · exact .inl ⟨i, hi, h3, h⟩
    · exact .inr ⟨i, hi, by omega, h4⟩
  · rintro (⟨i, hi, h3, h4⟩ | ⟨i, hi, h3, h4⟩)
    · exact ⟨i, hi, h3, by omega⟩
    · exact ⟨i, hi, by omega, h4⟩
/-- H4: from the left, the subtrees that have none of these leaves, as great as may be -/
def othF : Nat → Nat → Nat → List Nat → List (Nat × Nat)
  | 0, _, _, _ => []
  | f + 1, b, n, is => if tch is b (b + n) = false then [(b, b + n)] else if n < 2 then [] else othF f b (sp n) is ++ othF f (b + sp n) (n - sp n) is
theorem othF_no {f b n : Nat} {is : List Nat} (h : tch is b (b + n) = false) : othF (f + 1) b n is = [(b, b + n)] := by rw [othF, if_pos h]
theorem othF_one {f b n : Nat} {is : List Nat} (h : tch is b (b + n) = true) (h2 : n < 2) : othF (f + 1) b n is = [] := by rw [othF, if_neg (by rw [h]; simp), if_pos h2]
theorem othF_two {f b n : Nat} {is : List Nat} (h : tch is b (b + n) = true) (h2 : 2 ≤ n) : othF (f + 1) b n is = othF f b (sp n) is ++ othF f (b + sp n) (n - sp n) is := by rw [othF, if_neg (by rw [h]; simp), if_neg (by omega)]
/-- the leaves within a span -/
def wit (is : List Nat) (b e : Nat) : List Nat := is.filter fun i => decide (b ≤ i ∧ i < e)
theorem wit_nil {is : List Nat} {b e : Nat} (h : tch is b e = false) : wit is b e = [] := by
  unfold wit
  rw [List.filter_eq_nil_iff]
  intro i hi hc
  rw [decide_eq_true_iff] at hc
  have := tch_mem.2 ⟨i, hi, hc⟩
  rw [h] at this; cases this
theorem wit_ne {is : List Nat} {b e : Nat} (h : tch is b e = true) : wit is b e ≠ [] := by
  obtain ⟨i, hi, hc⟩ := tch_mem.1 h
  intro e'
  have : i ∈ wit is b e := List.mem_filter.2 ⟨hi, by simpa using hc⟩
  rw [e'] at this; cases this
theorem wit_left {is : List Nat} {b m e : Nat} (h : m ≤ e) : (wit is b e).filter (· < m) = wit is b m := by
  unfold wit
  rw [List.filter_filter]
  congr 1
  funext i
  rw [Bool.eq_iff_iff]
  simp
  omega
theorem wit_right {is : List Nat} {b m e : Nat} (h : b ≤ m) : (wit is b e).filter (m ≤ ·) = wit is m e := by
  unfold wit
  rw [List.filter_filter]
  congr 1
  funext i
  rw [Bool.eq_iff_iff]
  simp
  omega
/-- H6: their hashes are what layer 3 says of many -/
theorem othF_hash (l : List T) (is : List Nat) : ∀ (f b n : Nat), 1 ≤ n → n ≤ f → b + n ≤ l.length → (othF f b n is).map (fun s => root (seg l s.1 s.2)) = many (wit is b (b + n)) b (seg l b (b + n))
  | 0, b, n, h1, h, _ => by omega
  | f + 1, b, n, h1, h, hl => by
    have sl : (seg l b (b + n)).length = n := by rw [seg_len hl]; omega
    cases ht : tch is b (b + n) with
    | false => rw [othF_no ht, wit_nil ht, many_none (by omega)]; rfl
    | true =>
      by_cases h2 : n < 2
      · rw [othF_one ht h2, many_one (wit_ne ht) (by omega)]; rfl
      · have s1 := sp_lt (n := n) (by omega)
        have s2 := sp_pos (n := n) (by omega)
        have q1 := seg_take (l := l) (b := b) (n := n) (k := sp n) (by omega)
        have q2 := seg_drop (l := l) (b := b) (n := n) (k := sp n) (by omega)
        have e := othF_hash l is f (b + sp n) (n - sp n) (by omega) (by omega) (by omega)
        rw [show b + sp n + (n - sp n) = b + n by omega] at e
        rw [othF_two ht (by omega), List.map_append, othF_hash l is f b (sp n) (by omega) (by omega) (by omega), e, many_cut (wit_ne ht) (by omega), sl, wit_left (by omega), wit_right (by omega), q1, q2, show b + sp n + (n - sp n) = b + n by omega]
/-- spans that rise from b to e, with the leaves of is between them -/
def Apt : Nat → Nat → List (Nat × Nat) → (Nat → Bool) → Prop
  | b, e, [], p => b ≤ e ∧ ∀ i, b ≤ i → i < e → p i = true
  | b, e, s :: r, p => b ≤ s.1 ∧ s.1 < s.2 ∧ s.2 ≤ e ∧ (∀ i, b ≤ i → i < s.1 → p i = true) ∧ (∀ i, s.1 ≤ i → i < s.2 → p i = false) ∧ Apt s.2 e r p
theorem Apt.append : ∀ {b m e : Nat} {x y : List (Nat × Nat)} {p : Nat → Bool}, Apt b m x p → Apt m e y p → Apt b e (x ++ y) p
  | b, m, e, [], [], p, ⟨h1, h2⟩, ⟨h3, h4⟩ => ⟨by omega, fun i hi he => by
      by_cases h : i < m
      · exact h2 i hi h
      · exact h4 i (by omega) he⟩
  | b, m, e, [], s :: y, p, ⟨h1, h2⟩, ⟨h3, h4, h5, h6, h7, h8⟩ => ⟨by omega, h4, h5, fun i hi he => by
      by_cases h : i < m
      · exact h2 i hi h
      · exact h6 i (by omega) he, h7, h8⟩
  | b, m, e, s :: x, y, p, ⟨h3, h4, h5, h6, h7, h8⟩, hy => by
    have hm : m ≤ e := by
      cases y with
      | nil => exact hy.1
      | cons t y => have := hy.1; have := hy.2.1; have := hy.2.2.1; omega
    exact ⟨h3, h4, by omega, h6, h7, h8.append hy⟩
theorem othF_apart (is : List Nat) : ∀ (f b n : Nat), 1 ≤ n → n ≤ f → Apt b (b + n) (othF f b n is) (fun i => decide (i ∈ is))
  | 0, b, n, h1, h => by omega
  | f + 1, b, n, h1, h => by
    cases ht : tch is b (b + n) with
    | false =>
      rw [othF_no ht]
      refine ⟨Nat.le_refl _, by show b < b + n; omega, Nat.le_refl _, fun i hi he => by omega, fun i hi he => decide_eq_false fun hm => ?_, Nat.le_refl _, fun i hi he => by omega⟩
      have := tch_mem.2 ⟨i, hm, hi, he⟩
      rw [ht] at this; cases this
    | true =>
      by_cases h2 : n < 2
      · rw [othF_one ht h2]
        obtain ⟨i, hi, h3, h4⟩ := tch_mem.1 ht
        exact ⟨by omega, fun j hj he => decide_eq_true (by rw [show j = i by omega]; exact hi)⟩
      · have s1 := sp_lt (n := n) (by omega)
        have s2 := sp_pos (n := n) (by omega)
        have e := othF_apart is f (b + sp n) (n - sp n) (by omega) (by omega)
        rw [show b + sp n + (n - sp n) = b + n by omega] at e
        rw [othF_two ht (by omega)]
        exact (othF_apart is f b (sp n) (by omega) (by omega)).append e
/-- H4: likewise of a run [x, y) -/
def runF : Nat → Nat → Nat → Nat → Nat → List (Nat × Nat)
  | 0, _, _, _, _ => []
  | f + 1, b, n, x, y => if b + n ≤ x ∨ y ≤ b then [(b, b + n)] else if x ≤ b ∧ b + n ≤ y then [] else runF f b (sp n) x y ++ runF f (b + sp n) (n - sp n) x y
theorem runF_apart (x y : Nat) : ∀ (f b n : Nat), 1 ≤ n → n ≤ f → x < y → Apt b (b + n) (runF f b n x y) (fun i => decide (x ≤ i ∧ i < y))
  | 0, b, n, h1, h, _ => by omega
  | f + 1, b, n, h1, h, hxy => by
    rw [runF]
    by_cases h2 : b + n ≤ x ∨ y ≤ b
    · rw [if_pos h2]
      exact ⟨Nat.le_refl _, by show b < b + n; omega, Nat.le_refl _, fun i hi he => by omega, fun i hi he => decide_eq_false (by omega), Nat.le_refl _, fun i hi he => by omega⟩
    · rw [if_neg h2]
      by_cases h3 : x ≤ b ∧ b + n ≤ y
      · rw [if_pos h3]
        exact ⟨by omega, fun i hi he => decide_eq_true (by omega)⟩
      · rw [if_neg h3]
        have s1 := sp_lt (n := n) (by omega)
        have s2 := sp_pos (n := n) (by omega)
        have e := runF_apart x y f (b + sp n) (n - sp n) (by omega) (by omega) hxy
        rw [show b + sp n + (n - sp n) = b + n by omega] at e
        exact (runF_apart x y f b (sp n) (by omega) (by omega) hxy).append e
end Tree
end Go.Proofs.YticjokhfjkebpaaGreatDoor
