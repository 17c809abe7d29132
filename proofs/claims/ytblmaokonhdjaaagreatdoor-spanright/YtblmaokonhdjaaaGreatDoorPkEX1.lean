import Derived.Test.YtblmaokonhdjaaaGreatDoorPkI1
/- THE PLAIN MATHEMATICS OF LAYER 6: texts of the steps of a walk, the highest ones that differ; nothing of the program. -/
namespace Go.Proofs.YtblmaokonhdjaaaGreatDoor
namespace Tree
/-- the text of a node -/
def nt (a b : T) : T := 1 :: (a ++ b)
theorem nd_nt {a b : T} (ha : a.length = 32) (hb : b.length = 32) : nd a b = Sha.sha (nt a b) := by rw [nd, if_pos ⟨ha, hb⟩]; rfl
theorem nt_inj {a b c d : T} (h : a.length = c.length) (e : nt a b = nt c d) : a = c ∧ b = d := by
  unfold nt at e
  exact List.append_inj (List.cons.inj e).2 h
/-- the text of a step -/
def txt (d : Bool) (r h : T) : T := if d then nt h r else nt r h
theorem txt_inj {d : Bool} {r h s g : T} (h1 : r.length = 32) (h2 : h.length = 32) (h3 : s.length = 32) (h4 : g.length = 32) (e : txt d r h = txt d s g) : r = s ∧ h = g := by
  cases d
  · exact nt_inj (h1.trans h3.symm) e
  · have := nt_inj (h2.trans h4.symm) e
    exact ⟨this.2, this.1⟩
theorem txt_nd {d : Bool} {r h : T} (h1 : r.length = 32) (h2 : h.length = 32) : Sha.sha (txt d r h) = if d then nd h r else nd r h := by
  cases d
  · exact (nd_nt h1 h2).symm
  · exact (nd_nt h2 h1).symm
/-- the texts of a walk, from below -/
def txs : T → List Bool → List T → List T
  | r, d :: ds, h :: hs => txt d r h :: txs (Sha.sha (txt d r h)) ds hs
  | _, _, _ => []
theorem txs_length : ∀ (r : T) (ds : List Bool) (hs : List T), ds.length = hs.length → (txs r ds hs).length = ds.length
  | _, [], [], _ => rfl
  | r, d :: ds, h :: hs, e => by
    show (txs _ ds hs).length + 1 = _
    rw [txs_length _ ds hs (by simpa using e)]; rfl
theorem Hs.cons {h : T} {hs : List T} (e : Hs (h :: hs)) : h.length = 32 ∧ Hs hs := ⟨e h (List.mem_cons_self ..), fun x hx => e x (List.mem_cons_of_mem _ hx)⟩
theorem upd_length : ∀ (r : T) (ds : List Bool) (hs : List T), r.length = 32 → Hs hs → (upd r ds hs).length = 32
  | _, [], _, h1, _ => h1
  | _, _ :: _, [], h1, _ => h1
  | r, d :: ds, h :: hs, h1, h2 => by
    have h3 := h2.cons
    show (upd (if d then nd h r else nd r h) ds hs).length = 32
    refine upd_length _ ds hs ?_ h3.2
    cases d
    · exact nd_length h1 h3.1
    · exact nd_length h3.1 h1
theorem upd_cons {r : T} {d : Bool} {ds : List Bool} {h : T} {hs : List T} (h1 : r.length = 32) (h2 : h.length = 32) : upd r (d :: ds) (h :: hs) = upd (Sha.sha (txt d r h)) ds hs := by
  rw [txt_nd h1 h2]; rfl
theorem txs_snoc : ∀ (r : T) (ds : List Bool) (hs : List T) (d : Bool) (h : T), ds.length = hs.length → r.length = 32 → Hs hs → txs r (ds ++ [d]) (hs ++ [h]) = txs r ds hs ++ [txt d (upd r ds hs) h]
  | r, [], [], d, h, _, _, _ => rfl
  | r, x :: ds, y :: hs, d, h, e, h1, h2 => by
    have h3 := h2.cons
    rw [upd_cons h1 h3.1]
    show txt x r y :: txs _ (ds ++ [d]) (hs ++ [h]) = txt x r y :: txs _ ds hs ++ _
    rw [txs_snoc _ ds hs d h (by simpa using e) (Sha.sha_length _) h3.2]; rfl
/-- the highest ones that differ: lists from below -/
def hi : List T → List T → Option (T × T)
  | a :: az, b :: bs => match hi az bs with
    | some p => some p
    | none => if a = b then none else some (a, b)
  | _, _ => none
theorem hi_same : ∀ l : List T, hi l l = none
  | [] => rfl
  | a :: l => by rw [hi, hi_same l]; simp
/-- X5: two walks to one root, that are not the same -/
theorem hi_some : ∀ (ds : List Bool) (r s : T) (hs gs : List T), hs.length = ds.length → gs.length = ds.length → Hs hs → Hs gs → r.length = 32 → s.length = 32 → upd r ds hs = upd s ds gs → ¬ (r = s ∧ hs = gs) → ∃ p q, hi (txs r ds hs) (txs s ds gs) = some (p, q) ∧ p ≠ q ∧ Sha.sha p = Sha.sha q
  | [], r, s, [], [], _, _, _, _, _, _, e, hne => absurd ⟨e, rfl⟩ hne
  | d :: ds, r, s, h :: hs, g :: gs, l1, l2, H1, H2, hr, hs', e, hne => by
    have c1 := H1.cons
    have c2 := H2.cons
    rw [upd_cons hr c1.1, upd_cons hs' c2.1] at e
    by_cases hq : Sha.sha (txt d r h) = Sha.sha (txt d s g) ∧ hs = gs
    · obtain ⟨h1, rfl⟩ := hq
      have hn : txt d r h ≠ txt d s g := fun x => by
        obtain ⟨rfl, rfl⟩ := txt_inj hr c1.1 hs' c2.1 x
        exact hne ⟨rfl, rfl⟩
      refine ⟨_, _, ?_, hn, h1⟩
      show (match hi (txs (Sha.sha (txt d r h)) ds hs) (txs (Sha.sha (txt d s g)) ds hs) with | some p => some p | none => if txt d r h = txt d s g then none else some (txt d r h, txt d s g)) = _
      rw [h1, hi_same, if_neg hn]
    · obtain ⟨p, q, h1, h2, h3⟩ := hi_some ds _ _ hs gs (by simpa using l1) (by simpa using l2) c1.2 c2.2 (Sha.sha_length _) (Sha.sha_length _) e hq
      refine ⟨p, q, ?_, h2, h3⟩
      show (match hi (txs (Sha.sha (txt d r h)) ds hs) (txs (Sha.sha (txt d s g)) ds gs) with | some p => some p | none => if txt d r h = txt d s g then none else some (txt d r h, txt d s g)) = _
      rw [h1]
/-- the first ones that differ: lists from the top -/
def fst2 : List T → List T → Option (T × T)
  | a :: az, b :: bs => if a = b then fst2 az bs else some (a, b)
  | _, _ => none
theorem fst2_snoc : ∀ (l m : List T) (a b : T), l.length = m.length → fst2 (l ++ [a]) (m ++ [b]) = match fst2 l m with | some p => some p | none => if a = b then none else some (a, b)
  | [], [], a, b, _ => rfl
  | x :: l, y :: m, a, b, e => by
    show (if x = y then fst2 (l ++ [a]) (m ++ [b]) else some (x, y)) = match (if x = y then fst2 l m else some (x, y)) with | some p => some p | none => if a = b then none else some (a, b)
    by_cases h : x = y
    · rw [if_pos h, if_pos h, fst2_snoc l m a b (by simpa using e)]
    · rw [if_neg h, if_neg h]
theorem fst2_rev : ∀ (l m : List T), l.length = m.length → fst2 l.reverse m.reverse = hi l m
  | [], [], _ => rfl
  | a :: l, b :: m, e => by
    rw [List.reverse_cons, List.reverse_cons, fst2_snoc _ _ _ _ (by simpa using e), fst2_rev l m (by simpa using e)]; rfl
/-- X2: where two lists with one root part -/
def partF : Nat → List T → List T → Option (T × T)
  | 0, _, _ => none
  | f + 1, a, b => if a.length < 2 then none else
    if nt (root (a.take (sp a.length))) (root (a.drop (sp a.length))) = nt (root (b.take (sp a.length))) (root (b.drop (sp a.length))) then
      (if a.take (sp a.length) = b.take (sp a.length) then partF f (a.drop (sp a.length)) (b.drop (sp a.length)) else partF f (a.take (sp a.length)) (b.take (sp a.length)))
    else some (nt (root (a.take (sp a.length))) (root (a.drop (sp a.length))), nt (root (b.take (sp a.length))) (root (b.drop (sp a.length))))
theorem partF_some : ∀ (f : Nat) (a b : List T), a.length ≤ f → a.length = b.length → Hs a → Hs b → root a = root b → a ≠ b → ∃ p q, partF f a b = some (p, q) ∧ p ≠ q ∧ Sha.sha p = Sha.sha q
  | 0, a, b, h0, hl, _, _, _, hne => by
    obtain rfl : a = [] := List.length_eq_zero_iff.1 (by omega)
    obtain rfl : b = [] := List.length_eq_zero_iff.1 (by simpa using hl.symm)
    exact absurd rfl hne
  | f + 1, a, b, h0, hl, ha, hb, hr, hne => by
    by_cases h2 : a.length < 2
    · exfalso
      match a, b, hl, h2 with
      | [], [], _, _ => exact hne rfl
      | [x], [y], _, _ => rw [root_one, root_one] at hr; exact hne (by rw [hr])
    · have s1 := sp_lt (n := a.length) (by omega)
      have s2 := sp_pos (n := a.length) (by omega)
      have l1 := root_length _ (a.take (sp a.length)) (Nat.le_refl _) (ha.take _)
      have l2 := root_length _ (a.drop (sp a.length)) (Nat.le_refl _) (ha.drop _)
      have l3 := root_length _ (b.take (sp a.length)) (Nat.le_refl _) (hb.take _)
      have l4 := root_length _ (b.drop (sp a.length)) (Nat.le_refl _) (hb.drop _)
      have e1 := root_cut (l := a) (by omega)
      have e2 := root_cut (l := b) (by omega)
      rw [← hl] at e2
      rw [nd_nt l1 l2] at e1
      rw [nd_nt l3 l4] at e2
      rw [partF, if_neg h2]
      split
      · rename_i hq
        obtain ⟨q1, q2⟩ := nt_inj (l1.trans l3.symm) hq
        split
        · rename_i ht
          refine partF_some f _ _ (by rw [List.length_drop]; omega) (by rw [List.length_drop, List.length_drop]; omega) (ha.drop _) (hb.drop _) q2 fun e => hne ?_
          rw [← List.take_append_drop (sp a.length) a, ← List.take_append_drop (sp a.length) b, ht, e]
        · rename_i ht
          exact partF_some f _ _ (by rw [List.length_take]; omega) (by rw [List.length_take, List.length_take]; omega) (ha.take _) (hb.take _) q1 ht
      · rename_i hq
        exact ⟨_, _, rfl, hq, by rw [← e1, ← e2, hr]⟩
end Tree
end Go.Proofs.YtblmaokonhdjaaaGreatDoor

/- THE PLAIN MATHEMATICS OF LAYER 6: forks, and what stands beside the way of a proof. -/
namespace Go.Proofs.YtblmaokonhdjaaaGreatDoor
namespace Tree
/-- a subtree that parts: begin, middle, end; does the way go on in its right part? -/
abbrev Fork := Nat × Nat × Nat × Bool
def fkB (f : Fork) : Nat := f.1
def fkM (f : Fork) : Nat := f.2.1
def fkE (f : Fork) : Nat := f.2.2.1
def fkR (f : Fork) : Bool := f.2.2.2
/-- those on the way to leaf i, from the top -/
def fks : Nat → Nat → Nat → Nat → List Fork
  | 0, _, _, _ => []
  | f + 1, b, n, i => if n < 2 then [] else if i < b + sp n then (b, b + sp n, b + n, false) :: fks f b (sp n) i else (b, b + sp n, b + n, true) :: fks f (b + sp n) (n - sp n) i
theorem fks_small {f b n i : Nat} (h : n < 2) : fks f b n i = [] := by
  cases f
  · rfl
  · rw [fks, if_pos h]
theorem fks_left {f b n i : Nat} (h : 2 ≤ n) (hi : i < b + sp n) : fks (f + 1) b n i = (b, b + sp n, b + n, false) :: fks f b (sp n) i := by rw [fks, if_neg (by omega), if_pos hi]
theorem fks_right {f b n i : Nat} (h : 2 ≤ n) (hi : ¬ i < b + sp n) : fks (f + 1) b n i = (b, b + sp n, b + n, true) :: fks f (b + sp n) (n - sp n) i := by rw [fks, if_neg (by omega), if_neg hi]
theorem fks_D : ∀ (f b n i : Nat), n ≤ f → b ≤ i → (fks f b n i).map fkR = (D n (i - b)).reverse
  | 0, b, n, i, h, _ => by rw [D_one _ (by omega)]; rfl
  | f + 1, b, n, i, h, hb => by
    by_cases h2 : n < 2
    · rw [fks_small h2, D_one _ h2]; rfl
    · have s1 := sp_lt (n := n) (by omega)
      have s2 := sp_pos (n := n) (by omega)
      by_cases hi : i < b + sp n
      · rw [fks_left (by omega) hi, D_left (by omega) (by omega), List.reverse_append, List.map_cons, fks_D f b (sp n) i (by omega) hb]; rfl
      · rw [fks_right (by omega) hi, D_right (by omega) (by omega), List.reverse_append, List.map_cons, fks_D f (b + sp n) (n - sp n) i (by omega) (by omega), show i - b - sp n = i - (b + sp n) by omega]; rfl
/-- up to the one that ends at m -/
def cutE (m : Nat) (l : List Fork) : List Fork := l.takeWhile (fun f => fkE f != m)
theorem cutE_stop {m : Nat} {f : Fork} {l : List Fork} (h : fkE f = m) : cutE m (f :: l) = [] := by unfold cutE; rw [List.takeWhile_cons, if_neg (by simp [h])]
theorem cutE_go {m : Nat} {f : Fork} {l : List Fork} (h : fkE f ≠ m) : cutE m (f :: l) = f :: cutE m l := by unfold cutE; rw [List.takeWhile_cons, if_pos (by simp [h])]
theorem fks_PD : ∀ (f b n k : Nat), n ≤ f → 1 ≤ k → k ≤ n → (cutE (b + k) (fks f b n (b + k - 1))).map fkR = (PD k n).reverse
  | 0, b, n, k, h, h1, h2 => by omega
  | f + 1, b, n, k, h, h1, h2 => by
    by_cases h3 : n < 2
    · obtain rfl : n = 1 := by omega
      obtain rfl : k = 1 := by omega
      rw [fks_small (by omega), PD_same]; rfl
    · have s1 := sp_lt (n := n) (by omega)
      have s2 := sp_pos (n := n) (by omega)
      by_cases hk : k = n
      · subst hk
        rw [PD_same]
        by_cases hi : b + k - 1 < b + sp k
        · rw [fks_left (by omega) hi, cutE_stop (by rfl)]; rfl
        · rw [fks_right (by omega) hi, cutE_stop (by rfl)]; rfl
      · by_cases hi : k ≤ sp n
        · rw [fks_left (by omega) (by omega), cutE_go (by show b + n ≠ b + k; omega), PD_left h1 (by omega) hi, List.map_cons, fks_PD f b (sp n) k (by omega) h1 hi, List.reverse_append]; rfl
        · have e := fks_PD f (b + sp n) (n - sp n) (k - sp n) (by omega) (by omega) (by omega)
          rw [show b + sp n + (k - sp n) = b + k by omega] at e
          rw [fks_right (by omega) (by omega), cutE_go (by show b + n ≠ b + k; omega), PD_right h1 (by omega) hi, List.map_cons, e, List.reverse_append]; rfl
/-- what stands beside the way to the subtree that ends at k, from below -/
def own : Nat → Nat → List T → List T
  | 0, _, _ => []
  | f + 1, k, l => if l.length < 2 ∨ k = l.length then [] else if k ≤ sp l.length then own f k (l.take (sp l.length)) ++ [root (l.drop (sp l.length))] else own f (k - sp l.length) (l.drop (sp l.length)) ++ [root (l.take (sp l.length))]
/-- its own root -/
def stt : Nat → Nat → List T → T
  | 0, _, l => root l
  | f + 1, k, l => if l.length < 2 ∨ k = l.length then root l else if k ≤ sp l.length then stt f k (l.take (sp l.length)) else stt f (k - sp l.length) (l.drop (sp l.length))
theorem root_len {l : List T} (h : Hs l) : (root l).length = 32 := root_length _ l (Nat.le_refl _) h
theorem Hs.snoc {l : List T} {x : T} (h : Hs l) (hx : x.length = 32) : Hs (l ++ [x]) := fun y hy => by
  rcases List.mem_append.1 hy with e | e
  · exact h y e
  · rw [List.mem_singleton.1 e]; exact hx
theorem own_all : ∀ (f k : Nat) (l : List T), l.length ≤ f → 1 ≤ k → k ≤ l.length → Hs l → (own f k l).length = (PD k l.length).length ∧ Hs (own f k l) ∧ (stt f k l).length = 32 ∧ upd (stt f k l) (PD k l.length) (own f k l) = root l
  | 0, k, l, h, h1, h2, _ => by omega
  | f + 1, k, l, h, h1, h2, H => by
    by_cases h3 : l.length < 2 ∨ k = l.length
    · have e : PD k l.length = [] := by
        rcases h3 with h3 | h3
        · rw [show k = l.length by omega, PD_same]
        · rw [h3, PD_same]
      rw [own, stt, if_pos h3, if_pos h3, e]
      exact ⟨rfl, fun x hx => absurd hx (List.not_mem_nil), root_len H, rfl⟩
    · have s1 := sp_lt (n := l.length) (by omega)
      have s2 := sp_pos (n := l.length) (by omega)
      have lt : (l.take (sp l.length)).length = sp l.length := by rw [List.length_take]; omega
      have ld : (l.drop (sp l.length)).length = l.length - sp l.length := by rw [List.length_drop]
      rw [own, stt, if_neg h3, if_neg h3]
      by_cases hk : k ≤ sp l.length
      · obtain ⟨a1, a2, a3, a4⟩ := own_all f k (l.take (sp l.length)) (by omega) h1 (by omega) (H.take _)
        rw [lt] at a1 a4
        rw [if_pos hk, if_pos hk, PD_left h1 (by omega) hk]
        refine ⟨by simp [a1], a2.snoc (root_len (H.drop _)), a3, ?_⟩
        rw [upd_snoc _ _ _ _ _ a1.symm, a4, root_cut (l := l) (by omega)]; rfl
      · obtain ⟨a1, a2, a3, a4⟩ := own_all f (k - sp l.length) (l.drop (sp l.length)) (by omega) (by omega) (by omega) (H.drop _)
        rw [ld] at a1 a4
        rw [if_neg hk, if_neg hk, PD_right h1 (by omega) hk]
        refine ⟨by simp [a1], a2.snoc (root_len (H.take _)), a3, ?_⟩
        rw [upd_snoc _ _ _ _ _ a1.symm, a4, root_cut (l := l) (by omega)]; rfl
/-- a span of the leaves -/
def seg (l : List T) (b e : Nat) : List T := (l.take e).drop b
/-- the text of a fork, out of the leaves -/
def ftx (l : List T) (f : Fork) : T := nt (root ((seg l (fkB f) (fkE f)).take (fkM f - fkB f))) (root ((seg l (fkB f) (fkE f)).drop (fkM f - fkB f)))
theorem seg_len {l : List T} {b e : Nat} (h : e ≤ l.length) : (seg l b e).length = e - b := by unfold seg; rw [List.length_drop, List.length_take]; omega
theorem seg_take {l : List T} {b n k : Nat} (hk : k ≤ n) : (seg l b (b + n)).take k = seg l b (b + k) := by
  unfold seg
  rw [List.take_drop, List.take_take, show min (b + k) (b + n) = b + k by omega]
theorem seg_drop {l : List T} {b n k : Nat} (hk : k ≤ n) : (seg l b (b + n)).drop k = seg l (b + k) (b + k + (n - k)) := by
  unfold seg
  rw [List.drop_drop, show b + k + (n - k) = b + n by omega]
theorem fks_ftx : ∀ (f b n k : Nat) (l : List T), n ≤ f → 1 ≤ k → k ≤ n → b + n ≤ l.length → Hs l → (cutE (b + k) (fks f b n (b + k - 1))).map (ftx l) = (txs (stt f k (seg l b (b + n))) (PD k n) (own f k (seg l b (b + n)))).reverse
  | 0, b, n, k, l, h, h1, h2, _, _ => by omega
  | f + 1, b, n, k, l, h, h1, h2, hl, H => by
    have sl : (seg l b (b + n)).length = n := by rw [seg_len hl]; omega
    have HS : Hs (seg l b (b + n)) := (H.take _).drop _
    by_cases h3 : n < 2 ∨ k = n
    · have e : PD k n = [] := by
        rcases h3 with h3 | h3
        · rw [show k = n by omega, PD_same]
        · rw [h3, PD_same]
      have e2 : (cutE (b + k) (fks (f + 1) b n (b + k - 1))) = [] := by
        by_cases h4 : n < 2
        · rw [fks_small h4]; rfl
        · obtain rfl : k = n := by omega
          by_cases hi : b + k - 1 < b + sp k
          · rw [fks_left (by omega) hi, cutE_stop (by rfl)]
          · rw [fks_right (by omega) hi, cutE_stop (by rfl)]
      rw [e, e2]; rfl
    · have s1 := sp_lt (n := n) (by omega)
      have s2 := sp_pos (n := n) (by omega)
      have q1 := seg_take (l := l) (b := b) (n := n) (k := sp n) (by omega)
      have q2 := seg_drop (l := l) (b := b) (n := n) (k := sp n) (by omega)
      rw [own, stt, sl, if_neg h3, if_neg h3]
      have top : ∀ d, ftx l (b, b + sp n, b + n, d) = nt (root (seg l b (b + sp n))) (root (seg l (b + sp n) (b + sp n + (n - sp n)))) := fun d => by
        show nt (root ((seg l b (b + n)).take (b + sp n - b))) (root ((seg l b (b + n)).drop (b + sp n - b))) = _
        rw [show b + sp n - b = sp n by omega, q1, q2]
      by_cases hk : k ≤ sp n
      · have L1 : (seg l b (b + sp n)).length = sp n := by rw [seg_len (by omega)]; omega
        obtain ⟨a1, a2, a3, a4⟩ := own_all f k (seg l b (b + sp n)) (by omega) h1 (by omega) ((H.take _).drop _)
        rw [L1] at a1 a4
        rw [fks_left (by omega) (by omega), cutE_go (by show b + n ≠ b + k; omega), List.map_cons, fks_ftx f b (sp n) k l (by omega) h1 hk (by omega) H, if_pos hk, if_pos hk, PD_left h1 (by omega) hk, q1, q2, txs_snoc _ _ _ _ _ a1.symm a3 a2, List.reverse_append, a4, top]; rfl
      · have L1 : (seg l (b + sp n) (b + sp n + (n - sp n))).length = n - sp n := by rw [seg_len (by omega)]; omega
        obtain ⟨a1, a2, a3, a4⟩ := own_all f (k - sp n) (seg l (b + sp n) (b + sp n + (n - sp n))) (by omega) (by omega) (by omega) ((H.take _).drop _)
        rw [L1] at a1 a4
        have ih := fks_ftx f (b + sp n) (n - sp n) (k - sp n) l (by omega) (by omega) (by omega) (by omega) H
        rw [show b + sp n + (k - sp n) = b + k by omega] at ih
        rw [fks_right (by omega) (by omega), cutE_go (by show b + n ≠ b + k; omega), List.map_cons, ih, if_neg hk, if_neg hk, PD_right h1 (by omega) hk, q1, q2, txs_snoc _ _ _ _ _ a1.symm a3 a2, List.reverse_append, a4, top]; rfl
theorem upd2_snd : ∀ (a b : T) (ds : List Bool) (hs : List T), (upd2 a b ds hs).2 = upd b ds hs
  | _, _, [], _ => rfl
  | _, _, true :: _, [] => rfl
  | _, _, false :: _, [] => rfl
  | _, _, true :: ds, _ :: hs => upd2_snd _ _ ds hs
  | _, _, false :: ds, _ :: hs => upd2_snd _ _ ds hs
theorem proof_own : ∀ (f k : Nat) (l : List T) (whole : Bool), l.length ≤ f → 1 ≤ k → k ≤ l.length → proof k l whole = (if fl k l.length whole then stt f k l :: own f k l else own f k l) ∧ (fl k l.length whole = false → stt f k l = root (l.take k))
  | 0, k, l, _, h, h1, h2 => by omega
  | f + 1, k, l, whole, h, h1, h2 => by
    by_cases hk : k = l.length
    · have hc : l.length < 2 ∨ k = l.length := .inr hk
      rw [own, stt, if_pos hc, if_pos hc]
      subst hk
      rw [fl_same, List.take_length]
      cases whole
      · rw [proof_part h1]; exact ⟨rfl, fun _ => rfl⟩
      · rw [proof_whole h1]; exact ⟨rfl, fun _ => rfl⟩
    · have s1 := sp_lt (n := l.length) (by omega)
      have s2 := sp_pos (n := l.length) (by omega)
      have lt : (l.take (sp l.length)).length = sp l.length := by rw [List.length_take]; omega
      have ld : (l.drop (sp l.length)).length = l.length - sp l.length := by rw [List.length_drop]
      have hc : ¬ (l.length < 2 ∨ k = l.length) := by omega
      rw [own, stt, if_neg hc, if_neg hc]
      by_cases hs : k ≤ sp l.length
      · obtain ⟨a1, a2⟩ := proof_own f k (l.take (sp l.length)) whole (by omega) h1 (by omega)
        rw [lt] at a1 a2
        rw [if_pos hs, if_pos hs, proof_left h1 (by omega) hs, fl_left h1 (by omega) hs, a1]
        refine ⟨by split <;> rfl, fun e => ?_⟩
        rw [a2 e, List.take_take, show min k (sp l.length) = k by omega]
      · obtain ⟨a1, _⟩ := proof_own f (k - sp l.length) (l.drop (sp l.length)) false (by omega) (by omega) (by omega)
        rw [fl_false, if_pos rfl] at a1
        rw [if_neg hs, if_neg hs, proof_right h1 (by omega) hs, fl_right h1 (by omega) hs, if_pos rfl, a1]
        exact ⟨rfl, fun e => by cases e⟩
/-- the walk of a proof begins here -/
def frm (m n : Nat) (old : T) (P : List T) : T := if fl m n true then P.headD [] else old
def bsd (m n : Nat) (P : List T) : List T := if fl m n true then P.tail else P
theorem bth_frm (m n : Nat) (old : T) (P : List T) : (bth m n true old P).2 = upd (frm m n old P) (PD m n) (bsd m n P) := by
  unfold bth frm bsd
  split <;> rw [upd2_snd]
theorem frm_ok {m n : Nat} {old : T} {P : List T} (hl : P.length = pl m n true) (ho : old.length = 32) (hP : Hs P) : (frm m n old P).length = 32 ∧ Hs (bsd m n P) ∧ (bsd m n P).length = (PD m n).length := by
  unfold frm bsd
  unfold pl at hl
  split
  · rename_i h
    rw [if_pos h] at hl
    match P, hl, hP with
    | p :: P, hl, hP => exact ⟨hP.cons.1, hP.cons.2, by simpa using hl⟩
  · rename_i h
    rw [if_neg h] at hl
    exact ⟨ho, hP, by omega⟩
/-- X5: a proof that is accepted, from another old root -/
theorem con_some {m : Nat} {l : List T} {old : T} {P : List T} (h1 : 1 ≤ m) (h2 : m ≤ l.length) (hl : P.length = pl m l.length true) (ho : old.length = 32) (hP : Hs P) (H : Hs l) (hb : bth m l.length true old P = (old, root l)) (hne : old ≠ root (l.take m)) :
    ∃ p q, hi (txs (frm m l.length old P) (PD m l.length) (bsd m l.length P)) (txs (stt l.length m l) (PD m l.length) (own l.length m l)) = some (p, q) ∧ p ≠ q ∧ Sha.sha p = Sha.sha q := by
  obtain ⟨a1, a2, a3, a4⟩ := own_all l.length m l (Nat.le_refl _) h1 h2 H
  obtain ⟨f1, f2, f3⟩ := frm_ok hl ho hP
  obtain ⟨b1, b2⟩ := proof_own l.length m l true (Nat.le_refl _) h1 h2
  refine hi_some _ _ _ _ _ f3 a1 f2 a2 f1 a3 ?_ ?_
  · rw [a4, ← bth_frm, hb]
  · rintro ⟨e1, e2⟩
    unfold frm at e1
    unfold bsd at e2
    by_cases hf : fl m l.length true = true
    · rw [if_pos hf] at e1 e2 b1
      have hPe : P = proof m l true := by
        rw [b1, ← e1, ← e2]
        unfold pl at hl
        rw [if_pos hf] at hl
        match P, hl with
        | p :: P, hl => rfl
      have hq := (proof_PD l.length m l true h1 h2 (Nat.le_refl _)).2 (root (l.take m)) (fun _ => rfl)
      rw [← hPe] at hq
      have : bth m l.length true old P = bth m l.length true (root (l.take m)) P := by unfold bth; rw [if_pos hf, if_pos hf]
      rw [this, hq] at hb
      exact hne (congrArg Prod.fst hb).symm
    · rw [if_neg hf] at e1
      exact hne (e1.trans (b2 (by simpa using hf)))
end Tree
end Go.Proofs.YtblmaokonhdjaaaGreatDoor
