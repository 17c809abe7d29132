import Derived.Test.YtblmaokonhdjaaaGreatDoorPkBM3
import Derived.Test.YtblmaokonhdjaaaGreatDoorPkSP27
/- THE PLAIN MATHEMATICS OF LAYER 14: hashes of a run; nothing of the program. -/
namespace Go.Proofs.YtblmaokonhdjaaaGreatDoor
namespace Spn
open Tree
abbrev Val := Bat.Val
theorem rix_len (s e : Nat) : (rix s e).length = e - s := List.length_range'
theorem rix_nodup (s e : Nat) : (rix s e).Nodup := List.nodup_range'
theorem val_of {n s e : Nat} (hse : s < e) (hen : e ≤ n) {H L : List T} (hH : H.length = (runF n 0 n s e).length) (hL : L.length = e - s) : ∃ val, Val (rix s e) n H L val :=
  Bat.val_is (rix s e) n H L (by omega) (rix_nodup s e) (by rw [oth_run hse n 0 n (by omega) (Nat.le_refl _)]; exact hH) (by rw [rix_len]; exact hL)
theorem val_node {n s e : Nat} {H L : List T} {val : Nat × Nat → T} (V : Val (rix s e) n H L val) (hse : s < e) (b m : Nat) (h2 : 2 ≤ m) (h3 : s < b + m) (h4 : b < e) : val (b, b + m) = nd (val (b, b + sp m)) (val (b + sp m, b + m)) :=
  V.n b m h2 ((tch_rix hse (by omega)).2 (by omega))
theorem val_told {n s e : Nat} {H L : List T} {val : Nat × Nat → T} (V : Val (rix s e) n H L val) (hse : s < e) (hn : 1 ≤ n) : H = (runF n 0 n s e).map val := by rw [V.h, oth_run hse n 0 n hn (Nat.le_refl _)]
theorem val_leaf {n s e : Nat} {H L : List T} {val : Nat × Nat → T} (V : Val (rix s e) n H L val) {j : Nat} (hj : s + j < e) : L[j]? = some (val (s + j, s + j + 1)) := by
  rw [V.l, List.getElem?_map, List.getElem?_range' (by omega)]
  simp
/-- within the run it is the definitions' -/
theorem val_in {n s e : Nat} {H L : List T} {val : Nat × Nat → T} (V : Val (rix s e) n H L val) (hse : s < e) (hL : L.length = e - s) : ∀ (f b m : Nat), m ≤ f → 1 ≤ m → s ≤ b → b + m ≤ e → val (b, b + m) = root ((L.drop (b - s)).take m)
  | 0, b, m, h1, h2, _, _ => by omega
  | f + 1, b, m, h1, h2, h3, h4 => by
    by_cases hm : m < 2
    · obtain rfl : m = 1 := by omega
      have h := val_leaf V (j := b - s) (by omega)
      rw [show s + (b - s) = b by omega] at h
      have : (L.drop (b - s)).take 1 = [val (b, b + 1)] := by
        obtain ⟨hl, he⟩ := List.getElem?_eq_some_iff.1 h
        rw [List.drop_eq_getElem_cons hl, he]
        rfl
      rw [this, root_one]
    · have s1 := sp_lt (n := m) (by omega)
      have s2 := sp_pos (n := m) (by omega)
      have hl : ((L.drop (b - s)).take m).length = m := by rw [List.length_take, List.length_drop]; omega
      have e1 := val_in V hse hL f b (sp m) (by omega) (by omega) h3 (by omega)
      have e2 := val_in V hse hL f (b + sp m) (m - sp m) (by omega) (by omega) (by omega) (by omega)
      rw [show b + sp m + (m - sp m) = b + m by omega] at e2
      rw [val_node V hse b m (by omega) (by omega) (by omega), e1, e2, root_cut (l := (L.drop (b - s)).take m) (by omega), hl, List.take_take, List.drop_take, List.drop_drop, show min (sp m) m = sp m by omega, show b - s + sp m = b + sp m - s by omega]
/-- the hash of a block of a cut -/
def hq (val : Nat × Nat → T) (q : Nat × Nat) : T := val (q.1, q.1 + q.2)
theorem csp_map (val : Nat × Nat → T) (b e : Nat) : (csp b e).map val = (Cut.cut b e).map (hq val) := by rw [csp, List.map_map]; rfl
theorem cmp_val {n s e : Nat} {H L : List T} {val : Nat × Nat → T} (V : Val (rix s e) n H L val) (hse : s < e) (he : e ≤ 1099511627776) (hL : L.length = e - s) : Cut.cmp L s = (csp s e).map val := by
  rw [csp_map, Cut.cmp, hL, show s + (e - s) = e by omega]
  refine List.map_congr_left fun q hq' => ?_
  have hc := Cut.cut_cov he (show s ≤ e by omega)
  have h1 := hc.ge q hq'
  have h2 := hc.within q hq'
  have h3 := Cut.cov_pos hc q hq'
  exact (val_in V hse hL q.2 q.1 q.2 (Nat.le_refl _) h3 h1 h2).symm
/-- nodes that end behind s -/
def NodesT (h : Nat × Nat → T) (s a c : Nat) : Prop := ∀ p n, a ≤ p → p + 2 * n ≤ c → s < p + 2 * n → (∃ k, n = 2 ^ k) → p % (2 * n) = 0 → h (p, 2 * n) = nd (h (p, n)) (h (p + n, n))
theorem sp_dbl {n : Nat} (h : ∃ k, n = 2 ^ k) : sp (2 * n) = n := by
  obtain ⟨k, hk⟩ := h
  have := Nat.two_pow_pos k
  rw [hk]
  exact sp_one (by omega) k (by omega) (by omega)
theorem val_nodesT {n s e : Nat} {H L : List T} {val : Nat × Nat → T} (V : Val (rix s e) n H L val) (hse : s < e) : NodesT (hq val) s 0 e := fun p m _ h2 h3 hk _ => by
  have h4 : 1 ≤ m := by obtain ⟨k, hk⟩ := hk; have := Nat.two_pow_pos k; omega
  have := val_node V hse p (2 * m) (by omega) h3 (by omega)
  rw [sp_dbl hk] at this
  unfold hq
  rw [this]
  show _ = nd (val (p, p + m)) (val (p + m, p + m + m))
  rw [show p + m + m = p + 2 * m by omega]
theorem pushH_allT {h : Nat × Nat → T} {s a c : Nat} (hN : NodesT h s a c) : ∀ (l : List ((Nat × Nat) × T)) (b n : Nat) (x : T), Cut.Cov a b (l.map Prod.fst).reverse → (∃ k, n = 2 ^ k) → b + n ≤ c → s < b + n → Cut.All h l → x = h (b, n) → Cut.All h (Cut.pushH l b n x)
  | [], b, n, x, _, _, _, _, _, hx => fun q hq => by
    rw [Cut.pushH, List.mem_singleton] at hq
    subst hq
    exact hx
  | ((p, m), y) :: l, b, n, x, hc, hp, hb, hs, hA, hx => by
    rw [List.map_cons, List.reverse_cons] at hc
    obtain ⟨d, h1, h2⟩ := Cut.cov_append.1 hc
    obtain ⟨rfl, hm, hpm, he⟩ := h2
    have he : p + m = b := he
    have hy : y = h (p, m) := hA ((p, m), y) List.mem_cons_self
    rw [Cut.pushH]
    split
    · rename_i e
      obtain ⟨e1, e2⟩ := e
      subst e1
      obtain ⟨k, hk⟩ := hm
      refine pushH_allT hN l p (2 * m) (nd y x) h1 ⟨k + 1, by rw [hk, Nat.pow_succ, Nat.mul_comm]⟩ (by omega) (by omega) (fun q hq => hA q (List.mem_cons_of_mem _ hq)) ?_
      rw [hN p m h1.le (by omega) (by omega) ⟨k, hk⟩ e2, hy, hx, he]
    · intro q hq
      rcases List.mem_cons.1 hq with rfl | hq
      · exact hx
      · exact hA q hq
theorem pushAllH_allT {h : Nat × Nat → T} {s a c : Nat} (hN : NodesT h s a c) : ∀ (l st : List ((Nat × Nat) × T)) (b : Nat), s ≤ b → Cut.Cov a b (st.map Prod.fst).reverse → Cut.Cov b c (l.map Prod.fst) → Cut.All h st → Cut.All h l → Cut.All h (Cut.pushAllH st l)
  | [], _, _, _, _, _, h3, _ => h3
  | ((p, n), x) :: l, st, b, hb, h1, h2, h3, h4 => by
    obtain ⟨rfl, hp, hb', hc⟩ := h2
    have hle := hc.le
    have hn : 0 < n := by obtain ⟨k, hk⟩ := hp; have := Nat.two_pow_pos k; omega
    refine pushAllH_allT hN l _ (p + n) (by omega) ?_ hc (pushH_allT hN st p n x h1 hp hle (by omega) h3 (h4 _ List.mem_cons_self)) fun q hq => h4 q (List.mem_cons_of_mem _ hq)
    rw [Cut.pushH_fst]
    exact Cut.push_cov _ a p n h1 hp hb'
/-- what is told left of the run, joined to its leaves -/
theorem join_val {n s e : Nat} {H L : List T} {val : Nat × Nat → T} (V : Val (rix s e) n H L val) (hse : s < e) (he : e ≤ 1099511627776) (hL : L.length = e - s) : Cut.joinH 0 s e ((csp 0 s).map val) (Cut.cmp L s) = (csp 0 e).map val := by
  rw [cmp_val V hse he hL, csp_map, csp_map, csp_map]
  have hA : Cut.All (hq val) (Cut.pushAllH ((Cut.cut 0 s).zip ((Cut.cut 0 s).map (hq val))).reverse ((Cut.cut s e).zip ((Cut.cut s e).map (hq val)))) := by
    refine pushAllH_allT (val_nodesT V hse) _ _ s (Nat.le_refl _) ?_ ?_ ?_ ?_
    · rw [List.map_reverse, List.reverse_reverse, Cut.zip_fst _ _ (List.length_map _).symm]
      exact Cut.cut_cov (by omega) (by omega)
    · rw [Cut.zip_fst _ _ (List.length_map _).symm]
      exact Cut.cut_cov he (by omega)
    · intro q hq
      rw [List.mem_reverse, Cut.zip_map] at hq
      exact Cut.all_map _ q hq
    · rw [Cut.zip_map]
      exact Cut.all_map _
  have hr : Cut.All (hq val) (Cut.pushAllH ((Cut.cut 0 s).zip ((Cut.cut 0 s).map (hq val))).reverse ((Cut.cut s e).zip ((Cut.cut s e).map (hq val)))).reverse := fun q hq => hA q (List.mem_reverse.1 hq)
  rw [Cut.joinH, hr.snd, Cut.joinH_cut he (by omega) (by omega) (List.length_map _) (List.length_map _)]
theorem csp_nil {b e : Nat} (h : e ≤ b) : csp b e = [] := by
  unfold csp Cut.cut
  rw [show e - b = 0 by omega]
  rfl
theorem csp_one {b k : Nat} (h0 : b + 2 ^ k ≤ 1099511627776) (h1 : b % 2 ^ k = 0) : csp b (b + 2 ^ k) = [(b, b + 2 ^ k)] := by
  unfold csp
  rw [← Cut.cut_of (b := b) (e := b + 2 ^ k) (l := [(b, 2 ^ k)]) h0 ⟨rfl, ⟨k, rfl⟩, h1, rfl⟩ trivial]
  rfl
theorem run_same {s e : Nat} : ∀ (f b n : Nat), n ≤ f → 1 ≤ n → s ≤ b → runF f b n s e = runF f b n 0 e
  | 0, b, n, h1, h2, _ => by omega
  | f + 1, b, n, h1, h2, h3 => by
    rw [runF, runF]
    by_cases c1 : e ≤ b
    · rw [if_pos (.inr c1), if_pos (.inr c1)]
    · rw [if_neg (show ¬ (b + n ≤ s ∨ e ≤ b) by omega), if_neg (show ¬ (b + n ≤ 0 ∨ e ≤ b) by omega)]
      by_cases c2 : b + n ≤ e
      · rw [if_pos ⟨h3, c2⟩, if_pos ⟨Nat.zero_le _, c2⟩]
      · rw [if_neg (show ¬ (s ≤ b ∧ b + n ≤ e) by omega), if_neg (show ¬ (0 ≤ b ∧ b + n ≤ e) by omega)]
        have hn : 2 ≤ n := by omega
        have s1 := sp_lt hn
        have s2 := sp_pos hn
        rw [run_same f b (sp n) (by omega) (by omega) h3, run_same f (b + sp n) (n - sp n) (by omega) (by omega) (by omega)]
/-- what is told is the cut of what stands left of the run, and what is told of all up to its end -/
theorem run_cut {s e N : Nat} (hse : s < e) (heN : e ≤ N) (hN : N ≤ 1099511627776) : ∀ (f b n A : Nat), n ≤ f → 1 ≤ n → n ≤ 2 ^ A → b % 2 ^ A = 0 → (n = 2 ^ A ∨ b + n = N) → runF f b n s e = csp b (min s (b + n)) ++ runF f b n 0 e
  | 0, b, n, A, h1, h2, _, _, _ => by omega
  | f + 1, b, n, A, h1, h2, hA, hb, hE => by
    by_cases c1 : s ≤ b
    · rw [run_same (f + 1) b n h1 h2 c1, csp_nil (by omega)]
      rfl
    · by_cases c2 : b + n ≤ s
      · rw [runF, if_pos (.inl c2), run_nil h2 (by omega) (by omega), List.append_nil, show min s (b + n) = b + n by omega]
        rcases hE with h | h
        · rw [h, csp_one (by omega) hb]
        · omega
      · have hn : 2 ≤ n := by omega
        obtain ⟨a, e1, e2, e3⟩ := sp_pow hn
        have s1 := sp_lt hn
        have s2 := sp_pos hn
        have ha3 : 2 ^ (a + 1) = 2 * 2 ^ a := by rw [Nat.pow_succ, Nat.mul_comm]
        have haA : a + 1 ≤ A := by
          rcases Nat.lt_or_ge a A with c | c
          · exact c
          · have := Nat.pow_le_pow_right (n := 2) (by omega) c
            omega
        have hb0 : b % 2 ^ a = 0 := Cut.mod_of_le (by omega) hb
        have hbm : (b + 2 ^ a) % 2 ^ a = 0 := by rw [Nat.add_mod_right]; exact hb0
        have hNr : n - sp n = 2 ^ a ∨ b + sp n + (n - sp n) = N := by
          rcases hE with h | h
          · refine .inl ?_
            have : A ≤ a + 1 := by
              rcases Nat.lt_or_ge (a + 1) A with c | c
              · have := Nat.pow_lt_pow_right (a := 2) (by omega) c
                omega
              · exact c
            have hAa : A = a + 1 := by omega
            rw [hAa] at h
            omega
          · exact .inr (by omega)
        have i1 := run_cut hse heN hN f b (sp n) a (by omega) (by omega) (by omega) hb0 (.inl e1)
        have i2 := run_cut hse heN hN f (b + sp n) (n - sp n) a (by omega) (by omega) (by omega) (by rw [e1]; exact hbm) hNr
        rw [show b + sp n + (n - sp n) = b + n by omega] at i2
        obtain ⟨g, rfl⟩ : ∃ g, f = g + 1 := ⟨f - 1, by omega⟩
        have hz : runF (g + 1 + 1) b n 0 e = runF (g + 1) b (sp n) 0 e ++ runF (g + 1) (b + sp n) (n - sp n) 0 e := by
          rw [runF, if_neg (by omega)]
          by_cases c3 : b + n ≤ e
          · rw [if_pos ⟨Nat.zero_le _, c3⟩, run_nil (by omega) (by omega) (by omega), run_nil (by omega) (by omega) (by omega)]
            rfl
          · rw [if_neg (by omega)]
        rw [hz, runF, if_neg (by omega), if_neg (by omega), i1, i2, show min s (b + n) = s by omega]
        by_cases c3 : s ≤ b + sp n
        · rw [show min s (b + sp n) = s by omega, csp_nil (b := b + sp n) c3, List.nil_append, List.append_assoc]
        · rw [show min s (b + sp n) = b + sp n by omega, run_nil (f := g) (b := b) (n := sp n) (by omega) (by omega) (by omega), List.append_nil, List.nil_append, e1, csp_one (by omega) hb0]
          have : csp b s = (b, b + 2 ^ a) :: csp (b + 2 ^ a) s := by
            unfold csp
            rw [Cut.cut_cons (by omega) (by omega), Cut.grow_one (k := a) (by omega) (by omega) hb0 (by omega) (by omega)]
            rfl
          rw [this]
          rfl
theorem told_cut {s e n : Nat} (hse : s < e) (hen : e ≤ n) (hn : n ≤ 1099511627776) : runF n 0 n s e = csp 0 s ++ runF n 0 n 0 e := by
  have := run_cut hse hen hn n 0 n 40 (Nat.le_refl _) (by omega) hn (Nat.zero_mod _) (.inr (Nat.zero_add _))
  rw [this, show min s (0 + n) = s by omega]
end Spn
end Go.Proofs.YtblmaokonhdjaaaGreatDoor

/- Layer 14: what Fold says of known hashes that fit a hash of each subtree -/
namespace Go.Proofs.YtblmaokonhdjaaaGreatDoor
open Go.RowKit Go.Shelf
namespace Spn
/-- spans, as numbers -/
abbrev pmI (L : List (Nat × Nat)) : List (Int × Int) := L.map fun s => ((s.1 : Int), (s.2 : Int))
def vb (val : Nat × Nat → List UInt8) (x y : Nat) : ByteArray := ⟨(val (x, y)).toArray⟩
structure Kv (val : Nat × Nat → List UInt8) (b n : Nat) (KN : List (Nat × Nat)) (K : List Sub) : Prop where
  vv : ∀ q ∈ K, ∃ x y : Nat, q = (((x : Int), (y : Int)), vb val x y)
  has : ∀ s ∈ KN, b ≤ s.1 → s.1 < s.2 → s.2 ≤ b + n → (((s.1 : Int), (s.2 : Int)), vb val s.1 s.2) ∈ K
theorem has_nat {b e x y : Nat} (h1 : b ≤ x) (h2 : x < y) (h3 : y ≤ e) : hasI (b : Int) (e : Int) (x : Int) (y : Int) = true := by
  unfold hasI
  simp
  omega
theorem Kv.part {val : Nat × Nat → List UInt8} {b n b' n' : Nat} {KN : List (Nat × Nat)} {K : List Sub} (h : Kv val b n KN K) (h1 : b ≤ b') (h2 : b' + n' ≤ b + n) : Kv val b' n' KN (witS (b' : Int) ((b' + n' : Nat) : Int) K) :=
  ⟨fun q hq => h.vv q (List.mem_filter.1 hq).1, fun s hs h3 h4 h5 => List.mem_filter.2 ⟨h.has s hs (by omega) h4 (by omega), has_nat h3 h4 h5⟩⟩
theorem Kv.some {val : Nat × Nat → List UInt8} {P : Nat → Nat → Prop} {b n f : Nat} {KN : List (Nat × Nat)} {K : List Sub} (h : Kv val b n KN K) (hf : n ≤ f) (h1 : 1 ≤ n) (hc : canP P f b n KN) : K.length ≠ 0 := by
  obtain ⟨s, hs, a1, a2, a3⟩ := canP_within KN f b n hf h1 hc
  have := h.has s hs a1 a3 a2
  intro e
  rw [List.eq_nil_of_length_eq_zero e] at this
  cases this
theorem foS_val (val : Nat × Nat → List UInt8) (KN : List (Nat × Nat)) : ∀ (f b n : Nat) (K : List Sub), n ≤ f → 1 ≤ n → Kv val b n KN K → canP (fun b n => val (b, b + n) = Tree.nd (val (b, b + Tree.sp n)) (val (b + Tree.sp n, b + n))) f b n KN → foS f b n K = some (vb val b (b + n))
  | 0, b, n, K, h1, h2, _, _ => by omega
  | f + 1, b, n, K, h1, h2, hK, hc => by
    rw [foS]
    cases hfd : K.find? (fun q => decide (q.1 = ((b : Int), ((b + n : Nat) : Int)))) with
    | some q =>
      have e0 := List.find?_some hfd
      have e := of_decide_eq_true (show decide (q.1 = ((b : Int), ((b + n : Nat) : Int))) = true from e0)
      clear e0
      obtain ⟨x, y, hq⟩ := hK.vv q (List.mem_of_find?_eq_some hfd)
      subst hq
      have e1 : (x : Int) = (b : Int) := congrArg Prod.fst e
      have e2 : (y : Int) = ((b + n : Nat) : Int) := congrArg Prod.snd e
      obtain rfl : x = b := by omega
      obtain rfl : y = x + n := by omega
      rfl
    | none =>
      rcases hc with hm | ⟨hn2, hP, c1, c2⟩
      · have := hK.has _ hm (Nat.le_refl _) (by show b < b + n; omega) (Nat.le_refl _)
        have hn := List.find?_eq_none.1 hfd _ this
        exact absurd (decide_eq_true rfl) hn
      · have s1 := Tree.sp_lt (n := n) (by omega)
        have s2 := Tree.sp_pos (n := n) (by omega)
        have k1 := hK.part (b' := b) (n' := Tree.sp n) (Nat.le_refl _) (by omega)
        have k2 := hK.part (b' := b + Tree.sp n) (n' := n - Tree.sp n) (by omega) (by omega)
        have l1 := k1.some (by omega) (by omega) c1
        have l2 := k2.some (by omega) (by omega) c2
        have r1 := foS_val val KN f b (Tree.sp n) _ (by omega) (by omega) k1 c1
        have r2 := foS_val val KN f (b + Tree.sp n) (n - Tree.sp n) _ (by omega) (by omega) k2 c2
        rw [show b + Tree.sp n + (n - Tree.sp n) = b + n by omega] at l2 r2
        have hn2' : ¬ n < 2 := by omega
        simp only [if_neg hn2']
        rw [if_neg (by intro h; rcases h with h | h; exact l1 h; exact l2 h), r1]
        simp only []
        rw [r2]
        simp only []
        unfold vb
        rw [hP]
theorem prd_val {val : Nat × Nat → List UInt8} : ∀ (KN : List (Nat × Nat)) (q : Sub), q ∈ prd (pmI KN) (bas (KN.map val)) ↔ ∃ s ∈ KN, q = (((s.1 : Int), (s.2 : Int)), vb val s.1 s.2)
  | [], q => by simp [prd, bas, pmI]
  | s :: KN, q => by
    have ih := prd_val (val := val) KN q
    have e : prd (pmI (s :: KN)) (bas ((s :: KN).map val)) = (((s.1 : Int), (s.2 : Int)), vb val s.1 s.2) :: prd (pmI KN) (bas (KN.map val)) := rfl
    rw [e, List.mem_cons, ih]
    constructor
    · rintro (h | ⟨t, ht, h⟩)
      · exact ⟨s, List.mem_cons_self, h⟩
      · exact ⟨t, List.mem_cons_of_mem _ ht, h⟩
    · rintro ⟨t, ht, h⟩
      rcases List.mem_cons.1 ht with rfl | ht
      · exact .inl h
      · exact .inr ⟨t, ht, h⟩
theorem insB_nat {n b e : Nat} (hn : 1 ≤ n) (hn2 : n ≤ 1099511627776) (h : Tree.insF n 0 n b e = true) : insB n b e = true := by
  have := Tree.insF_in _ _ _ _ _ h hn
  unfold insB
  rw [Int.toNat_natCast, Int.toNat_natCast, Int.toNat_natCast, h, decide_eq_true (by omega)]; rfl
/-- known hashes that fit and reach fold to the hash of the whole -/
theorem foldA_val (val : Nat × Nat → List UInt8) (n : Nat) (KN : List (Nat × Nat)) (h1 : 1 ≤ n) (h2 : n ≤ 1099511627776) (hk : KN.length ≤ 4096) (hh : hsB8 (KN.map val) = true) (hc : canP (fun b n => val (b, b + n) = Tree.nd (val (b, b + Tree.sp n)) (val (b + Tree.sp n, b + n))) n 0 n KN) :
    foldA (n : Int) (pmI KN) (KN.map val) 0 (n : Int) = (vb val 0 n, 0) := by
  have hi' := insB_nat (b := 0) (e := n) h1 h2 (by have := Tree.insF_self (f := n - 1) (b := 0) (n := n); rwa [Nat.zero_add, show n - 1 + 1 = n by omega] at this)
  have hi : insB (n : Int) 0 (n : Int) = true := hi'
  have hw : Kv val 0 n KN (witS ((0 : Nat) : Int) ((0 + n : Nat) : Int) (prd (pmI KN) (bas (KN.map val)))) :=
    (Kv.mk (b := 0) (n := n) (KN := KN) (fun q hq => by
      obtain ⟨s, _, e⟩ := (prd_val KN q).1 hq
      exact ⟨s.1, s.2, e⟩) (fun s hs _ _ _ => (prd_val KN _).2 ⟨s, hs, rfl⟩)).part (Nat.le_refl _) (Nat.le_refl _)
  have hf := foS_val val KN n 0 n _ (Nat.le_refl _) h1 hw hc
  rw [Nat.zero_add] at hf
  unfold foldA
  rw [if_pos (by omega), if_pos (by simp [pmI]; omega), if_pos hh, if_pos hi]
  have e0 : ((n : Int).toNat - (0 : Int).toNat) = n := by omega
  rw [e0]
  have e1 : (0 : Int).toNat = 0 := rfl
  rw [e1]
  rw [show ((0 : Nat) : Int) = (0 : Int) from rfl] at hf
  rw [hf]
theorem hsB_app {a b : List (List UInt8)} (h1 : hsB8 a = true) (h2 : hsB8 b = true) : hsB8 (a ++ b) = true := by
  unfold hsB8 at *
  rw [List.all_append, h1, h2]; rfl
/-- P2: the root of a run: its told hashes and the range of its leaves, folded -/
theorem fold_run {n s e : Nat} {H L : List (List UInt8)} {val : Nat × Nat → List UInt8} (V : Val (rix s e) n H L val) (hse : s < e) (hen : e ≤ n) (hn : n ≤ 1099511627776) (hL : L.length = e - s) (h8 : hsB8 H = true) (l8 : hsB8 (Cut.cmp L s) = true) :
    foldA (n : Int) (pmI (Tree.runF n 0 n s e ++ csp s e)) (H ++ Cut.cmp L s) 0 (n : Int) = (vb val 0 n, 0) := by
  have e1 := val_told V hse (by omega)
  have e2 := cmp_val V hse (by omega) hL
  have h8' := hsB_app h8 l8
  rw [e2] at h8' ⊢
  rw [e1, ← List.map_append] at h8' ⊢
  refine foldA_val val n _ (by omega) hn ?_ h8' (can_all (s := s) (c := s) hn hse hen (.inl rfl) (fun b m h3 h4 h5 => val_node V hse b m h3 h4 h5) (fun _ h => List.mem_append_right _ h) (fun _ h => List.mem_append_left _ h))
  have := told_len (s := s) (e := e) (show 1 ≤ n by omega) hn
  have := csp_len (b := s) (show e ≤ 1099511627776 by omega) (by omega)
  rw [List.length_append]
  omega
/-- P6: and what ranges make of it -/
theorem fold_all {n s e : Nat} {H L : List (List UInt8)} {val : Nat × Nat → List UInt8} (V : Val (rix s e) n H L val) (hse : s < e) (hen : e ≤ n) (hn : n ≤ 1099511627776) (hL : L.length = e - s) {k : Nat} (hk : k = (csp 0 s).length) (h8 : hsB8 (Cut.joinH 0 s e (H.take k) (Cut.cmp L s) ++ H.drop k) = true) :
    foldA (n : Int) (pmI (csp 0 e ++ (Tree.runF n 0 n s e).drop k)) (Cut.joinH 0 s e (H.take k) (Cut.cmp L s) ++ H.drop k) 0 (n : Int) = (vb val 0 n, 0) := by
  have e1 := val_told V hse (by omega)
  have e2 := told_cut hse hen hn
  have e3 : H.take k = (csp 0 s).map val := by rw [e1, e2, List.map_append, hk, List.take_left' (by rw [List.length_map])]
  have e4 : H.drop k = (Tree.runF n 0 n 0 e).map val := by rw [e1, e2, List.map_append, hk, List.drop_left' (by rw [List.length_map])]
  have e5 : (Tree.runF n 0 n s e).drop k = Tree.runF n 0 n 0 e := by rw [e2, hk, List.drop_left' rfl]
  rw [e3, e4, join_val V hse (by omega) hL, ← List.map_append] at h8 ⊢
  rw [e5]
  refine foldA_val val n _ (by omega) hn ?_ h8 (can_all (s := s) (c := 0) hn hse hen (.inr rfl) (fun b m h3 h4 h5 => val_node V hse b m h3 h4 h5) (fun _ h => List.mem_append_left _ h) (fun _ h => List.mem_append_right _ h))
  have := told_len (s := 0) (e := e) (show 1 ≤ n by omega) hn
  have := csp_len (b := 0) (show e ≤ 1099511627776 by omega) (by omega)
  rw [List.length_append]
  omega
end Spn
end Go.Proofs.YtblmaokonhdjaaaGreatDoor
