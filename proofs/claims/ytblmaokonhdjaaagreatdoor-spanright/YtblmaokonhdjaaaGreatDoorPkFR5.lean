import Derived.Test.YtblmaokonhdjaaaGreatDoorPkFR2
import Derived.Lib.TrailingZeros
namespace Go.Proofs.YtblmaokonhdjaaaGreatDoor
namespace Cut
open Tree
theorem cut_nil (b : Nat) : cut b b = [] := by unfold cut; rw [Nat.sub_self]; rfl
theorem grow_facts {b e : Nat} (h0 : e ≤ 1099511627776) (h : b < e) : (∃ k, grow 40 1 b e = 2 ^ k) ∧ b % grow 40 1 b e = 0 ∧ b + grow 40 1 b e ≤ e ∧ 1 ≤ grow 40 1 b e ∧ ¬ (b % (2 * grow 40 1 b e) = 0 ∧ b + 2 * grow 40 1 b e ≤ e) :=
  grow_spec 40 1 b e ⟨0, rfl⟩ (Nat.mod_one b) (by omega) (by rw [Nat.one_mul]; exact Nat.lt_of_le_of_lt h0 (by decide))
theorem cut_cons {b e : Nat} (h0 : e ≤ 1099511627776) (h : b < e) : cut b e = (b, grow 40 1 b e) :: cut (b + grow 40 1 b e) e := by
  obtain ⟨_, _, a3, a4, _⟩ := grow_facts h0 h
  obtain ⟨f, hf⟩ : ∃ f, e - b = f + 1 := ⟨e - b - 1, by omega⟩
  have e1 : cut b e = (b, grow 40 1 b e) :: cutF f (b + grow 40 1 b e) e := by unfold cut; rw [hf, cutF, if_pos h]
  rw [e1, ← cut_of h0 (cutF_cov f (b + grow 40 1 b e) e h0 a3 (by omega)) (cutF_free f _ e h0)]
theorem mod_of_le {b i j : Nat} (hij : i ≤ j) (h : b % 2 ^ j = 0) : b % 2 ^ i = 0 := Nat.mod_eq_zero_of_dvd (Nat.dvd_trans (Nat.pow_dvd_pow 2 hij) (Nat.dvd_of_mod_eq_zero h))
theorem pow_double (k : Nat) : 2 ^ (k + 1) = 2 * 2 ^ k := by rw [Nat.pow_succ, Nat.mul_comm]
/-- one number alone is so -/
theorem grow_one {b e k : Nat} (h0 : e ≤ 1099511627776) (h : b < e) (h1 : b % 2 ^ k = 0) (h2 : b + 2 ^ k ≤ e) (h3 : ¬ (b % (2 * 2 ^ k) = 0 ∧ b + 2 * 2 ^ k ≤ e)) : grow 40 1 b e = 2 ^ k := by
  obtain ⟨⟨j, hj⟩, a2, a3, _, a5⟩ := grow_facts h0 h
  rw [hj] at a2 a3 a5 ⊢
  rcases Nat.lt_trichotomy j k with hlt | rfl | hlt
  · exact absurd ⟨by rw [← pow_double]; exact mod_of_le hlt h1, by rw [← pow_double]; have := Nat.pow_le_pow_right (n := 2) (by omega) hlt; omega⟩ a5
  · rfl
  · exact absurd ⟨by rw [← pow_double]; exact mod_of_le hlt a2, by rw [← pow_double]; have := Nat.pow_le_pow_right (n := 2) (by omega) hlt; omega⟩ h3
/-- the level of the first subtree, by digits -/
def lev (b e : Nat) : Nat := min (e - b).log2 (Go.Lib.ctz 64 b)
theorem lev_grow {b e : Nat} (h0 : e ≤ 1099511627776) (h : b < e) : grow 40 1 b e = 2 ^ lev b e := by
  have l1 := Nat.log2_self_le (n := e - b) (by omega)
  have l2 := Nat.lt_log2_self (n := e - b)
  rw [pow_double] at l2
  unfold lev
  generalize (e - b).log2 = L at *
  by_cases hb : b = 0
  · subst hb
    have e1 : Go.Lib.ctz 64 0 = 64 := rfl
    have hL : L ≤ 40 := by
      rcases Nat.lt_or_ge 40 L with hlt | hge
      · have := Nat.pow_le_pow_right (n := 2) (by omega) hlt
        have : (2 : Nat) ^ (40 + 1) = 2199023255552 := by decide
        omega
      · exact hge
    rw [e1, Nat.min_eq_left (by omega)]
    exact grow_one h0 h (Nat.zero_mod _) (by omega) (fun hh => by omega)
  · have e1 : Go.Lib.ctz 64 b = Go.Lib.ctzFrom 64 b := by unfold Go.Lib.ctz; rw [if_neg hb]
    obtain ⟨m, hm, hc⟩ := Go.Lib.ctzFrom_spec 64 b (by omega) (Nat.lt_of_lt_of_le h (Nat.le_trans h0 (by decide)))
    rw [e1]
    generalize Go.Lib.ctzFrom 64 b = c at *
    have hbc : b % 2 ^ c = 0 := by rw [hm]; exact Nat.mul_mod_right _ _
    rcases Nat.le_total L c with hle | hle
    · rw [Nat.min_eq_left hle]
      exact grow_one h0 h (mod_of_le hle hbc) (by omega) (fun hh => by omega)
    · rw [Nat.min_eq_right hle]
      have := Nat.pow_le_pow_right (n := 2) (by omega) hle
      refine grow_one h0 h hbc (by omega) (fun hh => ?_)
      have h5 := hh.1
      have hd := Nat.dvd_of_mod_eq_zero h5
      rw [hm, Nat.mul_comm 2] at hd
      have := Nat.dvd_of_mul_dvd_mul_left (two_pos c) hd
      omega
theorem lev_le {b e : Nat} (h0 : e ≤ 1099511627776) (h : b < e) : lev b e ≤ 40 := by
  obtain ⟨_, _, a3, _, _⟩ := grow_facts h0 h
  rw [lev_grow h0 h] at a3
  rcases Nat.lt_or_ge 40 (lev b e) with hlt | hge
  · have := Nat.pow_le_pow_right (n := 2) (by omega) hlt
    have : (2 : Nat) ^ (40 + 1) = 2199023255552 := by decide
    omega
  · exact hge
/-- a right part whose left part lies within: that one is the last of the cut -/
theorem cut_snoc {a b k : Nat} (h0 : b ≤ 1099511627776) (h1 : b % 2 ^ k = 0) (h2 : b / 2 ^ k % 2 = 1) (h3 : a + 2 ^ k ≤ b) : cut a b = cut a (b - 2 ^ k) ++ [(b - 2 ^ k, 2 ^ k)] := by
  have hk := two_pos k
  obtain ⟨q, hq⟩ := Nat.dvd_of_mod_eq_zero h1
  have hq2 : q % 2 = 1 := by rw [hq, Nat.mul_div_cancel_left _ hk] at h2; exact h2
  have hp2 : (b - 2 ^ k) % (2 * 2 ^ k) = 0 := by
    apply Nat.mod_eq_zero_of_dvd
    refine ⟨q / 2, ?_⟩
    rw [hq, Nat.mul_comm 2, Nat.mul_assoc, show 2 * (q / 2) = q - 1 from by omega, Nat.mul_sub, Nat.mul_one]
  have hp : (b - 2 ^ k) % 2 ^ k = 0 := by
    have := mod_of_le (Nat.le_succ k) (by rw [pow_double]; exact hp2)
    exact this
  have h := push_cut (a := a) (b := b - 2 ^ k) (n := 2 ^ k) (by omega) (by omega) ⟨k, rfl⟩ hp
  rw [show b - 2 ^ k + 2 ^ k = b from by omega] at h
  have hc := cut_cov (b := a) (e := b - 2 ^ k) (by omega) (by omega)
  rw [← h]
  have hpush : push (cut a (b - 2 ^ k)).reverse (b - 2 ^ k) (2 ^ k) = (b - 2 ^ k, 2 ^ k) :: (cut a (b - 2 ^ k)).reverse := by
    cases hl : (cut a (b - 2 ^ k)).reverse with
    | nil => rfl
    | cons y l =>
      obtain ⟨p, m⟩ := y
      rw [push, if_neg]
      rintro ⟨e1, e2⟩
      rw [show cut a (b - 2 ^ k) = l.reverse ++ [(p, m)] from by rw [← List.reverse_reverse (cut a (b - 2 ^ k)), hl, List.reverse_cons]] at hc
      obtain ⟨c, _, h5⟩ := cov_append.1 hc
      obtain ⟨rfl, _, _, h6⟩ := h5
      have h6 : p + m = b - 2 ^ k := h6
      rw [e1] at h6
      rw [← h6] at hp2
      have := (Nat.dvd_add_right (Nat.dvd_of_mod_eq_zero e2)).1 (Nat.dvd_of_mod_eq_zero hp2)
      have := Nat.le_of_dvd hk this
      omega
  rw [hpush, List.reverse_cons, List.reverse_reverse]
/-- the hashes of a cut's subtrees, with one more laid behind -/
def takeH (a b n : Nat) (x : T) (H : List T) : List T := ((pushH ((cut a b).zip H).reverse b n x).reverse).map Prod.snd
theorem zip_fst {α β : Type} : ∀ (l : List α) (m : List β), l.length = m.length → (l.zip m).map Prod.fst = l
  | [], _, _ => by simp
  | _ :: _, [], h => by simp at h
  | a :: l, b :: m, h => by rw [List.zip_cons_cons, List.map_cons, zip_fst l m (by simpa using h)]
theorem zip_snd {α β : Type} : ∀ (l : List α) (m : List β), l.length = m.length → (l.zip m).map Prod.snd = m
  | [], [], _ => rfl
  | [], _ :: _, h => by simp at h
  | _ :: _, [], h => by simp at h
  | a :: l, b :: m, h => by rw [List.zip_cons_cons, List.map_cons, zip_snd l m (by simpa using h)]
theorem pushH_cut {a b n : Nat} {x : T} {H : List T} (h0 : b + n ≤ 1099511627776) (h1 : a ≤ b) (hp : ∃ k, n = 2 ^ k) (hb : b % n = 0) (hl : H.length = (cut a b).length) : (pushH ((cut a b).zip H).reverse b n x).reverse.map Prod.fst = cut a (b + n) := by
  rw [List.map_reverse, pushH_fst, List.map_reverse, zip_fst _ _ hl.symm]
  exact push_cut h0 h1 hp hb
theorem takeH_zip {a b n : Nat} {x : T} {H : List T} (h0 : b + n ≤ 1099511627776) (h1 : a ≤ b) (hp : ∃ k, n = 2 ^ k) (hb : b % n = 0) (hl : H.length = (cut a b).length) : (cut a (b + n)).zip (takeH a b n x H) = (pushH ((cut a b).zip H).reverse b n x).reverse := by
  rw [← pushH_cut (x := x) h0 h1 hp hb hl, takeH]
  generalize (pushH ((cut a b).zip H).reverse b n x).reverse = l
  induction l with
  | nil => rfl
  | cons y l ih => rw [List.map_cons, List.map_cons, List.zip_cons_cons, ih]
theorem takeH_length {a b n : Nat} {x : T} {H : List T} (h0 : b + n ≤ 1099511627776) (h1 : a ≤ b) (hp : ∃ k, n = 2 ^ k) (hb : b % n = 0) (hl : H.length = (cut a b).length) : (takeH a b n x H).length = (cut a (b + n)).length := by
  rw [← pushH_cut (x := x) h0 h1 hp hb hl, takeH, List.length_map, List.length_map]
/-- F2, F4: halves become one -/
theorem takeH_up {a b k : Nat} {x y : T} {H : List T} (h0 : b ≤ 1099511627776) (h1 : b % 2 ^ k = 0) (h2 : b / 2 ^ k % 2 = 1) (h3 : a + 2 ^ k ≤ b) (hl : (H ++ [y]).length = (cut a b).length) : takeH a b (2 ^ k) x (H ++ [y]) = takeH a (b - 2 ^ k) (2 * 2 ^ k) (nd y x) H ∧ H.length = (cut a (b - 2 ^ k)).length := by
  have hs := cut_snoc h0 h1 h2 h3
  have hl2 : H.length = (cut a (b - 2 ^ k)).length := by rw [hs] at hl; simpa using hl
  refine ⟨?_, hl2⟩
  have hk := two_pos k
  have hp2 : (b - 2 ^ k) % (2 * 2 ^ k) = 0 := by
    obtain ⟨q, hq⟩ := Nat.dvd_of_mod_eq_zero h1
    have hq2 : q % 2 = 1 := by rw [hq, Nat.mul_div_cancel_left _ hk] at h2; exact h2
    apply Nat.mod_eq_zero_of_dvd
    refine ⟨q / 2, ?_⟩
    rw [hq, Nat.mul_comm 2, Nat.mul_assoc, show 2 * (q / 2) = q - 1 from by omega, Nat.mul_sub, Nat.mul_one]
  unfold takeH
  rw [hs, List.zip_append hl2.symm, List.reverse_append]
  show List.map Prod.snd (List.reverse (pushH (((b - 2 ^ k, 2 ^ k), y) :: ((cut a (b - 2 ^ k)).zip H).reverse) b (2 ^ k) x)) = _
  rw [pushH, if_pos ⟨rfl, hp2⟩]
/-- else it is laid behind -/
theorem takeH_end {a b k : Nat} {x : T} {H : List T} (h0 : b ≤ 1099511627776) (h1 : a ≤ b) (h2 : ¬ (b / 2 ^ k % 2 = 1 ∧ a + 2 ^ k ≤ b)) (hl : H.length = (cut a b).length) : takeH a b (2 ^ k) x H = H ++ [x] := by
  have hk := two_pos k
  have hc := cut_cov (b := a) (e := b) h0 h1
  have hpush : pushH ((cut a b).zip H).reverse b (2 ^ k) x = ((b, 2 ^ k), x) :: ((cut a b).zip H).reverse := by
    cases hz : ((cut a b).zip H).reverse with
    | nil => rfl
    | cons y l =>
      obtain ⟨⟨p, m⟩, y⟩ := y
      rw [pushH, if_neg]
      rintro ⟨e1, e2⟩
      have e3 : cut a b = (l.reverse ++ [((p, m), y)]).map Prod.fst := by
        rw [← List.reverse_cons, ← hz, List.reverse_reverse, zip_fst _ _ hl.symm]
      rw [e3, List.map_append] at hc
      obtain ⟨c, h4, h5⟩ := cov_append.1 hc
      obtain ⟨rfl, _, _, h6⟩ := h5
      have h6 : p + m = b := h6
      have := h4.le
      apply h2
      refine ⟨?_, by omega⟩
      obtain ⟨q, hq⟩ := Nat.dvd_of_mod_eq_zero e2
      rw [← h6, e1, hq, Nat.mul_comm 2, Nat.mul_assoc]
      rw [show 2 ^ k * (2 * q) + 2 ^ k = 2 ^ k * (2 * q + 1) from by rw [Nat.mul_add, Nat.mul_one], Nat.mul_div_cancel_left _ hk]
      omega
  unfold takeH
  rw [hpush, List.reverse_cons, List.reverse_reverse, List.map_append, zip_snd _ _ hl.symm]
  rfl
/-- F3: the hashes of a range of leaves -/
def cmp (L : List T) (a : Nat) : List T := (cut a (a + L.length)).map (lh L a)
theorem cmp_length (L : List T) (a : Nat) : (cmp L a).length = (cut a (a + L.length)).length := List.length_map _
theorem zip_map {α β : Type} (f : α → β) : ∀ (l : List α), l.zip (l.map f) = l.map fun q => (q, f q)
  | [] => rfl
  | a :: l => by rw [List.map_cons, List.zip_cons_cons, zip_map f l, List.map_cons]
theorem all_map {h : Nat × Nat → T} (l : List (Nat × Nat)) : All h (l.map fun q => (q, h q)) := fun q hq => by
  obtain ⟨p, _, rfl⟩ := List.mem_map.1 hq
  rfl
theorem Cov.within : ∀ {l : List (Nat × Nat)} {a b : Nat}, Cov a b l → ∀ q ∈ l, q.1 + q.2 ≤ b
  | [], _, _, _, q, hq => by cases hq
  | (p, n) :: l, a, b, h, q, hq => by
    rcases List.mem_cons.1 hq with rfl | hq
    · have := h.2.2.2.le
      have := h.1
      show p + n ≤ b
      omega
    · exact Cov.within h.2.2.2 q hq
theorem lh_append {L M : List T} {a : Nat} {q : Nat × Nat} (h : q.1 + q.2 ≤ a + L.length) (h1 : a ≤ q.1) : lh (L ++ M) a q = lh L a q := by
  unfold lh
  rw [List.drop_append_of_le_length (by omega), List.take_append_of_le_length (by rw [List.length_drop]; omega)]
theorem cmp_lh {L M : List T} {a : Nat} (h0 : a + L.length ≤ 1099511627776) : cmp L a = (cut a (a + L.length)).map (lh (L ++ M) a) :=
  List.map_congr_left fun q hq => (lh_append ((cut_cov h0 (by omega)).within q hq) ((cut_cov h0 (by omega)).ge q hq)).symm
theorem lh_one (L M : List T) (a : Nat) (x : T) : lh (L ++ x :: M) a (a + L.length, 1) = x := by
  unfold lh
  rw [show a + L.length - a = L.length from by omega, List.drop_left]
  rfl
/-- F2, F3: one more leaf -/
theorem cmp_snoc {L : List T} {a : Nat} {x : T} (h0 : a + L.length + 1 ≤ 1099511627776) : takeH a (a + L.length) 1 x (cmp L a) = cmp (L ++ [x]) a := by
  have hl : (cmp L a).length = (cut a (a + L.length)).length := cmp_length L a
  have hz := takeH_zip (a := a) (b := a + L.length) (n := 1) (x := x) (H := cmp L a) h0 (by omega) ⟨0, rfl⟩ (Nat.mod_one _) hl
  have hA : All (lh (L ++ [x]) a) (pushH ((cut a (a + L.length)).zip (cmp L a)).reverse (a + L.length) 1 x) := by
    refine pushH_all (lh_nodes (L ++ [x]) a) _ _ _ _ ?_ ⟨0, rfl⟩ (by simp; omega) ?_ (lh_one L [] a x).symm
    · rw [List.map_reverse, List.reverse_reverse, zip_fst _ _ hl.symm]
      exact cut_cov (by omega) (by omega)
    · intro q hq
      rw [List.mem_reverse, cmp_lh (M := [x]) (by omega), zip_map] at hq
      exact all_map _ q hq
  have hr : All (lh (L ++ [x]) a) (pushH ((cut a (a + L.length)).zip (cmp L a)).reverse (a + L.length) 1 x).reverse := fun q hq => hA q (List.mem_reverse.1 hq)
  rw [takeH, hr.snd, pushH_cut h0 (by omega) ⟨0, rfl⟩ (Nat.mod_one _) hl, cmp, List.length_append, List.length_singleton, Nat.add_assoc]
theorem cmp_nil (a : Nat) : cmp [] a = [] := by rw [cmp, List.length_nil, Nat.add_zero, cut_nil]; rfl
/-- F4: the hashes of two ranges, joined -/
def joinH (a b c : Nat) (H G : List T) : List T := ((pushAllH ((cut a b).zip H).reverse ((cut b c).zip G)).reverse).map Prod.snd
/-- some of the second range's subtrees have been taken -/
theorem takeH_step {a c n : Nat} {H : List T} {x : T} {l : List ((Nat × Nat) × T)} (h0 : c + n ≤ 1099511627776) (h1 : a ≤ c) (hp : ∃ k, n = 2 ^ k) (hb : c % n = 0) (hl : H.length = (cut a c).length) :
    (pushAllH ((cut a c).zip H).reverse (((c, n), x) :: l)) = pushAllH ((cut a (c + n)).zip (takeH a c n x H)).reverse l := by
  rw [pushAllH, takeH_zip h0 h1 hp hb hl, List.reverse_reverse]
theorem pushAllH_all {h : Nat × Nat → T} {a c : Nat} (hN : Nodes h a c) : ∀ (l st : List ((Nat × Nat) × T)) (b : Nat), Cov a b (st.map Prod.fst).reverse → Cov b c (l.map Prod.fst) → All h st → All h l → All h (pushAllH st l)
  | [], _, _, _, _, h3, _ => h3
  | ((p, n), x) :: l, st, b, h1, h2, h3, h4 => by
    obtain ⟨rfl, hp, hb, hc⟩ := h2
    have hle := hc.le
    refine pushAllH_all hN l _ (p + n) ?_ hc (pushH_all hN st p n x h1 hp hle h3 (h4 _ List.mem_cons_self)) fun q hq => h4 q (List.mem_cons_of_mem _ hq)
    rw [pushH_fst]
    exact push_cov _ a p n h1 hp hb
theorem joinH_cut {a b c : Nat} {H G : List T} (h0 : c ≤ 1099511627776) (h1 : a ≤ b) (h2 : b ≤ c) (hH : H.length = (cut a b).length) (hG : G.length = (cut b c).length) : (pushAllH ((cut a b).zip H).reverse ((cut b c).zip G)).reverse.map Prod.fst = cut a c := by
  rw [List.map_reverse, pushAllH_fst, List.map_reverse, zip_fst _ _ hH.symm, zip_fst _ _ hG.symm]
  exact join_cut h0 h1 h2
theorem joinH_length {a b c : Nat} {H G : List T} (h0 : c ≤ 1099511627776) (h1 : a ≤ b) (h2 : b ≤ c) (hH : H.length = (cut a b).length) (hG : G.length = (cut b c).length) : (joinH a b c H G).length = (cut a c).length := by
  rw [← joinH_cut h0 h1 h2 hH hG, joinH, List.length_map, List.length_map]
/-- F6 -/
theorem cmp_join {L M : List T} {a : Nat} (h0 : a + L.length + M.length ≤ 1099511627776) : joinH a (a + L.length) (a + L.length + M.length) (cmp L a) (cmp M (a + L.length)) = cmp (L ++ M) a := by
  have hH := cmp_length L a
  have hG := cmp_length M (a + L.length)
  have e : cmp M (a + L.length) = (cut (a + L.length) (a + L.length + M.length)).map (lh (L ++ M) a) := List.map_congr_left fun q hq => by
    have := (cut_cov h0 (by omega)).ge q hq
    unfold lh
    rw [List.drop_append (l₁ := L), List.drop_eq_nil_of_le (show L.length ≤ q.1 - a from by omega), List.nil_append, show q.1 - (a + L.length) = q.1 - a - L.length from by omega]
  have hA : All (lh (L ++ M) a) (pushAllH ((cut a (a + L.length)).zip (cmp L a)).reverse ((cut (a + L.length) (a + L.length + M.length)).zip (cmp M (a + L.length)))) := by
    refine pushAllH_all (a := a) (c := a + L.length + M.length) ?_ _ _ (a + L.length) ?_ ?_ ?_ ?_
    · have := lh_nodes (L ++ M) a
      rwa [List.length_append, ← Nat.add_assoc] at this
    · rw [List.map_reverse, List.reverse_reverse, zip_fst _ _ hH.symm]
      exact cut_cov (by omega) (by omega)
    · rw [zip_fst _ _ hG.symm]
      exact cut_cov h0 (by omega)
    · intro q hq
      rw [List.mem_reverse, cmp_lh (M := M) (by omega), zip_map] at hq
      exact all_map _ q hq
    · rw [e, zip_map]
      exact all_map _
  have hr : All (lh (L ++ M) a) (pushAllH ((cut a (a + L.length)).zip (cmp L a)).reverse ((cut (a + L.length) (a + L.length + M.length)).zip (cmp M (a + L.length)))).reverse := fun q hq => hA q (List.mem_reverse.1 hq)
  rw [joinH, hr.snd, joinH_cut h0 (by omega) (by omega) hH hG, cmp, List.length_append, ← Nat.add_assoc]
/-- F6: the root of a range from 0 on -/
theorem cmp_root (L : List T) (h : L.length ≤ 1099511627776) : fold (cmp L 0) = root L := by
  by_cases h0 : L = []
  · subst h0; rw [cmp_nil, root_nil]; rfl
  · have := fold_root L.length L 0 41 (Nat.le_refl _) (List.length_pos_iff.2 h0) (Nat.zero_mod _) (Nat.le_trans h (by decide)) (by omega)
    exact this
/-- how many subtrees a cut has -/
theorem cov_len : ∀ {l : List (Nat × Nat)} {a b : Nat}, Cov a b l → l.length ≤ b - a
  | [], _, _, _ => Nat.zero_le _
  | (p, n) :: l, a, b, h => by
    have := cov_len h.2.2.2
    have := h.2.2.2.le
    obtain ⟨k, hk⟩ := h.2.1
    have := two_pos k
    simp only [List.length_cons]
    omega
end Cut
end Go.Proofs.YtblmaokonhdjaaaGreatDoor
