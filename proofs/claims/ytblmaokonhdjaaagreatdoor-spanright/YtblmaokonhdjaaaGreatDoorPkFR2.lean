import Derived.Test.YtblmaokonhdjaaaGreatDoorPkSH5
namespace Go.Proofs.YtblmaokonhdjaaaGreatDoor
namespace Cut
theorem cov_append : ∀ {l l' : List (Nat × Nat)} {a c : Nat}, Cov a c (l ++ l') ↔ ∃ b, Cov a b l ∧ Cov b c l'
  | [], l', a, c => ⟨fun h => ⟨a, rfl, h⟩, fun ⟨b, h1, h2⟩ => by have e : a = b := h1; subst e; exact h2⟩
  | (p, n) :: l, l', a, c => by
    refine ⟨fun h => ?_, fun ⟨b, h1, h2⟩ => ⟨h1.1, h1.2.1, h1.2.2.1, cov_append.2 ⟨b, h1.2.2.2, h2⟩⟩⟩
    obtain ⟨b, h1, h2⟩ := cov_append.1 h.2.2.2
    exact ⟨b, ⟨h.1, h.2.1, h.2.2.1, h1⟩, h2⟩
theorem free_left : ∀ {l l' : List (Nat × Nat)}, Free (l ++ l') → Free l
  | [], _, _ => trivial
  | [_], _, _ => trivial
  | _ :: y :: l, _, h => ⟨h.1, free_left (l := y :: l) h.2⟩
theorem free_snoc : ∀ {l : List (Nat × Nat)} {p m b n : Nat}, Free (l ++ [(p, m)]) → ¬ (m = n ∧ p % (2 * m) = 0) → Free (l ++ [(p, m)] ++ [(b, n)])
  | [], _, _, _, _, _, h2 => ⟨h2, trivial⟩
  | [_], _, _, _, _, h1, h2 => ⟨h1.1, h2, trivial⟩
  | _ :: y :: l, _, _, _, _, h1, h2 => ⟨h1.1, free_snoc (l := y :: l) h1.2 h2⟩
/-- what is pushed is a cut again -/
theorem push_cov : ∀ (l : List (Nat × Nat)) (a b n : Nat), Cov a b l.reverse → (∃ k, n = 2 ^ k) → b % n = 0 → Cov a (b + n) (push l b n).reverse
  | [], a, b, n, h, hp, hb => by
    have e : a = b := h
    subst e
    exact ⟨rfl, hp, hb, rfl⟩
  | (p, m) :: l, a, b, n, h, hp, hb => by
    rw [List.reverse_cons] at h
    obtain ⟨c, h1, h2⟩ := cov_append.1 h
    obtain ⟨rfl, hm, hpm, hc⟩ := h2
    have hc : p + m = b := hc
    rw [push]
    split
    · rename_i e
      obtain ⟨e1, e2⟩ := e
      subst e1
      obtain ⟨k, hk⟩ := hm
      have ih := push_cov l a p (2 * m) h1 ⟨k + 1, by rw [hk, Nat.pow_succ, Nat.mul_comm]⟩ e2
      rw [show b + m = p + 2 * m from by omega]
      exact ih
    · rw [List.reverse_cons, List.reverse_cons]
      exact cov_append.2 ⟨b, cov_append.2 ⟨p, h1, ⟨rfl, hm, hpm, hc⟩⟩, ⟨rfl, hp, hb, rfl⟩⟩
theorem push_free : ∀ (l : List (Nat × Nat)) (b n : Nat), Free l.reverse → Free (push l b n).reverse
  | [], b, n, _ => trivial
  | (p, m) :: l, b, n, h => by
    rw [push]
    rw [List.reverse_cons] at h
    split
    · exact push_free l p (2 * n) (free_left h)
    · rename_i e
      rw [List.reverse_cons, List.reverse_cons]
      exact free_snoc h fun hh => e ⟨hh.1, by rw [← hh.1]; exact hh.2⟩
/-- ADD AND JOIN: a complete subtree behind a cut -/
theorem push_cut {a b n : Nat} (h0 : b + n ≤ 1099511627776) (h1 : a ≤ b) (hp : ∃ k, n = 2 ^ k) (hb : b % n = 0) : (push (cut a b).reverse b n).reverse = cut a (b + n) := by
  refine cut_of h0 (push_cov _ a b n ?_ hp hb) (push_free _ b n ?_)
  · rw [List.reverse_reverse]; exact cut_cov (by omega) h1
  · rw [List.reverse_reverse]; exact cut_free (by omega)
theorem push_one {a b : Nat} (h0 : b + 1 ≤ 1099511627776) (h1 : a ≤ b) : (push (cut a b).reverse b 1).reverse = cut a (b + 1) := push_cut h0 h1 ⟨0, rfl⟩ (Nat.mod_one b)
/-- all subtrees of a cut, laid behind another one -/
def pushAll : List (Nat × Nat) → List (Nat × Nat) → List (Nat × Nat)
  | st, [] => st
  | st, (b, n) :: l => pushAll (push st b n) l
theorem pushAll_cov : ∀ (l st : List (Nat × Nat)) (a b c : Nat), Cov a b st.reverse → Cov b c l → Cov a c (pushAll st l).reverse
  | [], st, a, b, c, h, h' => by have e : b = c := h'; subst e; exact h
  | (p, n) :: l, st, a, b, c, h, h' => by
    obtain ⟨rfl, hp, hb, hc⟩ := h'
    exact pushAll_cov l _ a _ c (push_cov st a p n h hp hb) hc
theorem pushAll_free : ∀ (l st : List (Nat × Nat)), Free st.reverse → Free (pushAll st l).reverse
  | [], _, h => h
  | (p, n) :: l, st, h => pushAll_free l _ (push_free st p n h)
/-- two cuts that meet, joined, are the cut of both -/
theorem join_cut {a b c : Nat} (h0 : c ≤ 1099511627776) (h1 : a ≤ b) (h2 : b ≤ c) : (pushAll (cut a b).reverse (cut b c)).reverse = cut a c := by
  refine cut_of h0 (pushAll_cov _ _ a b c ?_ (cut_cov h0 h2)) (pushAll_free _ _ ?_)
  · rw [List.reverse_reverse]; exact cut_cov (by omega) h1
  · rw [List.reverse_reverse]; exact cut_free (by omega)
end Cut
end Go.Proofs.YtblmaokonhdjaaaGreatDoor

namespace Go.Proofs.YtblmaokonhdjaaaGreatDoor
namespace Cut
open Tree
/-- with their hashes -/
def pushH : List ((Nat × Nat) × T) → Nat → Nat → T → List ((Nat × Nat) × T)
  | [], b, n, x => [((b, n), x)]
  | ((p, m), y) :: l, b, n, x => if m = n ∧ p % (2 * n) = 0 then pushH l p (2 * n) (nd y x) else ((b, n), x) :: ((p, m), y) :: l
theorem pushH_fst : ∀ (l : List ((Nat × Nat) × T)) (b n : Nat) (x : T), (pushH l b n x).map Prod.fst = push (l.map Prod.fst) b n
  | [], _, _, _ => rfl
  | ((p, m), y) :: l, b, n, x => by
    rw [pushH, List.map_cons, push]
    split
    · exact pushH_fst l p (2 * n) (nd y x)
    · rfl
/-- each one has its hash -/
def All (h : Nat × Nat → T) (l : List ((Nat × Nat) × T)) : Prop := ∀ q ∈ l, q.2 = h q.1
/-- a subtree's hash is the node of its halves', within [a, c) -/
def Nodes (h : Nat × Nat → T) (a c : Nat) : Prop := ∀ p n, a ≤ p → p + 2 * n ≤ c → (∃ k, n = 2 ^ k) → p % (2 * n) = 0 → h (p, 2 * n) = nd (h (p, n)) (h (p + n, n))
theorem pushH_all {h : Nat × Nat → T} {a c : Nat} (hN : Nodes h a c) : ∀ (l : List ((Nat × Nat) × T)) (b n : Nat) (x : T), Cov a b (l.map Prod.fst).reverse → (∃ k, n = 2 ^ k) → b + n ≤ c → All h l → x = h (b, n) → All h (pushH l b n x)
  | [], b, n, x, _, _, _, _, hx => fun q hq => by
    rw [pushH, List.mem_singleton] at hq
    subst hq
    exact hx
  | ((p, m), y) :: l, b, n, x, hc, hp, hb, hA, hx => by
    rw [List.map_cons, List.reverse_cons] at hc
    obtain ⟨d, h1, h2⟩ := cov_append.1 hc
    obtain ⟨rfl, hm, hpm, he⟩ := h2
    have he : p + m = b := he
    have hy : y = h (p, m) := hA ((p, m), y) List.mem_cons_self
    rw [pushH]
    split
    · rename_i e
      obtain ⟨e1, e2⟩ := e
      subst e1
      obtain ⟨k, hk⟩ := hm
      refine pushH_all hN l p (2 * m) (nd y x) h1 ⟨k + 1, by rw [hk, Nat.pow_succ, Nat.mul_comm]⟩ (by omega) (fun q hq => hA q (List.mem_cons_of_mem _ hq)) ?_
      rw [hN p m h1.le (by omega) ⟨k, hk⟩ e2, hy, hx, he]
    · intro q hq
      rcases List.mem_cons.1 hq with rfl | hq
      · exact hx
      · exact hA q hq
/-- the hashes of a list that has them are those of its subtrees, in order -/
theorem All.snd : ∀ {h : Nat × Nat → T} {l : List ((Nat × Nat) × T)}, All h l → l.map Prod.snd = (l.map Prod.fst).map h
  | _, [], _ => rfl
  | h, q :: l, hA => by
    rw [List.map_cons, List.map_cons, List.map_cons, hA q List.mem_cons_self, All.snd (fun r hr => hA r (List.mem_cons_of_mem _ hr))]
/-- the hash of a subtree of leaves that begin at a -/
def lh (L : List T) (a : Nat) (q : Nat × Nat) : T := root ((L.drop (q.1 - a)).take q.2)
theorem lh_nodes (L : List T) (a : Nat) : Nodes (lh L a) a (a + L.length) := fun p n h1 h2 ⟨k, hk⟩ _ => by
  have hn := two_pos k
  have hl : ((L.drop (p - a)).take (2 * n)).length = 2 * n := by rw [List.length_take, List.length_drop]; omega
  have hs : sp (2 * n) = n := by
    rw [hk]
    exact sp_one (by omega) k (by omega) (by omega)
  show root ((L.drop (p - a)).take (2 * n)) = nd (root ((L.drop (p - a)).take n)) (root ((L.drop (p + n - a)).take n))
  rw [root_cut (by rw [hl]; omega), hl, hs, List.take_take, List.drop_take, List.drop_drop, show min n (2 * n) = n from by omega, show 2 * n - n = n from by omega, show p - a + n = p + n - a from by omega]
/-- from behind: F2 -/
def fold : List T → T
  | [] => Sha.sha []
  | [x] => x
  | x :: y :: l => nd x (fold (y :: l))
theorem Cov.ge : ∀ {l : List (Nat × Nat)} {a b : Nat}, Cov a b l → ∀ q ∈ l, a ≤ q.1
  | [], _, _, _, q, hq => by cases hq
  | (p, n) :: l, a, b, h, q, hq => by
    rcases List.mem_cons.1 hq with rfl | hq
    · exact Nat.le_of_eq h.1.symm
    · have := Cov.ge h.2.2.2 q hq
      omega
/-- THE EDGE'S ROOT is the definitions' -/
theorem fold_root : ∀ (f : Nat) (L : List T) (b K : Nat), L.length ≤ f → 1 ≤ L.length → b % 2 ^ K = 0 → L.length ≤ 2 ^ K → b + L.length ≤ 1099511627776 → fold ((cut b (b + L.length)).map (lh L b)) = root L
  | 0, L, b, K, h0, h1, _, _, _ => by omega
  | f + 1, L, b, K, h0, h1, h2, h3, h4 => by
    obtain ⟨n, hn⟩ : ∃ n, L.length = n := ⟨_, rfl⟩
    rw [hn] at h0 h1 h3 h4 ⊢
    have hc := cut_cov (b := b) (e := b + n) h4 (by omega)
    have hf := cut_free (b := b) (e := b + n) h4
    have hj1 := Nat.log2_self_le (n := n) (by omega)
    have hj2 := Nat.lt_log2_self (n := n)
    obtain ⟨j, hj⟩ : ∃ j, n.log2 = j := ⟨_, rfl⟩
    rw [hj] at hj1 hj2
    have hj3 : 2 ^ (j + 1) = 2 * 2 ^ j := by rw [Nat.pow_succ, Nat.mul_comm]
    have hjp := two_pos j
    have hjK : j ≤ K := by
      rcases Nat.lt_or_ge K j with hlt | hge
      · have : 2 ^ (K + 1) ≤ 2 ^ j := Nat.pow_le_pow_right (by omega) hlt
        have e : 2 ^ (K + 1) = 2 * 2 ^ K := by rw [Nat.pow_succ, Nat.mul_comm]
        have := two_pos K
        omega
      · exact hge
    have hbj : b % 2 ^ j = 0 := Nat.mod_eq_zero_of_dvd (Nat.dvd_trans (Nat.pow_dvd_pow 2 hjK) (Nat.dvd_of_mod_eq_zero h2))
    cases hl : cut b (b + n) with
    | nil =>
      rw [hl] at hc
      have e : b = b + n := hc
      omega
    | cons y l =>
      obtain ⟨p, m⟩ := y
      rw [hl] at hc hf
      have hc0 := hc
      obtain ⟨rfl, ⟨i, hi⟩, hm, hr⟩ := hc
      have hle := hr.le
      have hmj : m ≤ 2 ^ j := by
        rcases Nat.lt_or_ge j i with hlt | hge
        · have : 2 ^ (j + 1) ≤ 2 ^ i := Nat.pow_le_pow_right (by omega) hlt
          omega
        · rw [hi]; exact Nat.pow_le_pow_right (by omega) hge
      have hmm := first j p (p + n) m l hbj (by omega) hc0 hf hmj
      subst hmm
      have hrest : l = cut (p + 2 ^ j) (p + n) := cut_of h4 hr hf.tail
      by_cases he : 2 ^ j = n
      · have hnil : l = [] := by
          cases l with
          | nil => rfl
          | cons y l =>
            obtain ⟨q, m⟩ := y
            obtain ⟨_, ⟨i', hi'⟩, _, hr'⟩ := hr
            have := hr'.le
            have := two_pos i'
            omega
        rw [hnil]
        show root ((L.drop (p - p)).take (2 ^ j)) = root L
        rw [Nat.sub_self, List.drop_zero, List.take_of_length_le (by omega)]
      · have hs : sp n = 2 ^ j := sp_one (by omega) j (by omega) (by omega)
        have hLd : (L.drop (2 ^ j)).length = n - 2 ^ j := by rw [List.length_drop, hn]
        have ih := fold_root f (L.drop (2 ^ j)) (p + 2 ^ j) j (by omega) (by omega) (by rw [Nat.add_mod_right]; exact hbj) (by omega) (by omega)
        rw [hLd, show p + 2 ^ j + (n - 2 ^ j) = p + n from by omega, ← hrest] at ih
        have hmap : l.map (lh (L.drop (2 ^ j)) (p + 2 ^ j)) = l.map (lh L p) := List.map_congr_left fun q hq => by
          have := hr.ge q hq
          show root (((L.drop (2 ^ j)).drop (q.1 - (p + 2 ^ j))).take q.2) = root ((L.drop (q.1 - p)).take q.2)
          rw [List.drop_drop, show 2 ^ j + (q.1 - (p + 2 ^ j)) = q.1 - p from by omega]
        rw [hmap] at ih
        cases l with
        | nil =>
          have e : p + 2 ^ j = p + n := hr
          omega
        | cons y l =>
          rw [List.map_cons, List.map_cons, fold, ← List.map_cons, ih, root_cut (l := L) (by omega), hn, hs]
          show nd (root ((L.drop (p - p)).take (2 ^ j))) _ = _
          rw [Nat.sub_self, List.drop_zero]
end Cut
end Go.Proofs.YtblmaokonhdjaaaGreatDoor

namespace Go.Proofs.YtblmaokonhdjaaaGreatDoor
namespace Cut
open Tree
theorem cov_pos : ∀ {l : List (Nat × Nat)} {a c : Nat}, Cov a c l → ∀ q ∈ l, 0 < q.2
  | [], _, _, _, q, hq => by cases hq
  | (p, n) :: l, a, c, h, q, hq => by
    rcases List.mem_cons.1 hq with rfl | hq
    · obtain ⟨k, hk⟩ := h.2.1
      have := two_pos k
      show 0 < n
      omega
    · exact cov_pos h.2.2.2 q hq
/-- at one place one subtree begins -/
theorem cov_begin : ∀ {l : List (Nat × Nat)} {a c p n m : Nat}, Cov a c l → (p, n) ∈ l → (p, m) ∈ l → n = m
  | [], _, _, _, _, _, _, h1, _ => by cases h1
  | (q, k) :: l, a, c, p, n, m, h, h1, h2 => by
    have hk : 0 < k := cov_pos h (q, k) List.mem_cons_self
    have hq := h.1
    rcases List.mem_cons.1 h1 with e1 | e1
    · rcases List.mem_cons.1 h2 with e2 | e2
      · rw [← e1] at e2
        injection e2 with _ e2
        exact e2.symm
      · have hg : a + k ≤ p := Cov.ge h.2.2.2 (p, m) e2
        injection e1 with e1 _
        omega
    · rcases List.mem_cons.1 h2 with e2 | e2
      · have hg : a + k ≤ p := Cov.ge h.2.2.2 (p, n) e1
        injection e2 with e2 _
        omega
      · exact cov_begin h.2.2.2 e1 e2
/-- F4: a subtree's hash, out of those that are known -/
inductive Der (K : List ((Nat × Nat) × T)) : Nat × Nat → T → Prop where
  | known {q : Nat × Nat} {x : T} : (q, x) ∈ K → Der K q x
  | node {p n : Nat} {x y : T} : Der K (p, n) x → Der K (p + n, n) y → (∀ z, ((p, 2 * n), z) ∉ K) → Der K (p, 2 * n) (nd x y)
theorem der_small {K : List ((Nat × Nat) × T)} {q : Nat × Nat} {x : T} (h : Der K q x) : ∃ m z, m ≤ q.2 ∧ ((q.1, m), z) ∈ K := by
  induction h with
  | known hm => exact ⟨_, _, Nat.le_refl _, hm⟩
  | @node p n x y h1 h2 hn ih1 ih2 =>
    obtain ⟨m, z, hm, hz⟩ := ih1
    exact ⟨m, z, by show m ≤ 2 * n; have : m ≤ n := hm; omega, hz⟩
def DerAll (K : List ((Nat × Nat) × T)) (l : List ((Nat × Nat) × T)) : Prop := ∀ q ∈ l, Der K q.1 q.2
theorem pushH_der {K : List ((Nat × Nat) × T)} {a c : Nat} (hK : Cov a c (K.map Prod.fst)) : ∀ (l : List ((Nat × Nat) × T)) (b n : Nat) (x : T), Cov a b (l.map Prod.fst).reverse → 0 < n → DerAll K l → Der K (b, n) x → DerAll K (pushH l b n x)
  | [], b, n, x, _, _, _, hx => fun q hq => by
    rw [pushH, List.mem_singleton] at hq
    subst hq
    exact hx
  | ((p, m), y) :: l, b, n, x, hc, hn, hA, hx => by
    rw [List.map_cons, List.reverse_cons] at hc
    obtain ⟨d, h1, h2⟩ := cov_append.1 hc
    obtain ⟨rfl, hm, hpm, he⟩ := h2
    have he : p + m = b := he
    have hy : Der K (p, m) y := hA ((p, m), y) List.mem_cons_self
    rw [pushH]
    split
    · rename_i e
      obtain ⟨e1, e2⟩ := e
      subst e1
      refine pushH_der hK l p (2 * m) (nd y x) h1 (by omega) (fun q hq => hA q (List.mem_cons_of_mem _ hq)) (Der.node hy (by rw [he]; exact hx) fun z hz => ?_)
      obtain ⟨m', z', hm', hz'⟩ := der_small hy
      have hm' : m' ≤ m := hm'
      have hbg : 2 * m = m' := cov_begin hK (List.mem_map_of_mem (f := Prod.fst) hz) (List.mem_map_of_mem (f := Prod.fst) hz')
      omega
    · intro q hq
      rcases List.mem_cons.1 hq with rfl | hq
      · exact hx
      · exact hA q hq
def pushAllH : List ((Nat × Nat) × T) → List ((Nat × Nat) × T) → List ((Nat × Nat) × T)
  | st, [] => st
  | st, ((b, n), x) :: l => pushAllH (pushH st b n x) l
theorem pushAllH_fst : ∀ (l st : List ((Nat × Nat) × T)), (pushAllH st l).map Prod.fst = pushAll (st.map Prod.fst) (l.map Prod.fst)
  | [], _ => rfl
  | ((b, n), x) :: l, st => by
    rw [pushAllH, pushAllH_fst l, pushH_fst, List.map_cons, pushAll]
theorem pushAllH_der {K : List ((Nat × Nat) × T)} {a c : Nat} (hK : Cov a c (K.map Prod.fst)) : ∀ (l st : List ((Nat × Nat) × T)) (b e : Nat), Cov a b (st.map Prod.fst).reverse → Cov b e (l.map Prod.fst) → DerAll K st → (∀ q ∈ l, q ∈ K) → DerAll K (pushAllH st l)
  | [], _, _, _, _, _, h, _ => h
  | ((p, n), x) :: l, st, b, e, h1, h2, h3, h4 => by
    obtain ⟨rfl, hp, hb, hc⟩ := h2
    have hn : 0 < n := by
      obtain ⟨k, hk⟩ := hp
      have := two_pos k
      omega
    refine pushAllH_der hK l _ (p + n) e ?_ hc (pushH_der hK st p n x h1 hn h3 (.known (h4 _ List.mem_cons_self))) (fun q hq => h4 q (List.mem_cons_of_mem _ hq))
    rw [pushH_fst]
    exact push_cov _ a p n h1 hp hb
/-- F6: of leaves each such hash is the definitions' -/
theorem der_nodes {K : List ((Nat × Nat) × T)} {h : Nat × Nat → T} {a c : Nat} (hN : Nodes h a c) (hA : All h K) {q : Nat × Nat} {x : T} (hd : Der K q x) (hq : a ≤ q.1 ∧ q.1 + q.2 ≤ c ∧ (∃ k, q.2 = 2 ^ k) ∧ q.1 % q.2 = 0) : x = h q := by
  induction hd with
  | known hm => exact hA _ hm
  | @node p n x y h1 h2 hn ih1 ih2 =>
    obtain ⟨q1, q2, ⟨k, q3⟩, q4⟩ := hq
    have q2 : p + 2 * n ≤ c := q2
    have q3 : 2 * n = 2 ^ k := q3
    have q4 : p % (2 * n) = 0 := q4
    have q1 : a ≤ p := q1
    cases k with
    | zero => have : (2 : Nat) ^ 0 = 1 := rfl; omega
    | succ k =>
      have e : 2 ^ (k + 1) = 2 * 2 ^ k := by rw [Nat.pow_succ, Nat.mul_comm]
      have hnk : n = 2 ^ k := by omega
      have hpn : p % n = 0 := Nat.mod_eq_zero_of_dvd (Nat.dvd_trans ⟨2, by rw [Nat.mul_comm]⟩ (Nat.dvd_of_mod_eq_zero q4))
      rw [hN p n q1 q2 ⟨k, hnk⟩ q4, ih1 ⟨q1, by show p + n ≤ c; omega, ⟨k, hnk⟩, hpn⟩, ih2 ⟨by show a ≤ p + n; omega, by show p + n + n ≤ c; omega, ⟨k, hnk⟩, by show (p + n) % n = 0; rw [Nat.add_mod_right]; exact hpn⟩]
end Cut
end Go.Proofs.YtblmaokonhdjaaaGreatDoor
