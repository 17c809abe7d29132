import Derived.Test.YthoakchdlidemaaDoorPkSH3
import Derived.Lib.TrailingZeros
import Derived.Test.YthoakchdlidemaaDoorPkO2
import Derived.Test.YthoakchdlidemaaDoorPkM3
import Derived.Laws.Bits64b
import Derived.WalkMore
import Derived.Test.YthoakchdlidemaaDoorPkO27
import Derived.Laws.ResultCell
namespace Go.Proofs.YthoakchdlidemaaDoor
namespace Cut
theorem cov_append : ∀ {l l' : List (Nat × Nat)} {a c : Nat}, Cov a c (l ++ l') ↔ ∃ b, Cov a b l ∧ Cov b c l'
  | [], l', a, c => ⟨fun h => ⟨a, rfl, h⟩, fun ⟨b, h1, h2⟩ => by have e : a = b := h1; subst e; exact h2⟩
  | (p, n) :: l, l', a, c => by
    refine ⟨fun h => ?_, fun ⟨b, h1, h2⟩ => ⟨h1.1, h1.2.1, h1.2.2.1, cov_append.2 ⟨b, h1.2.2.2, h2⟩⟩⟩
    obtain ⟨b, h1, h2⟩ := cov_append.1 h.2.2.2
    exact ⟨b, ⟨h.1, h.2.1, h.2.2.1, h1⟩, h2⟩
theorem free_left : ∀ {l l' : List (Nat × Nat)}, Free (l ++ l') → Free l
  | [], _, _ => trivial
  | [_], _, _ => trivial
  | _ :: y :: l, _, h => ⟨h.1, free_left (l := y :: l) h.2⟩
theorem free_snoc : ∀ {l : List (Nat × Nat)} {p m b n : Nat}, Free (l ++ [(p, m)]) → ¬ (m = n ∧ p % (2 * m) = 0) → Free (l ++ [(p, m)] ++ [(b, n)])
  | [], _, _, _, _, _, h2 => ⟨h2, trivial⟩
  | [_], _, _, _, _, h1, h2 => ⟨h1.1, h2, trivial⟩
  | _ :: y :: l, _, _, _, _, h1, h2 => ⟨h1.1, free_snoc (l := y :: l) h1.2 h2⟩
/-- what is pushed is a cut again -/
theorem push_cov : ∀ (l : List (Nat × Nat)) (a b n : Nat), Cov a b l.reverse → (∃ k, n = 2 ^ k) → b % n = 0 → Cov a (b + n) (push l b n).reverse
  | [], a, b, n, h, hp, hb => by
    have e : a = b := h
    subst e
    exact ⟨rfl, hp, hb, rfl⟩
  | (p, m) :: l, a, b, n, h, hp, hb => by
    rw [List.reverse_cons] at h
    obtain ⟨c, h1, h2⟩ := cov_append.1 h
    obtain ⟨rfl, hm, hpm, hc⟩ := h2
    have hc : p + m = b := hc
    rw [push]
    split
    · rename_i e
      obtain ⟨e1, e2⟩ := e
      subst e1
      obtain ⟨k, hk⟩ := hm
      have ih := push_cov l a p (2 * m) h1 ⟨k + 1, by rw [hk, Nat.pow_succ, Nat.mul_comm]⟩ e2
      rw [show b + m = p + 2 * m from by omega]
      exact ih
    · rw [List.reverse_cons, List.reverse_cons]
      exact cov_append.2 ⟨b, cov_append.2 ⟨p, h1, ⟨rfl, hm, hpm, hc⟩⟩, ⟨rfl, hp, hb, rfl⟩⟩
theorem push_free : ∀ (l : List (Nat × Nat)) (b n : Nat), Free l.reverse → Free (push l b n).reverse
  | [], b, n, _ => trivial
  | (p, m) :: l, b, n, h => by
    rw [push]
    rw [List.reverse_cons] at h
    split
    · exact push_free l p (2 * n) (free_left h)
    · rename_i e
      rw [List.reverse_cons, List.reverse_cons]
      exact free_snoc h fun hh => e ⟨hh.1, by rw [← hh.1]; exact hh.2⟩
/-- ADD AND JOIN: a complete subtree behind a cut -/
theorem push_cut {a b n : Nat} (h0 : b + n ≤ 1099511627776) (h1 : a ≤ b) (hp : ∃ k, n = 2 ^ k) (hb : b % n = 0) : (push (cut a b).reverse b n).reverse = cut a (b + n) := by
  refine cut_of h0 (push_cov _ a b n ?_ hp hb) (push_free _ b n ?_)
  · rw [List.reverse_reverse]; exact cut_cov (by omega) h1
  · rw [List.reverse_reverse]; exact cut_free (by omega)
theorem push_one {a b : Nat} (h0 : b + 1 ≤ 1099511627776) (h1 : a ≤ b) : (push (cut a b).reverse b 1).reverse = cut a (b + 1) := push_cut h0 h1 ⟨0, rfl⟩ (Nat.mod_one b)
/-- all subtrees of a cut, laid behind another one -/
def pushAll : List (Nat × Nat) → List (Nat × Nat) → List (Nat × Nat)
  | st, [] => st
  | st, (b, n) :: l => pushAll (push st b n) l
theorem pushAll_cov : ∀ (l st : List (Nat × Nat)) (a b c : Nat), Cov a b st.reverse → Cov b c l → Cov a c (pushAll st l).reverse
  | [], st, a, b, c, h, h' => by have e : b = c := h'; subst e; exact h
  | (p, n) :: l, st, a, b, c, h, h' => by
    obtain ⟨rfl, hp, hb, hc⟩ := h'
    exact pushAll_cov l _ a _ c (push_cov st a p n h hp hb) hc
theorem pushAll_free : ∀ (l st : List (Nat × Nat)), Free st.reverse → Free (pushAll st l).reverse
  | [], _, h => h
  | (p, n) :: l, st, h => pushAll_free l _ (push_free st p n h)
/-- two cuts that meet, joined, are the cut of both -/
theorem join_cut {a b c : Nat} (h0 : c ≤ 1099511627776) (h1 : a ≤ b) (h2 : b ≤ c) : (pushAll (cut a b).reverse (cut b c)).reverse = cut a c := by
  refine cut_of h0 (pushAll_cov _ _ a b c ?_ (cut_cov h0 h2)) (pushAll_free _ _ ?_)
  · rw [List.reverse_reverse]; exact cut_cov (by omega) h1
  · rw [List.reverse_reverse]; exact cut_free (by omega)
end Cut
end Go.Proofs.YthoakchdlidemaaDoor

namespace Go.Proofs.YthoakchdlidemaaDoor
namespace Cut
open Tree
/-- with their hashes -/
def pushH : List ((Nat × Nat) × T) → Nat → Nat → T → List ((Nat × Nat) × T)
  | [], b, n, x => [((b, n), x)]
  | ((p, m), y) :: l, b, n, x => if m = n ∧ p % (2 * n) = 0 then pushH l p (2 * n) (nd y x) else ((b, n), x) :: ((p, m), y) :: l
theorem pushH_fst : ∀ (l : List ((Nat × Nat) × T)) (b n : Nat) (x : T), (pushH l b n x).map Prod.fst = push (l.map Prod.fst) b n
  | [], _, _, _ => rfl
  | ((p, m), y) :: l, b, n, x => by
    rw [pushH, List.map_cons, push]
    split
    · exact pushH_fst l p (2 * n) (nd y x)
    · rfl
/-- each one has its hash -/
def All (h : Nat × Nat → T) (l : List ((Nat × Nat) × T)) : Prop := ∀ q ∈ l, q.2 = h q.1
/-- a subtree's hash is the node of its halves', within [a, c) -/
def Nodes (h : Nat × Nat → T) (a c : Nat) : Prop := ∀ p n, a ≤ p → p + 2 * n ≤ c → (∃ k, n = 2 ^ k) → p % (2 * n) = 0 → h (p, 2 * n) = nd (h (p, n)) (h (p + n, n))
theorem pushH_all {h : Nat × Nat → T} {a c : Nat} (hN : Nodes h a c) : ∀ (l : List ((Nat × Nat) × T)) (b n : Nat) (x : T), Cov a b (l.map Prod.fst).reverse → (∃ k, n = 2 ^ k) → b + n ≤ c → All h l → x = h (b, n) → All h (pushH l b n x)
  | [], b, n, x, _, _, _, _, hx => fun q hq => by
    rw [pushH, List.mem_singleton] at hq
    subst hq
    exact hx
  | ((p, m), y) :: l, b, n, x, hc, hp, hb, hA, hx => by
    rw [List.map_cons, List.reverse_cons] at hc
    obtain ⟨d, h1, h2⟩ := cov_append.1 hc
    obtain ⟨rfl, hm, hpm, he⟩ := h2
    have he : p + m = b := he
    have hy : y = h (p, m) := hA ((p, m), y) List.mem_cons_self
    rw [pushH]
    split
    · rename_i e
      obtain ⟨e1, e2⟩ := e
      subst e1
      obtain ⟨k, hk⟩ := hm
      refine pushH_all hN l p (2 * m) (nd y x) h1 ⟨k + 1, by rw [hk, Nat.pow_succ, Nat.mul_comm]⟩ (by omega) (fun q hq => hA q (List.mem_cons_of_mem _ hq)) ?_
      rw [hN p m h1.le (by omega) ⟨k, hk⟩ e2, hy, hx, he]
    · intro q hq
      rcases List.mem_cons.1 hq with rfl | hq
      · exact hx
      · exact hA q hq
/-- the hashes of a list that has them are those of its subtrees, in order -/
theorem All.snd : ∀ {h : Nat × Nat → T} {l : List ((Nat × Nat) × T)}, All h l → l.map Prod.snd = (l.map Prod.fst).map h
  | _, [], _ => rfl
  | h, q :: l, hA => by
    rw [List.map_cons, List.map_cons, List.map_cons, hA q List.mem_cons_self, All.snd (fun r hr => hA r (List.mem_cons_of_mem _ hr))]
/-- the hash of a subtree of leaves that begin at a -/
def lh (L : List T) (a : Nat) (q : Nat × Nat) : T := root ((L.drop (q.1 - a)).take q.2)
theorem lh_nodes (L : List T) (a : Nat) : Nodes (lh L a) a (a + L.length) := fun p n h1 h2 ⟨k, hk⟩ _ => by
  have hn := two_pos k
  have hl : ((L.drop (p - a)).take (2 * n)).length = 2 * n := by rw [List.length_take, List.length_drop]; omega
  have hs : sp (2 * n) = n := by
    rw [hk]
    exact sp_one (by omega) k (by omega) (by omega)
  show root ((L.drop (p - a)).take (2 * n)) = nd (root ((L.drop (p - a)).take n)) (root ((L.drop (p + n - a)).take n))
  rw [root_cut (by rw [hl]; omega), hl, hs, List.take_take, List.drop_take, List.drop_drop, show min n (2 * n) = n from by omega, show 2 * n - n = n from by omega, show p - a + n = p + n - a from by omega]
/-- from behind: F2 -/
def fold : List T → T
  | [] => Sha.sha []
  | [x] => x
  | x :: y :: l => nd x (fold (y :: l))
theorem Cov.ge : ∀ {l : List (Nat × Nat)} {a b : Nat}, Cov a b l → ∀ q ∈ l, a ≤ q.1
  | [], _, _, _, q, hq => by cases hq
  | (p, n) :: l, a, b, h, q, hq => by
    rcases List.mem_cons.1 hq with rfl | hq
    · exact Nat.le_of_eq h.1.symm
    · have := Cov.ge h.2.2.2 q hq
      omega
/-- THE EDGE'S ROOT is the definitions' -/
theorem fold_root : ∀ (f : Nat) (L : List T) (b K : Nat), L.length ≤ f → 1 ≤ L.length → b % 2 ^ K = 0 → L.length ≤ 2 ^ K → b + L.length ≤ 1099511627776 → fold ((cut b (b + L.length)).map (lh L b)) = root L
  | 0, L, b, K, h0, h1, _, _, _ => by omega
  | f + 1, L, b, K, h0, h1, h2, h3, h4 => by
    obtain ⟨n, hn⟩ : ∃ n, L.length = n := ⟨_, rfl⟩
    rw [hn] at h0 h1 h3 h4 ⊢
    have hc := cut_cov (b := b) (e := b + n) h4 (by omega)
    have hf := cut_free (b := b) (e := b + n) h4
    have hj1 := Nat.log2_self_le (n := n) (by omega)
    have hj2 := Nat.lt_log2_self (n := n)
    obtain ⟨j, hj⟩ : ∃ j, n.log2 = j := ⟨_, rfl⟩
    rw [hj] at hj1 hj2
    have hj3 : 2 ^ (j + 1) = 2 * 2 ^ j := by rw [Nat.pow_succ, Nat.mul_comm]
    have hjp := two_pos j
    have hjK : j ≤ K := by
      rcases Nat.lt_or_ge K j with hlt | hge
      · have : 2 ^ (K + 1) ≤ 2 ^ j := Nat.pow_le_pow_right (by omega) hlt
        have e : 2 ^ (K + 1) = 2 * 2 ^ K := by rw [Nat.pow_succ, Nat.mul_comm]
        have := two_pos K
        omega
      · exact hge
    have hbj : b % 2 ^ j = 0 := Nat.mod_eq_zero_of_dvd (Nat.dvd_trans (Nat.pow_dvd_pow 2 hjK) (Nat.dvd_of_mod_eq_zero h2))
    cases hl : cut b (b + n) with
    | nil =>
      rw [hl] at hc
      have e : b = b + n := hc
      omega
    | cons y l =>
      obtain ⟨p, m⟩ := y
      rw [hl] at hc hf
      have hc0 := hc
      obtain ⟨rfl, ⟨i, hi⟩, hm, hr⟩ := hc
      have hle := hr.le
      have hmj : m ≤ 2 ^ j := by
        rcases Nat.lt_or_ge j i with hlt | hge
        · have : 2 ^ (j + 1) ≤ 2 ^ i := Nat.pow_le_pow_right (by omega) hlt
          omega
        · rw [hi]; exact Nat.pow_le_pow_right (by omega) hge
      have hmm := first j p (p + n) m l hbj (by omega) hc0 hf hmj
      subst hmm
      have hrest : l = cut (p + 2 ^ j) (p + n) := cut_of h4 hr hf.tail
      by_cases he : 2 ^ j = n
      · have hnil : l = [] := by
          cases l with
          | nil => rfl
          | cons y l =>
            obtain ⟨q, m⟩ := y
            obtain ⟨_, ⟨i', hi'⟩, _, hr'⟩ := hr
            have := hr'.le
            have := two_pos i'
            omega
        rw [hnil]
        show root ((L.drop (p - p)).take (2 ^ j)) = root L
        rw [Nat.sub_self, List.drop_zero, List.take_of_length_le (by omega)]
      · have hs : sp n = 2 ^ j := sp_one (by omega) j (by omega) (by omega)
        have hLd : (L.drop (2 ^ j)).length = n - 2 ^ j := by rw [List.length_drop, hn]
        have ih := fold_root f (L.drop (2 ^ j)) (p + 2 ^ j) j (by omega) (by omega) (by rw [Nat.add_mod_right]; exact hbj) (by omega) (by omega)
        rw [hLd, show p + 2 ^ j + (n - 2 ^ j) = p + n from by omega, ← hrest] at ih
        have hmap : l.map (lh (L.drop (2 ^ j)) (p + 2 ^ j)) = l.map (lh L p) := List.map_congr_left fun q hq => by
          have := hr.ge q hq
          show root (((L.drop (2 ^ j)).drop (q.1 - (p + 2 ^ j))).take q.2) = root ((L.drop (q.1 - p)).take q.2)
          rw [List.drop_drop, show 2 ^ j + (q.1 - (p + 2 ^ j)) = q.1 - p from by omega]
        rw [hmap] at ih
        cases l with
        | nil =>
          have e : p + 2 ^ j = p + n := hr
          omega
        | cons y l =>
          rw [List.map_cons, List.map_cons, fold, ← List.map_cons, ih, root_cut (l := L) (by omega), hn, hs]
          show nd (root ((L.drop (p - p)).take (2 ^ j))) _ = _
          rw [Nat.sub_self, List.drop_zero]
end Cut
end Go.Proofs.YthoakchdlidemaaDoor

namespace Go.Proofs.YthoakchdlidemaaDoor
namespace Cut
open Tree
theorem cov_pos : ∀ {l : List (Nat × Nat)} {a c : Nat}, Cov a c l → ∀ q ∈ l, 0 < q.2
  | [], _, _, _, q, hq => by cases hq
  | (p, n) :: l, a, c, h, q, hq => by
    rcases List.mem_cons.1 hq with rfl | hq
    · obtain ⟨k, hk⟩ := h.2.1
      have := two_pos k
      show 0 < n
      omega
    · exact cov_pos h.2.2.2 q hq
/-- at one place one subtree begins -/
theorem cov_begin : ∀ {l : List (Nat × Nat)} {a c p n m : Nat}, Cov a c l → (p, n) ∈ l → (p, m) ∈ l → n = m
  | [], _, _, _, _, _, _, h1, _ => by cases h1
  | (q, k) :: l, a, c, p, n, m, h, h1, h2 => by
    have hk : 0 < k := cov_pos h (q, k) List.mem_cons_self
    have hq := h.1
    rcases List.mem_cons.1 h1 with e1 | e1
    · rcases List.mem_cons.1 h2 with e2 | e2
      · rw [← e1] at e2
        injection e2 with _ e2
        exact e2.symm
      · have hg : a + k ≤ p := Cov.ge h.2.2.2 (p, m) e2
        injection e1 with e1 _
        omega
    · rcases List.mem_cons.1 h2 with e2 | e2
      · have hg : a + k ≤ p := Cov.ge h.2.2.2 (p, n) e1
        injection e2 with e2 _
        omega
      · exact cov_begin h.2.2.2 e1 e2
/-- F4: a subtree's hash, out of those that are known -/
inductive Der (K : List ((Nat × Nat) × T)) : Nat × Nat → T → Prop where
  | known {q : Nat × Nat} {x : T} : (q, x) ∈ K → Der K q x
  | node {p n : Nat} {x y : T} : Der K (p, n) x → Der K (p + n, n) y → (∀ z, ((p, 2 * n), z) ∉ K) → Der K (p, 2 * n) (nd x y)
theorem der_small {K : List ((Nat × Nat) × T)} {q : Nat × Nat} {x : T} (h : Der K q x) : ∃ m z, m ≤ q.2 ∧ ((q.1, m), z) ∈ K := by
  induction h with
  | known hm => exact ⟨_, _, Nat.le_refl _, hm⟩
  | @node p n x y h1 h2 hn ih1 ih2 =>
    obtain ⟨m, z, hm, hz⟩ := ih1
    exact ⟨m, z, by show m ≤ 2 * n; have : m ≤ n := hm; omega, hz⟩
def DerAll (K : List ((Nat × Nat) × T)) (l : List ((Nat × Nat) × T)) : Prop := ∀ q ∈ l, Der K q.1 q.2
theorem pushH_der {K : List ((Nat × Nat) × T)} {a c : Nat} (hK : Cov a c (K.map Prod.fst)) : ∀ (l : List ((Nat × Nat) × T)) (b n : Nat) (x : T), Cov a b (l.map Prod.fst).reverse → 0 < n → DerAll K l → Der K (b, n) x → DerAll K (pushH l b n x)
  | [], b, n, x, _, _, _, hx => fun q hq => by
    rw [pushH, List.mem_singleton] at hq
    subst hq
    exact hx
  | ((p, m), y) :: l, b, n, x, hc, hn, hA, hx => by
    rw [List.map_cons, List.reverse_cons] at hc
    obtain ⟨d, h1, h2⟩ := cov_append.1 hc
    obtain ⟨rfl, hm, hpm, he⟩ := h2
    have he : p + m = b := he
    have hy : Der K (p, m) y := hA ((p, m), y) List.mem_cons_self
    rw [pushH]
    split
    · rename_i e
      obtain ⟨e1, e2⟩ := e
      subst e1
      refine pushH_der hK l p (2 * m) (nd y x) h1 (by omega) (fun q hq => hA q (List.mem_cons_of_mem _ hq)) (Der.node hy (by rw [he]; exact hx) fun z hz => ?_)
      obtain ⟨m', z', hm', hz'⟩ := der_small hy
      have hm' : m' ≤ m := hm'
      have hbg : 2 * m = m' := cov_begin hK (List.mem_map_of_mem (f := Prod.fst) hz) (List.mem_map_of_mem (f := Prod.fst) hz')
      omega
    · intro q hq
      rcases List.mem_cons.1 hq with rfl | hq
      · exact hx
      · exact hA q hq
def pushAllH : List ((Nat × Nat) × T) → List ((Nat × Nat) × T) → List ((Nat × Nat) × T)
  | st, [] => st
  | st, ((b, n), x) :: l => pushAllH (pushH st b n x) l
theorem pushAllH_fst : ∀ (l st : List ((Nat × Nat) × T)), (pushAllH st l).map Prod.fst = pushAll (st.map Prod.fst) (l.map Prod.fst)
  | [], _ => rfl
  | ((b, n), x) :: l, st => by
    rw [pushAllH, pushAllH_fst l, pushH_fst, List.map_cons, pushAll]
theorem pushAllH_der {K : List ((Nat × Nat) × T)} {a c : Nat} (hK : Cov a c (K.map Prod.fst)) : ∀ (l st : List ((Nat × Nat) × T)) (b e : Nat), Cov a b (st.map Prod.fst).reverse → Cov b e (l.map Prod.fst) → DerAll K st → (∀ q ∈ l, q ∈ K) → DerAll K (pushAllH st l)
  | [], _, _, _, _, _, h, _ => h
  | ((p, n), x) :: l, st, b, e, h1, h2, h3, h4 => by
    obtain ⟨rfl, hp, hb, hc⟩ := h2
    have hn : 0 < n := by
      obtain ⟨k, hk⟩ := hp
      have := two_pos k
      omega
    refine pushAllH_der hK l _ (p + n) e ?_ hc (pushH_der hK st p n x h1 hn h3 (.known (h4 _ List.mem_cons_self))) (fun q hq => h4 q (List.mem_cons_of_mem _ hq))
    rw [pushH_fst]
    exact push_cov _ a p n h1 hp hb
/-- F6: of leaves each such hash is the definitions' -/
theorem der_nodes {K : List ((Nat × Nat) × T)} {h : Nat × Nat → T} {a c : Nat} (hN : Nodes h a c) (hA : All h K) {q : Nat × Nat} {x : T} (hd : Der K q x) (hq : a ≤ q.1 ∧ q.1 + q.2 ≤ c ∧ (∃ k, q.2 = 2 ^ k) ∧ q.1 % q.2 = 0) : x = h q := by
  induction hd with
  | known hm => exact hA _ hm
  | @node p n x y h1 h2 hn ih1 ih2 =>
    obtain ⟨q1, q2, ⟨k, q3⟩, q4⟩ := hq
    have q2 : p + 2 * n ≤ c := q2
    have q3 : 2 * n = 2 ^ k := q3
    have q4 : p % (2 * n) = 0 := q4
    have q1 : a ≤ p := q1
    cases k with
    | zero => have : (2 : Nat) ^ 0 = 1 := rfl; omega
    | succ k =>
      have e : 2 ^ (k + 1) = 2 * 2 ^ k := by rw [Nat.pow_succ, Nat.mul_comm]
      have hnk : n = 2 ^ k := by omega
      have hpn : p % n = 0 := Nat.mod_eq_zero_of_dvd (Nat.dvd_trans ⟨2, by rw [Nat.mul_comm]⟩ (Nat.dvd_of_mod_eq_zero q4))
      rw [hN p n q1 q2 ⟨k, hnk⟩ q4, ih1 ⟨q1, by show p + n ≤ c; omega, ⟨k, hnk⟩, hpn⟩, ih2 ⟨by show a ≤ p + n; omega, by show p + n + n ≤ c; omega, ⟨k, hnk⟩, by show (p + n) % n = 0; rw [Nat.add_mod_right]; exact hpn⟩]
end Cut
end Go.Proofs.YthoakchdlidemaaDoor

namespace Go.Proofs.YthoakchdlidemaaDoor
namespace Cut
open Tree
theorem cut_nil (b : Nat) : cut b b = [] := by unfold cut; rw [Nat.sub_self]; rfl
theorem grow_facts {b e : Nat} (h0 : e ≤ 1099511627776) (h : b < e) : (∃ k, grow 40 1 b e = 2 ^ k) ∧ b % grow 40 1 b e = 0 ∧ b + grow 40 1 b e ≤ e ∧ 1 ≤ grow 40 1 b e ∧ ¬ (b % (2 * grow 40 1 b e) = 0 ∧ b + 2 * grow 40 1 b e ≤ e) :=
  grow_spec 40 1 b e ⟨0, rfl⟩ (Nat.mod_one b) (by omega) (by rw [Nat.one_mul]; exact Nat.lt_of_le_of_lt h0 (by decide))
theorem cut_cons {b e : Nat} (h0 : e ≤ 1099511627776) (h : b < e) : cut b e = (b, grow 40 1 b e) :: cut (b + grow 40 1 b e) e := by
  obtain ⟨_, _, a3, a4, _⟩ := grow_facts h0 h
  obtain ⟨f, hf⟩ : ∃ f, e - b = f + 1 := ⟨e - b - 1, by omega⟩
  have e1 : cut b e = (b, grow 40 1 b e) :: cutF f (b + grow 40 1 b e) e := by unfold cut; rw [hf, cutF, if_pos h]
  rw [e1, ← cut_of h0 (cutF_cov f (b + grow 40 1 b e) e h0 a3 (by omega)) (cutF_free f _ e h0)]
theorem mod_of_le {b i j : Nat} (hij : i ≤ j) (h : b % 2 ^ j = 0) : b % 2 ^ i = 0 := Nat.mod_eq_zero_of_dvd (Nat.dvd_trans (Nat.pow_dvd_pow 2 hij) (Nat.dvd_of_mod_eq_zero h))
theorem pow_double (k : Nat) : 2 ^ (k + 1) = 2 * 2 ^ k := by rw [Nat.pow_succ, Nat.mul_comm]
/-- one number alone is so -/
theorem grow_one {b e k : Nat} (h0 : e ≤ 1099511627776) (h : b < e) (h1 : b % 2 ^ k = 0) (h2 : b + 2 ^ k ≤ e) (h3 : ¬ (b % (2 * 2 ^ k) = 0 ∧ b + 2 * 2 ^ k ≤ e)) : grow 40 1 b e = 2 ^ k := by
  obtain ⟨⟨j, hj⟩, a2, a3, _, a5⟩ := grow_facts h0 h
  rw [hj] at a2 a3 a5 ⊢
  rcases Nat.lt_trichotomy j k with hlt | rfl | hlt
  · exact absurd ⟨by rw [← pow_double]; exact mod_of_le hlt h1, by rw [← pow_double]; have := Nat.pow_le_pow_right (n := 2) (by omega) hlt; omega⟩ a5
  · rfl
  · exact absurd ⟨by rw [← pow_double]; exact mod_of_le hlt a2, by rw [← pow_double]; have := Nat.pow_le_pow_right (n := 2) (by omega) hlt; omega⟩ h3
/-- the level of the first subtree, by digits -/
def lev (b e : Nat) : Nat := min (e - b).log2 (Go.Lib.ctz 64 b)
theorem lev_grow {b e : Nat} (h0 : e ≤ 1099511627776) (h : b < e) : grow 40 1 b e = 2 ^ lev b e := by
  have l1 := Nat.log2_self_le (n := e - b) (by omega)
  have l2 := Nat.lt_log2_self (n := e - b)
  rw [pow_double] at l2
  unfold lev
  generalize (e - b).log2 = L at *
  by_cases hb : b = 0
  · subst hb
    have e1 : Go.Lib.ctz 64 0 = 64 := rfl
    have hL : L ≤ 40 := by
      rcases Nat.lt_or_ge 40 L with hlt | hge
      · have := Nat.pow_le_pow_right (n := 2) (by omega) hlt
        have : (2 : Nat) ^ (40 + 1) = 2199023255552 := by decide
        omega
      · exact hge
    rw [e1, Nat.min_eq_left (by omega)]
    exact grow_one h0 h (Nat.zero_mod _) (by omega) (fun hh => by omega)
  · have e1 : Go.Lib.ctz 64 b = Go.Lib.ctzFrom 64 b := by unfold Go.Lib.ctz; rw [if_neg hb]
    obtain ⟨m, hm, hc⟩ := Go.Lib.ctzFrom_spec 64 b (by omega) (Nat.lt_of_lt_of_le h (Nat.le_trans h0 (by decide)))
    rw [e1]
    generalize Go.Lib.ctzFrom 64 b = c at *
    have hbc : b % 2 ^ c = 0 := by rw [hm]; exact Nat.mul_mod_right _ _
    rcases Nat.le_total L c with hle | hle
    · rw [Nat.min_eq_left hle]
      exact grow_one h0 h (mod_of_le hle hbc) (by omega) (fun hh => by omega)
    · rw [Nat.min_eq_right hle]
      have := Nat.pow_le_pow_right (n := 2) (by omega) hle
      refine grow_one h0 h hbc (by omega) (fun hh => ?_)
      have h5 := hh.1
      have hd := Nat.dvd_of_mod_eq_zero h5
      rw [hm, Nat.mul_comm 2] at hd
      have := Nat.dvd_of_mul_dvd_mul_left (two_pos c) hd
      omega
theorem lev_le {b e : Nat} (h0 : e ≤ 1099511627776) (h : b < e) : lev b e ≤ 40 := by
  obtain ⟨_, _, a3, _, _⟩ := grow_facts h0 h
  rw [lev_grow h0 h] at a3
  rcases Nat.lt_or_ge 40 (lev b e) with hlt | hge
  · have := Nat.pow_le_pow_right (n := 2) (by omega) hlt
    have : (2 : Nat) ^ (40 + 1) = 2199023255552 := by decide
    omega
  · exact hge
/-- a right part whose left part lies within: that one is the last of the cut -/
theorem cut_snoc {a b k : Nat} (h0 : b ≤ 1099511627776) (h1 : b % 2 ^ k = 0) (h2 : b / 2 ^ k % 2 = 1) (h3 : a + 2 ^ k ≤ b) : cut a b = cut a (b - 2 ^ k) ++ [(b - 2 ^ k, 2 ^ k)] := by
  have hk := two_pos k
  obtain ⟨q, hq⟩ := Nat.dvd_of_mod_eq_zero h1
  have hq2 : q % 2 = 1 := by rw [hq, Nat.mul_div_cancel_left _ hk] at h2; exact h2
  have hp2 : (b - 2 ^ k) % (2 * 2 ^ k) = 0 := by
    apply Nat.mod_eq_zero_of_dvd
    refine ⟨q / 2, ?_⟩
    rw [hq, Nat.mul_comm 2, Nat.mul_assoc, show 2 * (q / 2) = q - 1 from by omega, Nat.mul_sub, Nat.mul_one]
  have hp : (b - 2 ^ k) % 2 ^ k = 0 := by
    have := mod_of_le (Nat.le_succ k) (by rw [pow_double]; exact hp2)
    exact this
  have h := push_cut (a := a) (b := b - 2 ^ k) (n := 2 ^ k) (by omega) (by omega) ⟨k, rfl⟩ hp
  rw [show b - 2 ^ k + 2 ^ k = b from by omega] at h
  have hc := cut_cov (b := a) (e := b - 2 ^ k) (by omega) (by omega)
  rw [← h]
  have hpush : push (cut a (b - 2 ^ k)).reverse (b - 2 ^ k) (2 ^ k) = (b - 2 ^ k, 2 ^ k) :: (cut a (b - 2 ^ k)).reverse := by
    cases hl : (cut a (b - 2 ^ k)).reverse with
    | nil => rfl
    | cons y l =>
      obtain ⟨p, m⟩ := y
      rw [push, if_neg]
      rintro ⟨e1, e2⟩
      rw [show cut a (b - 2 ^ k) = l.reverse ++ [(p, m)] from by rw [← List.reverse_reverse (cut a (b - 2 ^ k)), hl, List.reverse_cons]] at hc
      obtain ⟨c, _, h5⟩ := cov_append.1 hc
      obtain ⟨rfl, _, _, h6⟩ := h5
      have h6 : p + m = b - 2 ^ k := h6
      rw [e1] at h6
      rw [← h6] at hp2
      have := (Nat.dvd_add_right (Nat.dvd_of_mod_eq_zero e2)).1 (Nat.dvd_of_mod_eq_zero hp2)
      have := Nat.le_of_dvd hk this
      omega
  rw [hpush, List.reverse_cons, List.reverse_reverse]
/-- the hashes of a cut's subtrees, with one more laid behind -/
def takeH (a b n : Nat) (x : T) (H : List T) : List T := ((pushH ((cut a b).zip H).reverse b n x).reverse).map Prod.snd
theorem zip_fst {α β : Type} : ∀ (l : List α) (m : List β), l.length = m.length → (l.zip m).map Prod.fst = l
  | [], _, _ => by simp
  | _ :: _, [], h => by simp at h
  | a :: l, b :: m, h => by rw [List.zip_cons_cons, List.map_cons, zip_fst l m (by simpa using h)]
theorem zip_snd {α β : Type} : ∀ (l : List α) (m : List β), l.length = m.length → (l.zip m).map Prod.snd = m
  | [], [], _ => rfl
  | [], _ :: _, h => by simp at h
  | _ :: _, [], h => by simp at h
  | a :: l, b :: m, h => by rw [List.zip_cons_cons, List.map_cons, zip_snd l m (by simpa using h)]
theorem pushH_cut {a b n : Nat} {x : T} {H : List T} (h0 : b + n ≤ 1099511627776) (h1 : a ≤ b) (hp : ∃ k, n = 2 ^ k) (hb : b % n = 0) (hl : H.length = (cut a b).length) : (pushH ((cut a b).zip H).reverse b n x).reverse.map Prod.fst = cut a (b + n) := by
  rw [List.map_reverse, pushH_fst, List.map_reverse, zip_fst _ _ hl.symm]
  exact push_cut h0 h1 hp hb
theorem takeH_zip {a b n : Nat} {x : T} {H : List T} (h0 : b + n ≤ 1099511627776) (h1 : a ≤ b) (hp : ∃ k, n = 2 ^ k) (hb : b % n = 0) (hl : H.length = (cut a b).length) : (cut a (b + n)).zip (takeH a b n x H) = (pushH ((cut a b).zip H).reverse b n x).reverse := by
  rw [← pushH_cut (x := x) h0 h1 hp hb hl, takeH]
  generalize (pushH ((cut a b).zip H).reverse b n x).reverse = l
  induction l with
  | nil => rfl
  | cons y l ih => rw [List.map_cons, List.map_cons, List.zip_cons_cons, ih]
theorem takeH_length {a b n : Nat} {x : T} {H : List T} (h0 : b + n ≤ 1099511627776) (h1 : a ≤ b) (hp : ∃ k, n = 2 ^ k) (hb : b % n = 0) (hl : H.length = (cut a b).length) : (takeH a b n x H).length = (cut a (b + n)).length := by
  rw [← pushH_cut (x := x) h0 h1 hp hb hl, takeH, List.length_map, List.length_map]
/-- F2, F4: halves become one -/
theorem takeH_up {a b k : Nat} {x y : T} {H : List T} (h0 : b ≤ 1099511627776) (h1 : b % 2 ^ k = 0) (h2 : b / 2 ^ k % 2 = 1) (h3 : a + 2 ^ k ≤ b) (hl : (H ++ [y]).length = (cut a b).length) : takeH a b (2 ^ k) x (H ++ [y]) = takeH a (b - 2 ^ k) (2 * 2 ^ k) (nd y x) H ∧ H.length = (cut a (b - 2 ^ k)).length := by
  have hs := cut_snoc h0 h1 h2 h3
  have hl2 : H.length = (cut a (b - 2 ^ k)).length := by rw [hs] at hl; simpa using hl
  refine ⟨?_, hl2⟩
  have hk := two_pos k
  have hp2 : (b - 2 ^ k) % (2 * 2 ^ k) = 0 := by
    obtain ⟨q, hq⟩ := Nat.dvd_of_mod_eq_zero h1
    have hq2 : q % 2 = 1 := by rw [hq, Nat.mul_div_cancel_left _ hk] at h2; exact h2
    apply Nat.mod_eq_zero_of_dvd
    refine ⟨q / 2, ?_⟩
    rw [hq, Nat.mul_comm 2, Nat.mul_assoc, show 2 * (q / 2) = q - 1 from by omega, Nat.mul_sub, Nat.mul_one]
  unfold takeH
  rw [hs, List.zip_append hl2.symm, List.reverse_append]
  show List.map Prod.snd (List.reverse (pushH (((b - 2 ^ k, 2 ^ k), y) :: ((cut a (b - 2 ^ k)).zip H).reverse) b (2 ^ k) x)) = _
  rw [pushH, if_pos ⟨rfl, hp2⟩]
/-- else it is laid behind -/
theorem takeH_end {a b k : Nat} {x : T} {H : List T} (h0 : b ≤ 1099511627776) (h1 : a ≤ b) (h2 : ¬ (b / 2 ^ k % 2 = 1 ∧ a + 2 ^ k ≤ b)) (hl : H.length = (cut a b).length) : takeH a b (2 ^ k) x H = H ++ [x] := by
  have hk := two_pos k
  have hc := cut_cov (b := a) (e := b) h0 h1
  have hpush : pushH ((cut a b).zip H).reverse b (2 ^ k) x = ((b, 2 ^ k), x) :: ((cut a b).zip H).reverse := by
    cases hz : ((cut a b).zip H).reverse with
    | nil => rfl
    | cons y l =>
      obtain ⟨⟨p, m⟩, y⟩ := y
      rw [pushH, if_neg]
      rintro ⟨e1, e2⟩
      have e3 : cut a b = (l.reverse ++ [((p, m), y)]).map Prod.fst := by
        rw [← List.reverse_cons, ← hz, List.reverse_reverse, zip_fst _ _ hl.symm]
      rw [e3, List.map_append] at hc
      obtain ⟨c, h4, h5⟩ := cov_append.1 hc
      obtain ⟨rfl, _, _, h6⟩ := h5
      have h6 : p + m = b := h6
      have := h4.le
      apply h2
      refine ⟨?_, by omega⟩
      obtain ⟨q, hq⟩ := Nat.dvd_of_mod_eq_zero e2
      rw [← h6, e1, hq, Nat.mul_comm 2, Nat.mul_assoc]
      rw [show 2 ^ k * (2 * q) + 2 ^ k = 2 ^ k * (2 * q + 1) from by rw [Nat.mul_add, Nat.mul_one], Nat.mul_div_cancel_left _ hk]
      omega
  unfold takeH
  rw [hpush, List.reverse_cons, List.reverse_reverse, List.map_append, zip_snd _ _ hl.symm]
  rfl
/-- F3: the hashes of a range of leaves -/
def cmp (L : List T) (a : Nat) : List T := (cut a (a + L.length)).map (lh L a)
theorem cmp_length (L : List T) (a : Nat) : (cmp L a).length = (cut a (a + L.length)).length := List.length_map _
theorem zip_map {α β : Type} (f : α → β) : ∀ (l : List α), l.zip (l.map f) = l.map fun q => (q, f q)
  | [] => rfl
  | a :: l => by rw [List.map_cons, List.zip_cons_cons, zip_map f l, List.map_cons]
theorem all_map {h : Nat × Nat → T} (l : List (Nat × Nat)) : All h (l.map fun q => (q, h q)) := fun q hq => by
  obtain ⟨p, _, rfl⟩ := List.mem_map.1 hq
  rfl
theorem Cov.within : ∀ {l : List (Nat × Nat)} {a b : Nat}, Cov a b l → ∀ q ∈ l, q.1 + q.2 ≤ b
  | [], _, _, _, q, hq => by cases hq
  | (p, n) :: l, a, b, h, q, hq => by
    rcases List.mem_cons.1 hq with rfl | hq
    · have := h.2.2.2.le
      have := h.1
      show p + n ≤ b
      omega
    · exact Cov.within h.2.2.2 q hq
theorem lh_append {L M : List T} {a : Nat} {q : Nat × Nat} (h : q.1 + q.2 ≤ a + L.length) (h1 : a ≤ q.1) : lh (L ++ M) a q = lh L a q := by
  unfold lh
  rw [List.drop_append_of_le_length (by omega), List.take_append_of_le_length (by rw [List.length_drop]; omega)]
theorem cmp_lh {L M : List T} {a : Nat} (h0 : a + L.length ≤ 1099511627776) : cmp L a = (cut a (a + L.length)).map (lh (L ++ M) a) :=
  List.map_congr_left fun q hq => (lh_append ((cut_cov h0 (by omega)).within q hq) ((cut_cov h0 (by omega)).ge q hq)).symm
theorem lh_one (L M : List T) (a : Nat) (x : T) : lh (L ++ x :: M) a (a + L.length, 1) = x := by
  unfold lh
  rw [show a + L.length - a = L.length from by omega, List.drop_left]
  rfl
/-- F2, F3: one more leaf -/
theorem cmp_snoc {L : List T} {a : Nat} {x : T} (h0 : a + L.length + 1 ≤ 1099511627776) : takeH a (a + L.length) 1 x (cmp L a) = cmp (L ++ [x]) a := by
  have hl : (cmp L a).length = (cut a (a + L.length)).length := cmp_length L a
  have hz := takeH_zip (a := a) (b := a + L.length) (n := 1) (x := x) (H := cmp L a) h0 (by omega) ⟨0, rfl⟩ (Nat.mod_one _) hl
  have hA : All (lh (L ++ [x]) a) (pushH ((cut a (a + L.length)).zip (cmp L a)).reverse (a + L.length) 1 x) := by
    refine pushH_all (lh_nodes (L ++ [x]) a) _ _ _ _ ?_ ⟨0, rfl⟩ (by simp; omega) ?_ (lh_one L [] a x).symm
    · rw [List.map_reverse, List.reverse_reverse, zip_fst _ _ hl.symm]
      exact cut_cov (by omega) (by omega)
    · intro q hq
      rw [List.mem_reverse, cmp_lh (M := [x]) (by omega), zip_map] at hq
      exact all_map _ q hq
  have hr : All (lh (L ++ [x]) a) (pushH ((cut a (a + L.length)).zip (cmp L a)).reverse (a + L.length) 1 x).reverse := fun q hq => hA q (List.mem_reverse.1 hq)
  rw [takeH, hr.snd, pushH_cut h0 (by omega) ⟨0, rfl⟩ (Nat.mod_one _) hl, cmp, List.length_append, List.length_singleton, Nat.add_assoc]
theorem cmp_nil (a : Nat) : cmp [] a = [] := by rw [cmp, List.length_nil, Nat.add_zero, cut_nil]; rfl
/-- F4: the hashes of two ranges, joined -/
def joinH (a b c : Nat) (H G : List T) : List T := ((pushAllH ((cut a b).zip H).reverse ((cut b c).zip G)).reverse).map Prod.snd
/-- some of the second range's subtrees have been taken -/
theorem takeH_step {a c n : Nat} {H : List T} {x : T} {l : List ((Nat × Nat) × T)} (h0 : c + n ≤ 1099511627776) (h1 : a ≤ c) (hp : ∃ k, n = 2 ^ k) (hb : c % n = 0) (hl : H.length = (cut a c).length) :
    (pushAllH ((cut a c).zip H).reverse (((c, n), x) :: l)) = pushAllH ((cut a (c + n)).zip (takeH a c n x H)).reverse l := by
  rw [pushAllH, takeH_zip h0 h1 hp hb hl, List.reverse_reverse]
theorem pushAllH_all {h : Nat × Nat → T} {a c : Nat} (hN : Nodes h a c) : ∀ (l st : List ((Nat × Nat) × T)) (b : Nat), Cov a b (st.map Prod.fst).reverse → Cov b c (l.map Prod.fst) → All h st → All h l → All h (pushAllH st l)
  | [], _, _, _, _, h3, _ => h3
  | ((p, n), x) :: l, st, b, h1, h2, h3, h4 => by
    obtain ⟨rfl, hp, hb, hc⟩ := h2
    have hle := hc.le
    refine pushAllH_all hN l _ (p + n) ?_ hc (pushH_all hN st p n x h1 hp hle h3 (h4 _ List.mem_cons_self)) fun q hq => h4 q (List.mem_cons_of_mem _ hq)
    rw [pushH_fst]
    exact push_cov _ a p n h1 hp hb
theorem joinH_cut {a b c : Nat} {H G : List T} (h0 : c ≤ 1099511627776) (h1 : a ≤ b) (h2 : b ≤ c) (hH : H.length = (cut a b).length) (hG : G.length = (cut b c).length) : (pushAllH ((cut a b).zip H).reverse ((cut b c).zip G)).reverse.map Prod.fst = cut a c := by
  rw [List.map_reverse, pushAllH_fst, List.map_reverse, zip_fst _ _ hH.symm, zip_fst _ _ hG.symm]
  exact join_cut h0 h1 h2
theorem joinH_length {a b c : Nat} {H G : List T} (h0 : c ≤ 1099511627776) (h1 : a ≤ b) (h2 : b ≤ c) (hH : H.length = (cut a b).length) (hG : G.length = (cut b c).length) : (joinH a b c H G).length = (cut a c).length := by
  rw [← joinH_cut h0 h1 h2 hH hG, joinH, List.length_map, List.length_map]
/-- F6 -/
theorem cmp_join {L M : List T} {a : Nat} (h0 : a + L.length + M.length ≤ 1099511627776) : joinH a (a + L.length) (a + L.length + M.length) (cmp L a) (cmp M (a + L.length)) = cmp (L ++ M) a := by
  have hH := cmp_length L a
  have hG := cmp_length M (a + L.length)
  have e : cmp M (a + L.length) = (cut (a + L.length) (a + L.length + M.length)).map (lh (L ++ M) a) := List.map_congr_left fun q hq => by
    have := (cut_cov h0 (by omega)).ge q hq
    unfold lh
    rw [List.drop_append (l₁ := L), List.drop_eq_nil_of_le (show L.length ≤ q.1 - a from by omega), List.nil_append, show q.1 - (a + L.length) = q.1 - a - L.length from by omega]
  have hA : All (lh (L ++ M) a) (pushAllH ((cut a (a + L.length)).zip (cmp L a)).reverse ((cut (a + L.length) (a + L.length + M.length)).zip (cmp M (a + L.length)))) := by
    refine pushAllH_all (a := a) (c := a + L.length + M.length) ?_ _ _ (a + L.length) ?_ ?_ ?_ ?_
    · have := lh_nodes (L ++ M) a
      rwa [List.length_append, ← Nat.add_assoc] at this
    · rw [List.map_reverse, List.reverse_reverse, zip_fst _ _ hH.symm]
      exact cut_cov (by omega) (by omega)
    · rw [zip_fst _ _ hG.symm]
      exact cut_cov h0 (by omega)
    · intro q hq
      rw [List.mem_reverse, cmp_lh (M := M) (by omega), zip_map] at hq
      exact all_map _ q hq
    · rw [e, zip_map]
      exact all_map _
  have hr : All (lh (L ++ M) a) (pushAllH ((cut a (a + L.length)).zip (cmp L a)).reverse ((cut (a + L.length) (a + L.length + M.length)).zip (cmp M (a + L.length)))).reverse := fun q hq => hA q (List.mem_reverse.1 hq)
  rw [joinH, hr.snd, joinH_cut h0 (by omega) (by omega) hH hG, cmp, List.length_append, ← Nat.add_assoc]
/-- F6: the root of a range from 0 on -/
theorem cmp_root (L : List T) (h : L.length ≤ 1099511627776) : fold (cmp L 0) = root L := by
  by_cases h0 : L = []
  · subst h0; rw [cmp_nil, root_nil]; rfl
  · have := fold_root L.length L 0 41 (Nat.le_refl _) (List.length_pos_iff.2 h0) (Nat.zero_mod _) (Nat.le_trans h (by decide)) (by omega)
    exact this
/-- how many subtrees a cut has -/
theorem cov_len : ∀ {l : List (Nat × Nat)} {a b : Nat}, Cov a b l → l.length ≤ b - a
  | [], _, _, _ => Nat.zero_le _
  | (p, n) :: l, a, b, h => by
    have := cov_len h.2.2.2
    have := h.2.2.2.le
    obtain ⟨k, hk⟩ := h.2.1
    have := two_pos k
    simp only [List.length_cons]
    omega
end Cut
end Go.Proofs.YthoakchdlidemaaDoor

namespace Go.Proofs.YthoakchdlidemaaDoor
open Go.RowKit
/-- the library's table of places -/
def Tz (w : World) : Prop := ∀ j, j < 64 → w.cell? ⟨1, j, none⟩ = some (.int .u8 ((Lib.deBruijn64tab.getD j 0 : Nat) : Int))
/-- all tables that this layer reads -/
structure Tb (w : World) : Prop where
  t : Tabs w
  z : Tz w
theorem Tb.lt {w : World} (h : Tb w) : 4 ≤ w.heap.size := h.t.lt
theorem Tb.below {w w' : World} {B : Nat} (h : Tb w) (hb : Below B w w') (hB : 4 ≤ B) : Tb w' :=
  ⟨h.t.below hb hB, fun j hj => (hb.cell (p := ⟨1, j, none⟩) (Nat.lt_of_lt_of_le (by simp) hB)).trans (h.z j hj)⟩
set_option maxHeartbeats 1000000 in
theorem tz64_core (x k idx : Nat) (w : World) (hx0 : ((x : Int) == 0) = false)
    (key : IntKind.u64.wrap (bits BinOp.and IntKind.u64 (x : Int) (IntKind.u64.wrap (-(x : Int))) * 285870213051353865) / 288230376151711744 = (idx : Int))
    (hi : idx < 64) (hk : k < 64) (hcell : w.cell? ⟨1, idx, none⟩ = some (.int .u8 (k : Int))) :
    Calls Tryd.prog 77 #[.int .u64 x] w fun e w' => e = .returned (.int .i64 k) ∧ w' = w := by
  go_enter Tryd.func77, Tryd.ntmps77
  go_wp2_with (simp only [key])
  go_ret
  exact ⟨rfl, rfl⟩
theorem tz64_zero (w : World) : Calls Tryd.prog 77 #[.int .u64 0] w fun e w' => e = .returned (.int .i64 64) ∧ w' = w := by
  go_enter Tryd.func77, Tryd.ntmps77
  go_wp2
  go_ret
  exact ⟨rfl, rfl⟩
theorem tz64_key' (x a : Nat) (hx : x < 18446744073709551616) (hx0 : x ≠ 0) (hlow : x &&& (18446744073709551616 - x) = a) :
    IntKind.u64.wrap (bits BinOp.and IntKind.u64 (x : Int) (IntKind.u64.wrap (-(x : Int))) * 285870213051353865) / 288230376151711744 = ((a * 285870213051353865 % 18446744073709551616 / 288230376151711744 : Nat) : Int) := by
  have e1 : IntKind.u64.wrap (-(x : Int)) = ((18446744073709551616 - x : Nat) : Int) := by rw [IntKind.wrap_u64]; omega
  rw [e1, bits_and_u64_nat x _ hx (by omega), hlow, IntKind.wrap_u64]
  omega
theorem tz64_any (x : Nat) (hx : x < 18446744073709551616) (w : World) (Z : Tz w) :
    Calls Tryd.prog 77 #[.int .u64 x] w fun e w' => e = .returned (.int .i64 (Lib.ctz 64 x : Nat)) ∧ w' = w := by
  by_cases hx0 : x = 0
  · subst hx0
    exact tz64_zero w
  · obtain ⟨hlow, hk⟩ := Lib.lowest_bit 64 x hx0 hx
    obtain ⟨hi, htab⟩ := Lib.deBruijn64_at _ hk
    have hcell := Z _ hi
    rw [htab] at hcell
    exact tz64_core x _ _ w (by simp; omega) (tz64_key' x _ hx hx0 hlow) hi hk hcell
set_option maxHeartbeats 1000000 in
theorem tz_any (x : Nat) (hx : x < 18446744073709551616) (w : World) (Z : Tz w) :
    Calls Tryd.prog 59 #[.int .u64 x] w fun e w' => e = .returned (.int .i64 (Lib.ctz 64 x : Nat)) ∧ w' = w := by
  have c64 := tz64_any x hx w Z
  have hw : IntKind.u64.wrap (x : Int) = (x : Int) := by rw [IntKind.wrap_u64]; omega
  go_enter Tryd.func59, Tryd.ntmps59
  go_wp2_with (go_at_call 77; refine c64.mono ?_; rintro e w' ⟨rfl, rfl⟩)
  go_ret
  exact ⟨rfl, rfl⟩
theorem lenU_nat (x l : Nat) (h1 : 1 ≤ x) (hx : x < 18446744073709551616) (hl : x.log2 = l) (w : World) :
    Calls Tryd.prog 58 #[.int .u64 x] w fun e w' => e = .returned (.int .i64 ((l : Int) + 1)) ∧ w' = w := by
  have := lenU_any x (by omega) (by omega) w
  rw [Int.toNat_natCast, bitLen_log x x (Nat.le_refl _) h1 hx, hl] at this
  exact this
/-- a span among the values -/
abbrev spn (b e : Nat) : Value := .agg #[.int .i64 (b : Int), .int .i64 (e : Int)]
set_option maxRecDepth 100000 in
set_option maxHeartbeats 2000000 in
theorem firstLevel_any (b e : Nat) (h : b < e) (he : e ≤ 1099511627776) (w : World) (Z : Tb w) :
    Calls Tryd.prog 36 #[spn b e] w fun r w' => r = .returned (.int .i64 (Cut.lev b e : Nat)) ∧ Below w.heap.size w w' := by
  obtain ⟨l, hl⟩ : ∃ l, (e - b).log2 = l := ⟨_, rfl⟩
  obtain ⟨c, hc⟩ : ∃ c, Lib.ctz 64 b = c := ⟨_, rfl⟩
  have e0 : (e : Int) - (b : Int) = ((e - b : Nat) : Int) := by omega
  have h1 := lenU_nat (e - b) l (by omega) (by omega) hl
  have h2 := fun w1 (hb : Below w.heap.size w w1) => tz_any b (by omega) w1 (Z.below hb Z.lt).z
  rw [hc] at h2
  have hlev := hid (show Cut.lev b e = min l c by unfold Cut.lev; rw [hl, hc])
  have hl64 : l ≤ 64 := by
    rw [← hl]
    have := (Nat.log2_lt (n := e - b) (k := 64) (by omega)).2 (by omega)
    omega
  have hc64 : c ≤ 64 := by
    rw [← hc]
    unfold Lib.ctz
    split
    · omega
    · obtain ⟨_, _, _⟩ := Lib.ctzFrom_spec 64 b (by omega) (by omega)
      omega
  have hbx := (Below.refl w.heap.size w).alloc (Nat.le_refl _) (.cells #[Value.int .i64 (b : Int), Value.int .i64 (e : Int)] 29)
  have u1 : IntKind.u64.wrap ((e - b : Nat) : Int) = ((e - b : Nat) : Int) := by rw [IntKind.wrap_u64]; omega
  have u2 : IntKind.u64.wrap (b : Int) = (b : Int) := by rw [IntKind.wrap_u64]; omega
  generalize e - b = d at *
  clear hl hc
  go_enter Tryd.func36, Tryd.ntmps36
  go_wp2_with (first
    | (go_at_call 58; refine (h1 _).mono ?_; rintro r w1 ⟨rfl, rfl⟩)
    | (go_at_call 59; refine (h2 _ hbx).mono ?_; rintro r w2 ⟨rfl, rfl⟩))
  go_ret
  exact ⟨by rw [hlev.out]; refine congrArg Ending.returned (congrArg (Value.int IntKind.i64) ?_); omega, hbx⟩
end Go.Proofs.YthoakchdlidemaaDoor

namespace Go.Proofs.YthoakchdlidemaaDoor
open Go.RowKit
theorem sizeSp : (Tryd.prog.info? 29).map (·.size) = some 2 := by kernel_rfl
theorem sizeSp' (a b : Value) : (Tryd.prog.info? 29).map (·.size) = some #[a, b].size := sizeSp
/-- a span's variable -/
def Sp (w : World) (g b e : Nat) : Prop := w.heap[g]? = some (.cells #[.int .i64 (b : Int), .int .i64 (e : Int)] 29 (0, 0))
theorem Sp.row {w : World} {g b e : Nat} (h : Sp w g b e) : w.heap[g]? = some (.cells #[.int .i64 (b : Int), .int .i64 (e : Int)] 29 (0, 0)) := h
theorem Sp.c0 {w : World} {g b e : Nat} (h : Sp w g b e) : w.cell? ⟨g, 0, none⟩ = some (.int .i64 (b : Int)) := by rw [cell_of_row w g 0 _ _ _ h]; rfl
theorem Sp.c1 {w : World} {g b e : Nat} (h : Sp w g b e) : w.cell? ⟨g, 1, none⟩ = some (.int .i64 (e : Int)) := by rw [cell_of_row w g 1 _ _ _ h]; rfl
theorem Sp.below {w w' : World} {g b e : Nat} (h : Sp w g b e) (hb : Below w.heap.size w w') : Sp w' g b e := (hb.block g (lt_of_heap h)).trans h
theorem Sp.new (w : World) (b e : Nat) : Sp (w.alloc (.cells #[.int .i64 (b : Int), .int .i64 (e : Int)] 29)) w.heap.size b e := heap_alloc_new w _
theorem Sp.f0 {w : World} {g b e : Nat} (h : Sp w g b e) : w.frozen? ⟨g, 0, none⟩ = false := frozen_of_row _ _ _ _ _ h
theorem Sp.f1 {w : World} {g b e : Nat} (h : Sp w g b e) : w.frozen? ⟨g, 1, none⟩ = false := frozen_of_row _ _ _ _ _ h
theorem Sp.set0 {w : World} {g b e : Nat} (h : Sp w g b e) (b' : Nat) : Sp (w.setCell ⟨g, 0, none⟩ (.int .i64 (b' : Int))) g b' e := heap_setCell_same w g 0 _ _ _ h
theorem Sp.set1 {w : World} {g b e : Nat} (h : Sp w g b e) (e' : Nat) : Sp (w.setCell ⟨g, 1, none⟩ (.int .i64 (e' : Int))) g b e' := heap_setCell_same w g 1 _ _ _ h
/-- the number that lies there -/
def memN (w : World) (g i : Nat) : Nat := match w.cell? ⟨g, i, none⟩ with | some (.int _ n) => n.toNat | _ => 0
theorem Sp.n0 {w : World} {g b e : Nat} (h : Sp w g b e) : memN w g 0 = b := by unfold memN; rw [h.c0]; exact Int.toNat_natCast _
theorem Sp.n1 {w : World} {g b e : Nat} (h : Sp w g b e) : memN w g 1 = e := by unfold memN; rw [h.c1]; exact Int.toNat_natCast _
set_option maxRecDepth 100000 in
set_option maxHeartbeats 4000000 in
theorem cutLen_any (b e : Nat) (h : b ≤ e) (he : e ≤ 1099511627776) (w : World) (Z : Tb w) :
    Calls Tryd.prog 57 #[spn b e] w fun r w' => r = .returned (.int .i64 ((Cut.cut b e).length : Nat)) ∧ Below w.heap.size w w' := by
  obtain ⟨N, hN⟩ : ∃ N, Hid ((Cut.cut b e).length = N) := ⟨_, rfl⟩
  rw [hN.out]
  have HZ := hid Z
  have hZ := Z.lt
  have S0 := hid (Sp.new w b e)
  have B0 := hid ((Below.refl w.heap.size w).alloc (Nat.le_refl _) (.cells #[Value.int .i64 (b : Int), Value.int .i64 (e : Int)] 29))
  have hN40 : N ≤ 1099511627776 := by
    rw [← hN.out]
    have := Cut.cov_len (Cut.cut_cov he h)
    omega
  clear Z
  go_enter Tryd.func57, Tryd.ntmps57
  go_wp2
  go_loopw [3] (fun v w' => ∃ x n : Nat, v = .int .i64 (n : Int) ∧ x ≤ e ∧ Hid (n + (Cut.cut x e).length = N) ∧ Hid (Sp w' w.heap.size x e) ∧ Hid (Below w.heap.size w w')) (fun _ w' => e - memN w' w.heap.size 0)
  case atStart => exact ⟨b, 0, rfl, h, by unfold Hid; rw [hN.out, Nat.zero_add], S0, B0⟩
  case round =>
    obtain ⟨x, n, rfl, hx, hn, hS, hB⟩ := hrel
    clear S0 B0 hN
    have c0 := hS.out.c0
    have c1 := hS.out.c1
    by_cases hlt : x < e
    · have b0 : (x : Int) < (e : Int) := by omega
      have h1 := firstLevel_any x e hlt he wr.drew (HZ.out.below hB.out.drew hZ)
      have hc := Cut.cut_cons he hlt
      have hg := Cut.lev_grow he hlt
      have hf := (Cut.grow_facts he hlt).2.2.1
      have hf1 := (Cut.grow_facts he hlt).2.2.2.1
      rw [hg] at hc hf hf1
      have hl40 := Cut.lev_le he hlt
      have hn1 : Hid (n + 1 + (Cut.cut (x + 2 ^ Cut.lev x e) e).length = N) := by
        have := hn.out
        rw [hc, List.length_cons] at this
        unfold Hid; omega
      have hw := wrap_pow (L := Cut.lev x e) (by omega)
      have hP := Nat.pow_le_pow_right (n := 2) (by omega) hl40
      rw [show (2 : Nat) ^ 40 = 1099511627776 from by decide] at hP
      generalize Cut.lev x e = l at *
      clear hc hg hn
      generalize 2 ^ l = P at *
      go_wp2
      go_region_with (first
        | ((with_reducible show wpList _ _ _ (Oper.mk _ (Op.load 29 _) _ _ _ _ :: _) _ _); go_must (refine wpList_load_row rfl 29 _ rfl w.heap.size rfl 29 _ (0, 0) _ hS.out.row Tryd.underlying29 rfl (sizeSp' _ _) ?_))
        | (go_at_call 36; refine h1.mono ?_; rintro r w2 ⟨rfl, hw2⟩; have hS2 := Sp.below (show Sp wr.drew _ _ _ from hS.out) hw2; have d0 := hS2.c0; have g0 := hS2.f0))
      all_goals go_wp2
      all_goals
        have hn2 := hn1.out
        rw [hw, show wrap64 ((x : Int) + (P : Int)) = ((x + P : Nat) : Int) by unfold wrap64; omega, show wrap64 ((n : Int) + 1) = ((n + 1 : Nat) : Int) by unfold wrap64; omega]
        have hb2 : Below w.heap.size w w2 := hB.out.trans (((Below.refl _ wr).drew.trans hw2).mono hB.out.size)
        refine ⟨⟨x + P, n + 1, rfl, hf, hn1, hid (hS2.set0 (x + P)), hid (hb2.setCell (Nat.le_refl _) (p := ⟨w.heap.size, 0, none⟩) _)⟩, ?_⟩
        rw [(hS2.set0 (x + P)).n0, hS.out.n0]
        omega
    · have b0 : ¬ (x : Int) < (e : Int) := by omega
      obtain rfl : x = e := by omega
      have en := hid (show N = n by have := hn.out; rw [Cut.cut_nil] at this; simpa using this.symm)
      go_wp2
      go_ret
      exact ⟨by rw [en.out]; rfl, hB.out⟩
end Go.Proofs.YthoakchdlidemaaDoor

namespace Go.Proofs.YthoakchdlidemaaDoor
open Go.RowKit
/-- two results, each in a row -/
theorem results_row_row {P : Program} {fn : Func} {p u : Tmp} {ty tu : TypeId} (h : fn.results = #[.cell p ty, .cell u tu]) (tmps : Array Value) (w : World) (g g' : Nat) (t t' : TypeId) (cs cs' : Array Value) (fr fr' : Nat × Nat) (d d' : TypeDesc)
    (hp : tmps.getD p undef = .pointer (some ⟨g, 0, none⟩)) (hg : w.heap[g]? = some (.cells cs t fr))
    (hu : P.underlying ty = some d) (hd : (match d with | .struct _ | .array _ _ => true | _ => false) = true) (hi : (P.info? ty).map (·.size) = some cs.size)
    (hp' : tmps.getD u undef = .pointer (some ⟨g', 0, none⟩)) (hg' : w.heap[g']? = some (.cells cs' t' fr'))
    (hu' : P.underlying tu = some d') (hd' : (match d' with | .struct _ | .array _ _ => true | _ => false) = true) (hi' : (P.info? tu).map (·.size) = some cs'.size) :
    (results fn tmps).run P w = .ok (.tuple #[.agg cs, .agg cs']) w := by
  have q : tmps[p]?.getD undef = .pointer (some ⟨g, 0, none⟩) := by simpa using hp
  have q' : tmps[u]?.getD undef = .pointer (some ⟨g', 0, none⟩) := by simpa using hp'
  simp only [results, h]
  simp [Sem.run_bind, Result.andThen, q, q', asAddr, run_loadVar_row w g t ty cs fr d hg hu hd hi, run_loadVar_row w g' t' tu cs' fr' d' hg' hu' hd' hi']
/-- a span among the values -/
abbrev sg (b e : Int) : Value := .agg #[.int .i64 b, .int .i64 e]
/-- a span's variable, of whatever numbers -/
def SpI (w : World) (g : Nat) (b e : Int) : Prop := w.heap[g]? = some (.cells #[.int .i64 b, .int .i64 e] 29 (0, 0))
theorem SpI.c0 {w : World} {g : Nat} {b e : Int} (h : SpI w g b e) : w.cell? ⟨g, 0, none⟩ = some (.int .i64 b) := by rw [cell_of_row w g 0 _ _ _ h]; rfl
theorem SpI.c1 {w : World} {g : Nat} {b e : Int} (h : SpI w g b e) : w.cell? ⟨g, 1, none⟩ = some (.int .i64 e) := by rw [cell_of_row w g 1 _ _ _ h]; rfl
theorem SpI.f0 {w : World} {g : Nat} {b e : Int} (h : SpI w g b e) : w.frozen? ⟨g, 0, none⟩ = false := frozen_of_row _ _ _ _ _ h
theorem SpI.f1 {w : World} {g : Nat} {b e : Int} (h : SpI w g b e) : w.frozen? ⟨g, 1, none⟩ = false := frozen_of_row _ _ _ _ _ h
theorem SpI.new (w : World) (b e : Int) : SpI (w.alloc (.cells #[.int .i64 b, .int .i64 e] 29)) w.heap.size b e := heap_alloc_new w _
theorem SpI.below {w w' : World} {g : Nat} {b e : Int} (h : SpI w g b e) (hb : Below w.heap.size w w') : SpI w' g b e := (hb.block g (lt_of_heap h)).trans h
theorem SpI.keep {w w' : World} {g : Nat} {b e : Int} {S : Nat → Prop} (h : SpI w g b e) (hb : Keep S w w') (hs : ¬ S g) : SpI w' g b e := (hb.block g (lt_of_heap h) hs).trans h
set_option maxRecDepth 100000 in
theorem isSize_is (n : Int) (q : Bool) (h : decide (1 ≤ n ∧ n ≤ 1099511627776) = q) (w : World) : Calls Tryd.prog 21 #[.int .i64 n] w fun r w' => r = .returned (.bool q) ∧ w' = w := by
  by_cases h0 : 1 ≤ n
  · by_cases h1 : n ≤ 1099511627776
    · have e := hid (show q = true by rw [← h]; simp [h0, h1])
      clear h
      go_enter Tryd.func21, Tryd.ntmps21
      go_wp2
      go_ret
      exact ⟨by rw [e.out]; rfl, rfl⟩
    · have e := hid (show q = false by rw [← h]; simp [h1])
      clear h
      go_enter Tryd.func21, Tryd.ntmps21
      go_wp2
      go_ret
      exact ⟨by rw [e.out]; rfl, rfl⟩
  · have e := hid (show q = false by rw [← h]; simp [h0])
    clear h
    go_enter Tryd.func21, Tryd.ntmps21
    go_wp2
    go_ret
    exact ⟨by rw [e.out]; rfl, rfl⟩
set_option maxRecDepth 100000 in
theorem isLeaf8_is (n i : Int) (q : Bool) (h : decide (0 ≤ i ∧ i < n) = q) (w : World) : Calls Tryd.prog 60 #[.int .i64 n, .int .i64 i] w fun r w' => r = .returned (.bool q) ∧ w' = w := by
  by_cases h0 : 0 ≤ i
  · by_cases h1 : i < n
    · have e := hid (show q = true by rw [← h]; simp [h0, h1])
      clear h
      go_enter Tryd.func60, Tryd.ntmps60
      go_wp2
      go_ret
      exact ⟨by rw [e.out]; rfl, rfl⟩
    · have e := hid (show q = false by rw [← h]; simp [h1])
      clear h
      go_enter Tryd.func60, Tryd.ntmps60
      go_wp2
      go_ret
      exact ⟨by rw [e.out]; rfl, rfl⟩
  · have e := hid (show q = false by rw [← h]; simp [h0])
    clear h
    go_enter Tryd.func60, Tryd.ntmps60
    go_wp2
    go_ret
    exact ⟨by rw [e.out]; rfl, rfl⟩
set_option maxRecDepth 100000 in
theorem slen_any (b e n : Int) (h : wrap64 (e - b) = n) (w : World) : Calls Tryd.prog 62 #[sg b e] w fun r w' => r = .returned (.int .i64 n) ∧ Below w.heap.size w w' := by
  have S0 := SpI.new w b e
  have c0 := S0.c0
  have c1 := S0.c1
  go_enter Tryd.func62, Tryd.ntmps62
  go_wp2
  go_ret
  exact ⟨by rw [← h]; rfl, (Below.refl _ _).alloc (Nat.le_refl _) _⟩
theorem slen_nat (b e : Nat) (hb : b ≤ e) (he : e ≤ 1099511627776) (w : World) : Calls Tryd.prog 62 #[sg b e] w fun r w' => r = .returned (.int .i64 ((e - b : Nat) : Int)) ∧ Below w.heap.size w w' :=
  slen_any b e _ (by unfold wrap64; omega) w
end Go.Proofs.YthoakchdlidemaaDoor
