import Derived.Test.YtiehafkbkbeijaaPkKA1
/- Layer 15, mathematics: the greater cache has all that the lesser one has -/
namespace Go.Proofs.Ytiehafkbkbeijaa
namespace Kc
def ks (L : List En) : List (List UInt8) := L.map En.k
/-- nothing is pinned, and a key tells its value -/
def kv (j : Nat) : List UInt8 := List.replicate j 0
def kk (j : Nat) : List UInt8 := [UInt8.ofNat (97 + j)]
def Nv (e : En) : Prop := e.p = 0 ∧ ∃ j, j < 12 ∧ e.k = kk j ∧ e.v = kv j
def An (L : List En) : Prop := ∀ e ∈ L, Nv e
theorem kk_inj {i j : Nat} (hi : i < 12) (hj : j < 12) (h : kk i = kk j) : i = j := by
  unfold kk at h
  have h1 := List.head_eq_of_cons_eq h
  have h2 := congrArg UInt8.toNat h1
  rw [UInt8.toNat_ofNat', UInt8.toNat_ofNat'] at h2
  omega
theorem Nv.val {e : En} (h : Nv e) {j : Nat} (hj : j < 12) (hk : e.k = kk j) : e.v = kv j := by
  obtain ⟨_, i, hi, h1, h2⟩ := h
  have := kk_inj hi hj (h1.symm.trans hk)
  rw [h2, this]
theorem Nv.same {e x : En} (h : Nv e) (h' : Nv x) (hk : e.k = x.k) : e.n = x.n := by
  obtain ⟨_, j, hj, h1, h2⟩ := h'
  have := h.val hj (hk.trans h1)
  unfold En.n
  rw [hk, this, h2]
theorem tot_same : ∀ {L M : List En}, An L → An M → ks L = ks M → tot L = tot M
  | [], [], _, _, _ => rfl
  | [], x :: M, _, _, h => by cases h
  | e :: L, [], _, _, h => by cases h
  | e :: L, x :: M, h1, h2, h => by
    unfold ks at h
    rw [List.map_cons, List.map_cons] at h
    injection h with h3 h4
    rw [tot_cons, tot_cons, (h1 e (List.mem_cons_self ..)).same (h2 x (List.mem_cons_self ..)) h3, tot_same (fun y hy => h1 y (List.mem_cons_of_mem _ hy)) (fun y hy => h2 y (List.mem_cons_of_mem _ hy)) h4]
theorem evr_pre (B n : Nat) : ∀ (m : Nat) (X : List En), X.length = m → (∀ e ∈ X, e.p = 0) → (∃ Z, X = evr B n (tot X) X ++ Z) ∧ (∀ P Q, X = P ++ Q → tot P + n ≤ B → ∃ Q', evr B n (tot X) X = P ++ Q')
  | 0, X, hm, hp => by
    obtain rfl := List.length_eq_zero_iff.1 hm
    refine ⟨⟨[], rfl⟩, fun P Q h _ => ?_⟩
    obtain ⟨rfl, rfl⟩ := List.append_eq_nil_iff.1 h.symm
    exact ⟨[], rfl⟩
  | m + 1, X, hm, hp => by
    by_cases hf : tot X + n ≤ B
    · rw [evr_fit hf]
      exact ⟨⟨[], by simp⟩, fun P Q h _ => ⟨Q, h⟩⟩
    · rcases List.eq_nil_or_concat X with rfl | ⟨X', x, rfl⟩
      · cases hm
      · rw [List.concat_eq_append] at *
        have h0 : x.p = 0 := hp x (by simp)
        rw [evr_out hf h0]
        have e1 : tot (X' ++ [x]) - x.n = tot X' := by simp
        rw [e1]
        obtain ⟨⟨Z, hZ⟩, h2⟩ := evr_pre B n m X' (by simpa using hm) (fun e he => hp e (by simp [he]))
        refine ⟨⟨Z ++ [x], by rw [← List.append_assoc, ← hZ]⟩, fun P Q h hP => ?_⟩
        rcases List.eq_nil_or_concat Q with rfl | ⟨Q', y, rfl⟩
        · rw [List.append_nil] at h
          rw [h] at hf
          exact absurd hP hf
        · rw [List.concat_eq_append, ← List.append_assoc] at h
          exact h2 P Q' (List.append_inj_left' h rfl) hP
theorem room_pre {B n : Nat} {L : List En} (hp : ∀ e ∈ L, e.p = 0) : ∃ Z, L = room B n L ++ Z := (evr_pre B n _ L rfl hp).1
theorem room_max {B n : Nat} {P Q : List En} (hp : ∀ e ∈ P ++ Q, e.p = 0) (h : tot P + n ≤ B) : ∃ Q', room B n (P ++ Q) = P ++ Q' := (evr_pre B n _ (P ++ Q) rfl hp).2 P Q rfl h
theorem An.sub {L M : List En} (h : An L) (hs : M.Sublist L) : An M := fun e he => h e (hs.mem he)
theorem An.pins {L : List En} (h : An L) : ∀ e ∈ L, e.p = 0 := fun e he => (h e he).1
theorem An.pnd {L : List En} (h : An L) : pnd L = 0 := by
  induction L with
  | nil => rfl
  | cons e L ih =>
    rw [pnd_cons, ih fun x hx => h x (List.mem_cons_of_mem _ hx), En.q, if_pos (h e (List.mem_cons_self ..)).1]
theorem ks_wo (k : List UInt8) (L : List En) : ks (wo k L) = (ks L).erase k := by
  induction L with
  | nil => rfl
  | cons e L ih =>
    unfold wo ks
    by_cases c : e.k = k
    · rw [if_pos c, List.map_cons, c, List.erase_cons_head]
    · rw [if_neg c, List.map_cons, List.map_cons, List.erase_cons_tail (by simpa using c)]
      exact congrArg _ ih
theorem fnd_ks {k : List UInt8} {L : List En} : (fnd k L).isSome = true ↔ k ∈ ks L := by
  cases c : fnd k L with
  | none =>
    simp only [Option.isSome_none, Bool.false_eq_true, false_iff]
    intro h
    obtain ⟨e, he, hk⟩ := List.mem_map.1 h
    exact (fnd_none c).1 e he hk
  | some e =>
    simp only [Option.isSome_some, true_iff]
    obtain ⟨h1, h2⟩ := fnd_mem c
    exact List.mem_map.2 ⟨e, h1, h2⟩
/-- the keys of the lesser one stand first in the greater one -/
def Nst (L M : List En) : Prop := ∃ Z, ks M = ks L ++ Z
theorem Nst.there {L M : List En} (h : Nst L M) {k : List UInt8} {e : En} (hf : fnd k L = some e) : ∃ x, fnd k M = some x := by
  obtain ⟨Z, hZ⟩ := h
  have : (fnd k M).isSome = true := fnd_ks.2 (by rw [hZ]; exact List.mem_append_left _ (fnd_ks.1 (by rw [hf]; rfl)))
  exact Option.isSome_iff_exists.1 this
theorem Nst.both {L M : List En} (h : Nst L M) {k : List UInt8} {e x : En} (hf : fnd k L = some e) (hx : fnd k M = some x) : Nst (e :: wo k L) (x :: wo k M) := by
  obtain ⟨Z, hZ⟩ := h
  refine ⟨Z, ?_⟩
  have h1 := (fnd_mem hf).2
  have h2 := (fnd_mem hx).2
  show x.k :: ks (wo k M) = e.k :: (ks (wo k L) ++ Z)
  rw [h1, h2, ks_wo, ks_wo, hZ, List.erase_append_left _ (fnd_ks.1 (by rw [hf]; rfl))]
theorem ks_append (X Y : List En) : ks (X ++ Y) = ks X ++ ks Y := List.map_append
theorem ks_room {B n : Nat} {L : List En} (h : An L) : ∃ Z, ks L = ks (room B n L) ++ Z := by
  obtain ⟨Z, hZ⟩ := room_pre (B := B) (n := n) h.pins
  exact ⟨ks Z, by rw [← ks_append, ← hZ]⟩
theorem Nst.one {L M : List En} (h : Nst L M) (hA : An L) {k : List UInt8} {x : En} (hf : fnd k L = none) (hx : fnd k M = some x) (B n b : Nat) (v : List UInt8) (p : Nat) : Nst (⟨b, k, v, p⟩ :: room B n L) (x :: wo k M) := by
  obtain ⟨Z, hZ⟩ := h
  obtain ⟨Y, hY⟩ := ks_room (B := B) (n := n) hA
  have h2 := (fnd_mem hx).2
  have hn : k ∉ ks L := fun hm => by
    have := fnd_ks.2 hm
    rw [hf] at this
    cases this
  refine ⟨Y ++ Z.erase k, ?_⟩
  show x.k :: ks (wo k M) = k :: (ks (room B n L) ++ (Y ++ Z.erase k))
  rw [h2, ks_wo, hZ, List.erase_append_right _ hn, hY, List.append_assoc]
theorem Nst.none {L M : List En} (h : Nst L M) (hA : An L) (hM : An M) {B C n : Nat} (hB : B ≤ C) (hn : n ≤ B) (k v v' : List UInt8) (b b' p p' : Nat) : Nst (⟨b, k, v, p⟩ :: room B n L) (⟨b', k, v', p'⟩ :: room C n M) := by
  obtain ⟨Z, hZ⟩ := h
  obtain ⟨Y, hY⟩ := room_pre (B := B) (n := n) hA.pins
  have hfit : tot (room B n L) + n ≤ B := room_fits (by rw [hA.pnd]; omega)
  obtain ⟨P, hP⟩ : ∃ P, room B n L = P := ⟨_, rfl⟩
  rw [hP] at hY hfit ⊢
  have hM2 : M = M.take P.length ++ M.drop P.length := (List.take_append_drop _ _).symm
  have hk : ks (M.take P.length) = ks P := by
    unfold ks at hZ ⊢
    rw [← List.map_take.symm, hZ, hY]
    simp
  have ht : tot (M.take P.length) = tot P := tot_same (hM.sub (List.take_sublist _ _)) (hA.sub (by rw [hY]; exact List.sublist_append_left _ _)) hk
  obtain ⟨Q, hQ⟩ := room_max (B := C) (n := n) (P := M.take P.length) (Q := M.drop P.length) (by rw [← hM2]; exact hM.pins) (by omega)
  rw [← hM2] at hQ
  refine ⟨ks Q, ?_⟩
  show k :: ks (room C n M) = k :: (ks P ++ ks Q)
  rw [hQ, ks_append, hk]
end Kc
end Go.Proofs.Ytiehafkbkbeijaa
