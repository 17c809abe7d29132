import Derived.Test.YtkamjpjmdibfgaaPkA1
/- Layer 15, mathematics: what is there, the one used last first -/
namespace Go.Proofs.Ytkamjpjmdibfgaa
namespace Kc
/-- a value that is there: the block of its place, its key, itself, its pins -/
structure En where
  b : Nat
  k : List UInt8
  v : List UInt8
  p : Nat
def En.n (e : En) : Nat := e.k.length + e.v.length
def En.q (e : En) : Nat := if e.p = 0 then 0 else e.n
def tot (L : List En) : Nat := (L.map En.n).sum
def pnd (L : List En) : Nat := (L.map En.q).sum
def fnd (k : List UInt8) : List En → Option En
  | [] => none
  | e :: r => if e.k = k then some e else fnd k r
def wo (k : List UInt8) : List En → List En
  | [] => []
  | e :: r => if e.k = k then r else e :: wo k r
def rp (k : List UInt8) (q : Nat) : List En → List En
  | [] => []
  | e :: r => if e.k = k then { e with p := q } :: r else e :: rp k q r
def pin (k : List UInt8) (L : List En) : Nat := match fnd k L with | some e => e.p | none => 0
/-- oldest first: what is not put out -/
def ev (B n : Nat) : Nat → List En → List En
  | _, [] => []
  | t, e :: r => if t + n ≤ B then e :: r else if e.p = 0 then ev B n (t - e.n) r else e :: ev B n t r
def evr (B n t : Nat) (X : List En) : List En := (ev B n t X.reverse).reverse
def room (B n : Nat) (L : List En) : List En := evr B n (tot L) L
def Uq (L : List En) : Prop := (L.map En.k).Nodup
@[simp] theorem tot_nil : tot [] = 0 := rfl
@[simp] theorem tot_cons (e : En) (L : List En) : tot (e :: L) = e.n + tot L := by simp [tot]
@[simp] theorem tot_append (X Y : List En) : tot (X ++ Y) = tot X + tot Y := by simp [tot]
@[simp] theorem pnd_nil : pnd [] = 0 := rfl
@[simp] theorem pnd_cons (e : En) (L : List En) : pnd (e :: L) = e.q + pnd L := by simp [pnd]
@[simp] theorem pnd_append (X Y : List En) : pnd (X ++ Y) = pnd X + pnd Y := by simp [pnd]
theorem q_le (e : En) : e.q ≤ e.n := by unfold En.q; split <;> omega
theorem pnd_le (L : List En) : pnd L ≤ tot L := by
  induction L with
  | nil => simp
  | cons e L ih => have := q_le e; simp; omega
theorem fnd_split {k : List UInt8} {L : List En} {e : En} (h : fnd k L = some e) : ∃ X Y, L = X ++ e :: Y ∧ e.k = k ∧ wo k L = X ++ Y ∧ (∀ q, rp k q L = X ++ { e with p := q } :: Y) ∧ ∀ x ∈ X, x.k ≠ k := by
  induction L with
  | nil => cases h
  | cons x L ih =>
    unfold fnd at h
    by_cases c : x.k = k
    · rw [if_pos c] at h
      obtain rfl := Option.some.inj h
      exact ⟨[], L, rfl, c, by simp [wo, c], fun q => by simp [rp, c], fun y hy => nomatch hy⟩
    · rw [if_neg c] at h
      obtain ⟨X, Y, rfl, h2, h3, h4, h5⟩ := ih h
      exact ⟨x :: X, Y, rfl, h2, by simp [wo, c, h3], fun q => by simp [rp, c, h4], fun y hy => by
        rcases List.mem_cons.1 hy with rfl | hy
        · exact c
        · exact h5 y hy⟩
theorem fnd_none {k : List UInt8} {L : List En} (h : fnd k L = none) : (∀ e ∈ L, e.k ≠ k) ∧ wo k L = L := by
  induction L with
  | nil => exact ⟨fun e he => (nomatch he), rfl⟩
  | cons x L ih =>
    unfold fnd at h
    by_cases c : x.k = k
    · rw [if_pos c] at h; cases h
    · rw [if_neg c] at h
      obtain ⟨h1, h2⟩ := ih h
      refine ⟨fun e he => ?_, by simp [wo, c, h2]⟩
      rcases List.mem_cons.1 he with rfl | he
      · exact c
      · exact h1 e he
theorem fnd_of_not {k : List UInt8} {L : List En} (h : ∀ e ∈ L, e.k ≠ k) : fnd k L = none := by
  induction L with
  | nil => rfl
  | cons x L ih =>
    unfold fnd
    rw [if_neg (h x (List.mem_cons_self ..))]
    exact ih fun e he => h e (List.mem_cons_of_mem _ he)
theorem fnd_mem {k : List UInt8} {L : List En} {e : En} (h : fnd k L = some e) : e ∈ L ∧ e.k = k := by
  obtain ⟨X, Y, rfl, h2, _⟩ := fnd_split h
  exact ⟨by simp, h2⟩
theorem fnd_of_mem {L : List En} (hu : Uq L) {e : En} (h : e ∈ L) : fnd e.k L = some e := by
  induction L with
  | nil => cases h
  | cons x L ih =>
    unfold fnd
    unfold Uq at hu
    rw [List.map_cons, List.nodup_cons] at hu
    rcases List.mem_cons.1 h with rfl | h
    · rw [if_pos rfl]
    · rw [if_neg (fun c => hu.1 (List.mem_map.2 ⟨e, h, c.symm⟩))]
      exact ih hu.2 h
theorem fnd_cons_ne {k : List UInt8} {e : En} {L : List En} (h : e.k ≠ k) : fnd k (e :: L) = fnd k L := by rw [fnd, if_neg h]
theorem fnd_cons_eq {k : List UInt8} {e : En} {L : List En} (h : e.k = k) : fnd k (e :: L) = some e := by rw [fnd, if_pos h]
theorem Uq.split {X Y : List En} {e : En} (h : Uq (X ++ e :: Y)) : Uq (X ++ Y) ∧ ∀ x ∈ X ++ Y, x.k ≠ e.k := by
  unfold Uq at h ⊢
  rw [List.map_append, List.map_cons] at h
  have h' : (e.k :: (X.map En.k ++ Y.map En.k)).Nodup := (List.perm_middle.nodup_iff).1 h
  rw [List.nodup_cons] at h'
  refine ⟨by rw [List.map_append]; exact h'.2, fun x hx c => h'.1 ?_⟩
  rw [← List.map_append, ← c]
  exact List.mem_map_of_mem hx
theorem Uq.wo {L : List En} (h : Uq L) (k : List UInt8) : Uq (wo k L) ∧ ∀ x ∈ wo k L, x.k ≠ k := by
  cases c : fnd k L with
  | none => rw [(fnd_none c).2]; exact ⟨h, (fnd_none c).1⟩
  | some e =>
    obtain ⟨X, Y, rfl, h2, h3, _, _⟩ := fnd_split c
    rw [h3]
    subst h2
    exact h.split
theorem Uq.cons {L : List En} (h : Uq L) {e : En} (he : ∀ x ∈ L, x.k ≠ e.k) : Uq (e :: L) := by
  unfold Uq
  rw [List.map_cons, List.nodup_cons]
  refine ⟨fun hm => ?_, h⟩
  obtain ⟨x, hx, c⟩ := List.mem_map.1 hm
  exact he x hx c
theorem wo_sub (k : List UInt8) (L : List En) : (wo k L).Sublist L := by
  cases c : fnd k L with
  | none => rw [(fnd_none c).2]; exact List.Sublist.refl _
  | some e =>
    obtain ⟨X, Y, rfl, _, h3, _, _⟩ := fnd_split c
    rw [h3]
    exact List.Sublist.append_left (List.sublist_cons_self _ _) _
theorem ev_sub (B n : Nat) : ∀ (L : List En) (t : Nat), (ev B n t L).Sublist L
  | [], t => List.Sublist.refl _
  | e :: r, t => by
    unfold ev
    split
    · exact List.Sublist.refl _
    · split
      · exact (ev_sub B n r _).cons _
      · exact (ev_sub B n r _).cons_cons _
theorem evr_sub (B n t : Nat) (L : List En) : (evr B n t L).Sublist L := by
  have := (ev_sub B n L.reverse t).reverse
  rwa [List.reverse_reverse] at this
theorem room_sub (B n : Nat) (L : List En) : (room B n L).Sublist L := evr_sub _ _ _ _
theorem evr_nil (B n t : Nat) : evr B n t [] = [] := rfl
theorem evr_fit {B n t : Nat} {X : List En} (h : t + n ≤ B) : evr B n t X = X := by
  unfold evr
  cases c : X.reverse with
  | nil => rw [ev, ← c, List.reverse_reverse] <;> simp_all
  | cons e r => rw [ev, if_pos h, ← c, List.reverse_reverse]
theorem evr_out {B n t : Nat} {X : List En} {e : En} (h : ¬ t + n ≤ B) (hp : e.p = 0) : evr B n t (X ++ [e]) = evr B n (t - e.n) X := by
  unfold evr
  rw [List.reverse_append, List.reverse_singleton, List.singleton_append, ev, if_neg h, if_pos hp]
theorem evr_pin {B n t : Nat} {X : List En} {e : En} (h : ¬ t + n ≤ B) (hp : e.p ≠ 0) : evr B n t (X ++ [e]) = evr B n t X ++ [e] := by
  unfold evr
  rw [List.reverse_append, List.reverse_singleton, List.singleton_append, ev, if_neg h, if_neg hp, List.reverse_cons]
theorem mem_ev {B n : Nat} : ∀ {L : List En} {t : Nat} {e : En}, e ∈ L → e.p ≠ 0 → e ∈ ev B n t L
  | x :: r, t, e, h, hp => by
    unfold ev
    split
    · exact h
    · split
      · next c =>
        rcases List.mem_cons.1 h with rfl | h
        · exact absurd c hp
        · exact mem_ev h hp
      · rcases List.mem_cons.1 h with rfl | h
        · exact List.mem_cons_self ..
        · exact List.mem_cons_of_mem _ (mem_ev h hp)
theorem mem_room {B n : Nat} {L : List En} {e : En} (h : e ∈ L) (hp : e.p ≠ 0) : e ∈ room B n L := by
  unfold room evr
  rw [List.mem_reverse]
  exact mem_ev (List.mem_reverse.2 h) hp
theorem tot_rev (L : List En) : tot L.reverse = tot L := by unfold tot; rw [List.map_reverse, List.sum_reverse]
theorem pnd_rev (L : List En) : pnd L.reverse = pnd L := by unfold pnd; rw [List.map_reverse, List.sum_reverse]
theorem ev_fits {B n : Nat} : ∀ (L : List En) (t c : Nat), t = c + tot L → c + pnd L + n ≤ B → c + tot (ev B n t L) + n ≤ B
  | [], t, c, h, hb => by simp [ev] at *; omega
  | e :: r, t, c, h, hb => by
    unfold ev
    simp at h hb
    split
    · simp; omega
    · split
      · next hp =>
        refine ev_fits r (t - e.n) c (by omega) ?_
        simp [En.q, hp] at hb
        omega
      · next hp =>
        simp [En.q, hp] at hb
        have := ev_fits (B := B) (n := n) r t (c + e.n) (by omega) (by omega)
        simp
        omega
theorem room_fits {B n : Nat} {L : List En} (h : n + pnd L ≤ B) : tot (room B n L) + n ≤ B := by
  unfold room evr
  rw [tot_rev]
  have := ev_fits (B := B) (n := n) L.reverse (tot L) 0 (by rw [tot_rev]; omega) (by rw [pnd_rev]; omega)
  omega
theorem pnd_ev (B n : Nat) : ∀ (L : List En) (t : Nat), pnd (ev B n t L) = pnd L
  | [], t => rfl
  | e :: r, t => by
    unfold ev
    split
    · rfl
    · split
      · next hp => rw [pnd_ev B n r, pnd_cons, En.q, if_pos hp, Nat.zero_add]
      · rw [pnd_cons, pnd_cons, pnd_ev B n r]
theorem pnd_room (B n : Nat) (L : List En) : pnd (room B n L) = pnd L := by
  unfold room evr
  rw [pnd_rev, pnd_ev, pnd_rev]
theorem fnd_sub {L M : List En} (hu : Uq L) (hs : M.Sublist L) {k : List UInt8} {e : En} (h : fnd k M = some e) : fnd k L = some e := by
  obtain ⟨hm, rfl⟩ := fnd_mem h
  exact fnd_of_mem hu (hs.mem hm)
theorem Uq.sub {L M : List En} (hu : Uq L) (hs : M.Sublist L) : Uq M := (hs.map En.k).nodup hu
theorem rp_keys (k : List UInt8) (q : Nat) (L : List En) : (rp k q L).map En.k = L.map En.k := by
  induction L with
  | nil => rfl
  | cons e r ih =>
    unfold rp
    split
    · rfl
    · simp [ih]
theorem Uq.rp {L : List En} (h : Uq L) (k : List UInt8) (q : Nat) : Uq (rp k q L) := by
  unfold Uq
  rw [rp_keys]
  exact h
end Kc
end Go.Proofs.Ytkamjpjmdibfgaa
