import Derived.Test.YtbodgecbakcaaaaGreatDoorPkI1
/- THE PLAIN MATHEMATICS OF LAYER 12: what is known of a batch, and how it is climbed; nothing of the program. -/
namespace Go.Proofs.YtbodgecbakcaaaaGreatDoor
namespace Bat
open Tree
theorem hashAt_map (K : List (Nat × Nat)) : ∀ (H : List T), K.Nodup → H.length = K.length → K.map (hashAt K H) = H := by
  induction K with
  | nil => intro H _ h; cases H with
    | nil => rfl
    | cons a H => cases h
  | cons k K ih =>
    intro H hn hl
    cases H with
    | nil => cases hl
    | cons h H =>
      rw [List.nodup_cons] at hn
      rw [List.map_cons]
      have e1 : hashAt (k :: K) (h :: H) k = h := by rw [hashAt, if_pos rfl]
      have e2 : K.map (hashAt (k :: K) (h :: H)) = K.map (hashAt K H) := List.map_congr_left fun s hs => by
        rw [hashAt, if_neg (fun e => hn.1 (by rw [e]; exact hs))]
      rw [e1, e2, ih H hn.2 (by simpa using hl)]
theorem apt_nodup : ∀ {b e : Nat} {l : List (Nat × Nat)} {p : Nat → Bool}, Apt b e l p → l.Nodup ∧ ∀ s ∈ l, b ≤ s.1 ∧ s.1 < s.2 ∧ s.2 ≤ e ∧ ∀ i, s.1 ≤ i → i < s.2 → p i = false
  | b, e, [], p, _ => ⟨List.nodup_nil, fun s hs => by cases hs⟩
  | b, e, s :: r, p, ⟨h1, h2, h3, h4, h5, h6⟩ => by
    obtain ⟨n1, n2⟩ := apt_nodup h6
    refine ⟨List.nodup_cons.2 ⟨fun hm => ?_, n1⟩, fun t ht => ?_⟩
    · have := n2 s hm; omega
    · rcases List.mem_cons.1 ht with rfl | ht
      · exact ⟨h1, h2, h3, h5⟩
      · have := n2 t ht
        exact ⟨by omega, this.2.1, this.2.2.1, this.2.2.2⟩
def valF (T' : List (Nat × Nat)) (H : List T) (ix : List Nat) (L : List T) : Nat → Nat → Nat → T
  | 0, _, _ => []
  | f + 1, b, m => if tch ix b (b + m) = false then hashAt T' H (b, b + m) else if m < 2 then hashAt (ix.map fun i => (i, i + 1)) L (b, b + m) else nd (valF T' H ix L f b (sp m)) (valF T' H ix L f (b + sp m) (m - sp m))
theorem valF_fuel (T' : List (Nat × Nat)) (H : List T) (ix : List Nat) (L : List T) : ∀ (f g b m : Nat), 1 ≤ m → m ≤ f → m ≤ g → valF T' H ix L f b m = valF T' H ix L g b m
  | 0, _, _, _, h1, h, _ => by omega
  | _ + 1, 0, _, _, h1, _, h => by omega
  | f + 1, g + 1, b, m, h1, h2, h3 => by
    rw [valF, valF]
    split
    · rfl
    · split
      · rfl
      · have s1 := sp_lt (n := m) (by omega)
        have s2 := sp_pos (n := m) (by omega)
        rw [valF_fuel T' H ix L f g b (sp m) (by omega) (by omega) (by omega), valF_fuel T' H ix L f g (b + sp m) (m - sp m) (by omega) (by omega) (by omega)]
structure Val (ix : List Nat) (n : Nat) (H L : List T) (val : Nat × Nat → T) : Prop where
  h : H = (othF n 0 n ix).map val
  l : L = ix.map fun i => val (i, i + 1)
  n : ∀ b m, 2 ≤ m → tch ix b (b + m) = true → val (b, b + m) = nd (val (b, b + sp m)) (val (b + sp m, b + m))
theorem val_is (ix : List Nat) (n : Nat) (H L : List T) (hn : 1 ≤ n) (hi : ix.Nodup) (hH : H.length = (othF n 0 n ix).length) (hL : L.length = ix.length) : ∃ val, Val ix n H L val := by
  obtain ⟨n1, n2⟩ := apt_nodup (othF_apart ix n 0 n hn (Nat.le_refl _))
  refine ⟨fun s => valF (othF n 0 n ix) H ix L (s.2 - s.1) s.1 (s.2 - s.1), ?_, ?_, fun b m h2 ht => ?_⟩
  · rw [← hashAt_map (othF n 0 n ix) H n1 hH]
    refine List.map_congr_left fun s hs => ?_
    rw [hashAt_map (othF n 0 n ix) H n1 hH]
    obtain ⟨q1, q2, q3, q4⟩ := n2 s hs
    obtain ⟨f, hf⟩ : ∃ f, s.2 - s.1 = f + 1 := ⟨s.2 - s.1 - 1, by omega⟩
    have e : s.1 + (s.2 - s.1) = s.2 := by omega
    have ht : tch ix s.1 (s.1 + (f + 1)) = false := by
      rw [← hf, e]
      cases h : tch ix s.1 s.2 with
      | false => rfl
      | true =>
        obtain ⟨i, hi, h3, h4⟩ := tch_mem.1 h
        have := q4 i h3 h4
        simp [hi] at this
    show _ = valF (othF n 0 n ix) H ix L (s.2 - s.1) s.1 (s.2 - s.1)
    rw [hf, valF, if_pos ht, ← hf, e]
  · have hm : (ix.map fun i => (i, i + 1)).Nodup := by
      rw [List.Nodup, List.pairwise_map]
      exact hi.imp fun h e => h (Prod.ext_iff.1 e).1
    have := hashAt_map (ix.map fun i => (i, i + 1)) L hm (by simpa using hL)
    rw [List.map_map] at this
    refine this.symm.trans (List.map_congr_left fun i hi' => ?_)
    show hashAt _ L (i, i + 1) = valF _ H ix L (i + 1 - i) i (i + 1 - i)
    rw [show i + 1 - i = 0 + 1 by omega, valF, if_neg (by rw [tch_mem.2 ⟨i, hi', by omega, by omega⟩]; simp), if_pos (by omega)]
  · have s1 := sp_lt (n := m) h2
    have s2 := sp_pos (n := m) h2
    show valF _ H ix L (b + m - b) b (b + m - b) = nd (valF _ H ix L (b + sp m - b) b (b + sp m - b)) (valF _ H ix L (b + m - (b + sp m)) (b + sp m) (b + m - (b + sp m)))
    rw [show b + m - b = m by omega, show b + sp m - b = sp m by omega, show b + m - (b + sp m) = m - sp m by omega]
    obtain ⟨f, rfl⟩ : ∃ f, m = f + 1 := ⟨m - 1, by omega⟩
    rw [valF, if_neg (by rw [ht]; simp), if_neg (by omega), valF_fuel _ H ix L f (sp (f + 1)) b (sp (f + 1)) (by omega) (by omega) (by omega), valF_fuel _ H ix L f (f + 1 - sp (f + 1)) (b + sp (f + 1)) (f + 1 - sp (f + 1)) (by omega) (by omega) (by omega)]
abbrev Kn := Nat × Nat → Option T
def upd (f : Kn) (s : Nat × Nat) (h : T) : Kn := fun t => if t = s then some h else f t
def jn (a b : Nat × Nat) : Nat × Nat := if b.1 < a.1 then (b.1, a.2) else (a.1, b.2)
def jl (a b : Nat × Nat) : Nat × Nat := if b.1 < a.1 then b else a
def jr (a b : Nat × Nat) : Nat × Nat := if b.1 < a.1 then a else b
def clm : Kn → Nat × Nat → List (Nat × Nat) → Kn × Option (Nat × Nat)
  | f, on, [] => (f, some on)
  | f, on, s :: P => if f s = none then (f, none) else clm (upd f (jn on s) (nd ((f (jl on s)).getD []) ((f (jr on s)).getD []))) (jn on s) P
theorem clm_append : ∀ (P Q : List (Nat × Nat)) (f : Kn) (on : Nat × Nat), clm f on (P ++ Q) = match (clm f on P).2 with | none => ((clm f on P).1, none) | some o => clm (clm f on P).1 o Q
  | [], Q, f, on => rfl
  | s :: P, Q, f, on => by
    rw [List.cons_append, clm, clm]
    split
    · rfl
    · exact clm_append P Q _ _
def Snd (val : Nat × Nat → T) (f : Kn) : Prop := ∀ s h, f s = some h → h = val s
def Ext (f g : Kn) : Prop := ∀ s, f s ≠ none → g s ≠ none
theorem Snd.upd {val : Nat × Nat → T} {f : Kn} (h : Snd val f) {s : Nat × Nat} {x : T} (hx : x = val s) : Snd val (Bat.upd f s x) := fun t y ht => by
  unfold Bat.upd at ht
  split at ht
  · rename_i e; rw [e, ← hx]; exact (Option.some.inj ht).symm
  · exact h t y ht
theorem ext_upd (f : Kn) (s : Nat × Nat) (x : T) : Ext f (upd f s x) := fun t ht => by
  unfold upd
  split
  · simp
  · exact ht
theorem Snd.at {val : Nat × Nat → T} {f : Kn} (h : Snd val f) {s : Nat × Nat} (hs : f s ≠ none) : f s = some (val s) := by
  cases e : f s with
  | none => exact absurd e hs
  | some x => rw [h s x e]
theorem insF_cases {g b m x y : Nat} (h : insF g b m x y = true) : (x = b ∧ y = b + m) ∨ (y ≤ b + sp m ∧ ∃ g', insF g' b (sp m) x y = true) ∨ (b + sp m ≤ x ∧ ∃ g', insF g' (b + sp m) (m - sp m) x y = true) := by
  cases g with
  | zero => cases h
  | succ g =>
    rw [insF] at h
    by_cases c1 : x = b ∧ y = b + m
    · exact .inl c1
    · rw [if_neg c1] at h
      by_cases c2 : m < 2
      · rw [if_pos c2] at h; cases h
      · rw [if_neg c2] at h
        by_cases c3 : y ≤ b + sp m
        · rw [if_pos c3] at h; exact .inr (.inl ⟨c3, g, h⟩)
        · rw [if_neg c3] at h
          by_cases c4 : b + sp m ≤ x
          · rw [if_pos c4] at h; exact .inr (.inr ⟨c4, g, h⟩)
          · rw [if_neg c4] at h; cases h
theorem climb {ix : List Nat} {val : Nat × Nat → T} (hv : ∀ b m, 2 ≤ m → tch ix b (b + m) = true → val (b, b + m) = nd (val (b, b + sp m)) (val (b + sp m, b + m))) {i : Nat} (hi : i ∈ ix) {f0 : Kn} (hs : Snd val f0) (h0 : f0 (i, i + 1) ≠ none) {N : Nat}
    (hc : ∀ x y, insF N 0 N x y = true → tch ix x y = true → (∀ j ∈ ix, x ≤ j → j < y → j < i) → f0 (x, y) ≠ none) :
    ∀ (f b m : Nat), 1 ≤ m → m ≤ f → 1 ≤ N → b ≤ i → i < b + m → insF N 0 N b (b + m) = true → (∀ s ∈ othF f b m ix, f0 s ≠ none) →
      Snd val (clm f0 (i, i + 1) (pthF f b m i)).1 ∧ Ext f0 (clm f0 (i, i + 1) (pthF f b m i)).1 ∧ (∀ o, (clm f0 (i, i + 1) (pthF f b m i)).2 = some o → o = (b, b + m) ∧ (clm f0 (i, i + 1) (pthF f b m i)).1 o ≠ none) ∧
      ((∀ j ∈ ix, b ≤ j → j < b + m → j ≤ i) → (clm f0 (i, i + 1) (pthF f b m i)).2 ≠ none) ∧
      ∀ g x y, insF g b m x y = true → x ≤ i → i < y → (∀ j ∈ ix, x ≤ j → j < y → j ≤ i) → (clm f0 (i, i + 1) (pthF f b m i)).1 (x, y) ≠ none
  | 0, b, m, h1, h2, _, _, _, _, _ => by omega
  | f + 1, b, m, h1, h2, hN, hb, hbm, hin, ho => by
    have htc : tch ix b (b + m) = true := tch_mem.2 ⟨i, hi, hb, hbm⟩
    by_cases hm : m < 2
    · obtain rfl : m = 1 := by omega
      obtain rfl : b = i := by omega
      rw [pthF_small (by omega)]
      refine ⟨hs, fun _ h => h, fun o e => ?_, fun _ => by simp [clm], fun g x y hxy h3 h4 _ => ?_⟩
      · simp only [clm, Option.some.injEq] at e
        exact ⟨e.symm, by rw [← e]; exact h0⟩
      · have := insF_in g b 1 x y hxy (by omega)
        rw [show x = b by omega, show y = b + 1 by omega]
        exact h0
    · have s1 := sp_lt (n := m) (by omega)
      have s2 := sp_pos (n := m) (by omega)
      have hpt := insF_parts N 0 N b (b + m) (Nat.le_refl _) hN hin (by omega)
      rw [show b + m - b = m by omega] at hpt
      have hot := othF_two (f := f) htc (show 2 ≤ m by omega)
      rw [hot] at ho
      have hnv := hv b m (by omega) htc
      by_cases hl : i < b + sp m
      · rw [pthF_left (by omega) hl, clm_append]
        have ih := climb hv hi hs h0 hc f b (sp m) (by omega) (by omega) hN hb hl hpt.1 (fun s hs => ho s (List.mem_append_left _ hs))
        generalize clm f0 (i, i + 1) (pthF f b (sp m) i) = R at ih ⊢
        obtain ⟨g1, R2⟩ := R
        obtain ⟨i1, i2, i3, i4, i5⟩ := ih
        simp only at i1 i2 i3 i4 i5 ⊢
        have hoth : (∀ j ∈ ix, b ≤ j → j < b + m → j ≤ i) → f0 (b + sp m, b + m) ≠ none := fun h => by
          have ht : tch ix (b + sp m) (b + sp m + (m - sp m)) = false := by
            cases e : tch ix (b + sp m) (b + sp m + (m - sp m)) with
            | false => rfl
            | true =>
              obtain ⟨j, hj, h3, h4⟩ := tch_mem.1 e
              have := h j hj (by omega) (by omega)
              omega
          obtain ⟨f', rfl⟩ : ∃ f', f = f' + 1 := ⟨f - 1, by omega⟩
          have := ho (b + sp m, b + m) (List.mem_append_right _ (by rw [othF_no ht, show b + sp m + (m - sp m) = b + m by omega]; exact List.mem_singleton.2 rfl))
          exact this
        cases R2 with
        | none =>
          refine ⟨i1, i2, fun o e => by simp at e, fun h => ?_, fun g x y hxy h3 h4 h5 => ?_⟩
          · exact absurd rfl (i4 (fun j hj h3 h4 => h j hj h3 (by omega)))
          · rcases insF_cases hxy with e | ⟨h6, g', hxy'⟩ | ⟨h6, g', hxy'⟩
            · exact absurd rfl (i4 (fun j hj h6 h7 => h5 j hj (by omega) (by omega)))
            · exact i5 g' x y hxy' h3 h4 h5
            · omega
        | some o =>
          obtain ⟨rfl, i3'⟩ := i3 o rfl
          simp only
          have ej : jn (b, b + sp m) (b + sp m, b + m) = (b, b + m) := by unfold jn; rw [if_neg (by simp)]
          have el : jl (b, b + sp m) (b + sp m, b + m) = (b, b + sp m) := by unfold jl; rw [if_neg (by simp)]
          have er : jr (b, b + sp m) (b + sp m, b + m) = (b + sp m, b + m) := by unfold jr; rw [if_neg (by simp)]
          by_cases hno : g1 (b + sp m, b + m) = none
          · rw [clm, if_pos hno]
            refine ⟨i1, i2, fun o e => by simp at e, fun h => ?_, fun g x y hxy h3 h4 h5 => ?_⟩
            · exact absurd hno (i2 _ (hoth h))
            · rcases insF_cases hxy with e | ⟨h6, g', hxy'⟩ | ⟨h6, g', hxy'⟩
              · obtain ⟨rfl, rfl⟩ := e
                exact absurd hno (i2 _ (hoth h5))
              · exact i5 g' x y hxy' h3 h4 h5
              · omega
          · rw [clm, if_neg hno, clm, ej, el, er, i1.at i3', i1.at hno]
            refine ⟨i1.upd (by rw [hnv]; rfl), fun s hs => ext_upd _ _ _ s (i2 s hs), fun o e => ?_, fun _ => by simp, fun g x y hxy h3 h4 h5 => ?_⟩
            · simp only [Option.some.injEq] at e
              subst e
              exact ⟨rfl, by simp [upd]⟩
            · rcases insF_cases hxy with e | ⟨h6, g', hxy'⟩ | ⟨h6, g', hxy'⟩
              · obtain ⟨rfl, rfl⟩ := e
                simp [upd]
              · exact ext_upd _ _ _ _ (i5 g' x y hxy' h3 h4 h5)
              · omega
      · rw [pthF_right (by omega) hl, clm_append]
        have ih := climb hv hi hs h0 hc f (b + sp m) (m - sp m) (by omega) (by omega) hN (by omega) (by omega) (by rw [show b + sp m + (m - sp m) = b + m by omega]; exact hpt.2) (fun s hs => ho s (List.mem_append_right _ hs))
        rw [show b + sp m + (m - sp m) = b + m by omega] at ih
        generalize clm f0 (i, i + 1) (pthF f (b + sp m) (m - sp m) i) = R at ih ⊢
        obtain ⟨g1, R2⟩ := R
        obtain ⟨i1, i2, i3, i4, i5⟩ := ih
        simp only at i1 i2 i3 i4 i5 ⊢
        have hoth : f0 (b, b + sp m) ≠ none := by
          cases e : tch ix b (b + sp m) with
          | false =>
            obtain ⟨f', rfl⟩ : ∃ f', f = f' + 1 := ⟨f - 1, by omega⟩
            exact ho (b, b + sp m) (List.mem_append_left _ (by rw [othF_no e]; exact List.mem_singleton.2 rfl))
          | true => exact hc _ _ hpt.1 e (fun j _ _ h => by omega)
        cases R2 with
        | none =>
          refine ⟨i1, i2, fun o e => by simp at e, fun h => ?_, fun g x y hxy h3 h4 h5 => ?_⟩
          · exact absurd rfl (i4 (fun j hj h3 h4 => h j hj (by omega) (by omega)))
          · rcases insF_cases hxy with e | ⟨h6, g', hxy'⟩ | ⟨h6, g', hxy'⟩
            · exact absurd rfl (i4 (fun j hj h6 h7 => h5 j hj (by omega) (by omega)))
            · omega
            · exact i5 g' x y hxy' h3 h4 h5
        | some o =>
          obtain ⟨rfl, i3'⟩ := i3 o rfl
          simp only
          have ej : jn (b + sp m, b + m) (b, b + sp m) = (b, b + m) := by unfold jn; rw [if_pos (by simp; omega)]
          have el : jl (b + sp m, b + m) (b, b + sp m) = (b, b + sp m) := by unfold jl; rw [if_pos (by simp; omega)]
          have er : jr (b + sp m, b + m) (b, b + sp m) = (b + sp m, b + m) := by unfold jr; rw [if_pos (by simp; omega)]
          have hno : g1 (b, b + sp m) ≠ none := i2 _ hoth
          rw [clm, if_neg hno, clm, ej, el, er, i1.at i3', i1.at hno]
          refine ⟨i1.upd (by rw [hnv]; rfl), fun s hs => ext_upd _ _ _ s (i2 s hs), fun o e => ?_, fun _ => by simp, fun g x y hxy h3 h4 h5 => ?_⟩
          · simp only [Option.some.injEq] at e
            subst e
            exact ⟨rfl, by simp [upd]⟩
          · rcases insF_cases hxy with e | ⟨h6, g', hxy'⟩ | ⟨h6, g', hxy'⟩
            · obtain ⟨rfl, rfl⟩ := e
              simp [upd]
            · omega
            · exact ext_upd _ _ _ _ (i5 g' x y hxy' h3 h4 h5)
structure Cl (ix : List Nat) (n : Nat) (val : Nat × Nat → T) (K : Nat) (f : Kn) : Prop where
  s : Snd val f
  t : ∀ s ∈ othF n 0 n ix, f s ≠ none
  l : ∀ i ∈ ix, f (i, i + 1) ≠ none
  c : ∀ x y, insF n 0 n x y = true → tch ix x y = true → (∀ j ∈ ix, x ≤ j → j < y → j ∈ ix.take K) → f (x, y) ≠ none
theorem Cl.next {ix : List Nat} {n : Nat} {val : Nat × Nat → T} {K : Nat} {f : Kn} (h : Cl ix n val K f) (hv : ∀ b m, 2 ≤ m → tch ix b (b + m) = true → val (b, b + m) = nd (val (b, b + sp m)) (val (b + sp m, b + m))) (hp : ix.Pairwise (· < ·)) (hn : ∀ i ∈ ix, i < n) {i : Nat} (hi : ix[K]? = some i) :
    Cl ix n val (K + 1) (clm f (i, i + 1) (pthF n 0 n i)).1 := by
  have hm := List.mem_of_getElem? hi
  have hin := hn i hm
  obtain ⟨n', rfl⟩ : ∃ n', n = n' + 1 := ⟨n - 1, by omega⟩
  have hlt : ∀ j ∈ ix.take K, j < i := fun j hj => by
    obtain ⟨k, hk, e⟩ := List.mem_iff_getElem.1 hj
    rw [List.length_take] at hk
    obtain ⟨hK, e2⟩ := List.getElem?_eq_some_iff.1 hi
    have := List.pairwise_iff_getElem.1 hp k K (by omega) hK (by omega)
    rw [List.getElem_take] at e
    omega
  have hge : ∀ j ∈ ix, j < i → j ∈ ix.take K := fun j hj hji => by
    obtain ⟨k, hk, e⟩ := List.mem_iff_getElem.1 hj
    obtain ⟨hK, e2⟩ := List.getElem?_eq_some_iff.1 hi
    have hkK : k < K := by
      by_cases c : k < K
      · exact c
      · by_cases c2 : k = K
        · subst c2; omega
        · have := List.pairwise_iff_getElem.1 hp K k hK hk (by omega); omega
    exact List.mem_iff_getElem.2 ⟨k, by rw [List.length_take]; omega, by rw [List.getElem_take]; exact e⟩
  have hsucc : ∀ j ∈ ix.take (K + 1), j ≤ i := fun j hj => by
    rw [List.take_add_one, hi] at hj
    rcases List.mem_append.1 hj with hj | hj
    · have := hlt j hj; omega
    · simp at hj; omega
  obtain ⟨c1, c2, c3, c4, c5⟩ := climb hv hm h.s (h.l i hm) (N := n' + 1) (fun x y h1 h2 h3 => h.c x y h1 h2 fun j hj h4 h5 => hge j hj (h3 j hj h4 h5)) (n' + 1) 0 (n' + 1) (by omega) (Nat.le_refl _) (by omega) (by omega) (by omega) (by rw [show (0 : Nat) + (n' + 1) = 0 + (n' + 1) from rfl]; exact insF_self) (fun s hs => h.t s hs)
  refine ⟨c1, fun s hs => c2 s (h.t s hs), fun j hj => c2 _ (h.l j hj), fun x y h1 h2 h3 => ?_⟩
  by_cases hi' : x ≤ i ∧ i < y
  · exact c5 (n' + 1) x y h1 hi'.1 hi'.2 (fun j hj h4 h5 => hsucc j (h3 j hj h4 h5))
  · refine c2 _ (h.c x y h1 h2 fun j hj h4 h5 => ?_)
    have hj1 := hsucc j (h3 j hj h4 h5)
    exact hge j hj (by rcases Nat.lt_or_ge j i with q | q; exact q; exact absurd ⟨by omega, by omega⟩ hi')
theorem Cl.last {ix : List Nat} {n : Nat} {val : Nat × Nat → T} {f : Kn} (h : Cl ix n val ix.length f) {x y : Nat} (h1 : insF n 0 n x y = true) (h2 : tch ix x y = true) : f (x, y) = some (val (x, y)) :=
  h.s.at (h.c x y h1 h2 fun j hj _ _ => by rw [List.take_length]; exact hj)
theorem Cl.root {ix : List Nat} {n : Nat} {val : Nat × Nat → T} {f : Kn} (h : Cl ix n val ix.length f) (h0 : ix ≠ []) (hn : ∀ i ∈ ix, i < n) : f (0, n) = some (val (0, n)) := by
  obtain ⟨i, hi⟩ := List.exists_mem_of_ne_nil _ h0
  have := hn i hi
  obtain ⟨n', rfl⟩ : ∃ n', n = n' + 1 := ⟨n - 1, by omega⟩
  refine h.last ?_ (tch_mem.2 ⟨i, hi, by omega, this⟩)
  have := insF_self (f := n') (b := 0) (n := n' + 1)
  rwa [Nat.zero_add] at this
theorem pth_known {ix : List Nat} {i N : Nat} (hi : i ∈ ix) (p : Nat × Nat → Prop) (hN : 1 ≤ N) (hc : ∀ x y, insF N 0 N x y = true → tch ix x y = true → p (x, y)) :
    ∀ (f b m : Nat), 1 ≤ m → m ≤ f → b ≤ i → i < b + m → insF N 0 N b (b + m) = true → (∀ s ∈ othF f b m ix, p s) → ∀ s ∈ pthF f b m i, p s
  | 0, b, m, h1, h2, _, _, _, _ => by omega
  | f + 1, b, m, h1, h2, hb, hbm, hin, ho => by
    have htc : tch ix b (b + m) = true := tch_mem.2 ⟨i, hi, hb, hbm⟩
    by_cases hm : m < 2
    · rw [pthF_small hm]; intro s hs; cases hs
    · have s1 := sp_lt (n := m) (by omega)
      have s2 := sp_pos (n := m) (by omega)
      have hpt := insF_parts N 0 N b (b + m) (Nat.le_refl _) hN hin (by omega)
      rw [show b + m - b = m by omega] at hpt
      rw [othF_two (f := f) htc (show 2 ≤ m by omega)] at ho
      obtain ⟨f', rfl⟩ : ∃ f', f = f' + 1 := ⟨f - 1, by omega⟩
      intro s hs
      by_cases hl : i < b + sp m
      · rw [pthF_left (by omega) hl] at hs
        rcases List.mem_append.1 hs with hs | hs
        · exact pth_known hi p hN hc (f' + 1) b (sp m) (by omega) (by omega) hb hl hpt.1 (fun s hs => ho s (List.mem_append_left _ hs)) s hs
        · obtain rfl := List.mem_singleton.1 hs
          cases e : tch ix (b + sp m) (b + sp m + (m - sp m)) with
          | false => exact ho _ (List.mem_append_right _ (by rw [othF_no e, show b + sp m + (m - sp m) = b + m by omega]; exact List.mem_singleton.2 rfl))
          | true => exact hc _ _ hpt.2 (by rw [show b + sp m + (m - sp m) = b + m by omega] at e; exact e)
      · rw [pthF_right (by omega) hl] at hs
        rcases List.mem_append.1 hs with hs | hs
        · exact pth_known hi p hN hc (f' + 1) (b + sp m) (m - sp m) (by omega) (by omega) (by omega) (by omega) (by rw [show b + sp m + (m - sp m) = b + m by omega]; exact hpt.2) (fun s hs => ho s (List.mem_append_right _ hs)) s hs
        · obtain rfl := List.mem_singleton.1 hs
          cases e : tch ix b (b + sp m) with
          | false => exact ho _ (List.mem_append_left _ (by rw [othF_no e]; exact List.mem_singleton.2 rfl))
          | true => exact hc _ _ hpt.1 e
theorem Cl.path {ix : List Nat} {n : Nat} {val : Nat × Nat → T} {f : Kn} (h : Cl ix n val ix.length f) {i : Nat} (hi : i ∈ ix) (hn : i < n) : ∀ s ∈ pthF n 0 n i, f s = some (val s) := by
  obtain ⟨n', rfl⟩ : ∃ n', n = n' + 1 := ⟨n - 1, by omega⟩
  have hs := insF_self (f := n') (b := 0) (n := n' + 1)
  exact pth_known hi (fun s => f s = some (val s)) (by omega) (fun x y h1 h2 => h.last h1 h2) (n' + 1) 0 (n' + 1) (by omega) (Nat.le_refl _) (by omega) (by omega) hs (fun s hs => h.s.at (h.t s hs))
end Bat
end Go.Proofs.YtbodgecbakcaaaaGreatDoor
