import Derived.Test.YthoakchdlidemaaDoorPkSH3
import Derived.Test.YthoakchdlidemaaDoorPkFR6
/- THE PLAIN MATHEMATICS OF LAYER 12: what is known of a batch, and how it is climbed; nothing of the program. -/
namespace Go.Proofs.YthoakchdlidemaaDoor
namespace Bat
open Tree
theorem tch_sub {is : List Nat} {b e x y : Nat} (h : tch is x y = true) (h1 : b ≤ x) (h2 : y ≤ e) : tch is b e = true := by
  obtain ⟨i, hi, h3, h4⟩ := tch_mem.1 h
  exact tch_mem.2 ⟨i, hi, by omega, by omega⟩
theorem hashAt_map (K : List (Nat × Nat)) : ∀ (H : List T), K.Nodup → H.length = K.length → K.map (hashAt K H) = H := by
  induction K with
  | nil => intro H _ h; cases H with
    | nil => rfl
    | cons a H => cases h
  | cons k K ih =>
    intro H hn hl
    cases H with
    | nil => cases hl
    | cons h H =>
      rw [List.nodup_cons] at hn
      rw [List.map_cons]
      have e1 : hashAt (k :: K) (h :: H) k = h := by rw [hashAt, if_pos rfl]
      have e2 : K.map (hashAt (k :: K) (h :: H)) = K.map (hashAt K H) := List.map_congr_left fun s hs => by
        rw [hashAt, if_neg (fun e => hn.1 (by rw [e]; exact hs))]
      rw [e1, e2, ih H hn.2 (by simpa using hl)]
theorem apt_nodup : ∀ {b e : Nat} {l : List (Nat × Nat)} {p : Nat → Bool}, Apt b e l p → l.Nodup ∧ ∀ s ∈ l, b ≤ s.1 ∧ s.1 < s.2 ∧ s.2 ≤ e ∧ ∀ i, s.1 ≤ i → i < s.2 → p i = false
  | b, e, [], p, _ => ⟨List.nodup_nil, fun s hs => by cases hs⟩
  | b, e, s :: r, p, ⟨h1, h2, h3, h4, h5, h6⟩ => by
    obtain ⟨n1, n2⟩ := apt_nodup h6
    refine ⟨List.nodup_cons.2 ⟨fun hm => ?_, n1⟩, fun t ht => ?_⟩
    · have := n2 s hm; omega
    · rcases List.mem_cons.1 ht with rfl | ht
      · exact ⟨h1, h2, h3, h5⟩
      · have := n2 t ht
        exact ⟨by omega, this.2.1, this.2.2.1, this.2.2.2⟩
/-- the hash of the subtree [b, b + m): a told one, a leaf, or made of its parts -/
def valF (T' : List (Nat × Nat)) (H : List T) (ix : List Nat) (L : List T) : Nat → Nat → Nat → T
  | 0, _, _ => []
  | f + 1, b, m => if tch ix b (b + m) = false then hashAt T' H (b, b + m) else if m < 2 then hashAt (ix.map fun i => (i, i + 1)) L (b, b + m) else nd (valF T' H ix L f b (sp m)) (valF T' H ix L f (b + sp m) (m - sp m))
theorem valF_fuel (T' : List (Nat × Nat)) (H : List T) (ix : List Nat) (L : List T) : ∀ (f g b m : Nat), 1 ≤ m → m ≤ f → m ≤ g → valF T' H ix L f b m = valF T' H ix L g b m
  | 0, _, _, _, h1, h, _ => by omega
  | _ + 1, 0, _, _, h1, _, h => by omega
  | f + 1, g + 1, b, m, h1, h2, h3 => by
    rw [valF, valF]
    split
    · rfl
    · split
      · rfl
      · have s1 := sp_lt (n := m) (by omega)
        have s2 := sp_pos (n := m) (by omega)
        rw [valF_fuel T' H ix L f g b (sp m) (by omega) (by omega) (by omega), valF_fuel T' H ix L f g (b + sp m) (m - sp m) (by omega) (by omega) (by omega)]
/-- a hash of each subtree, that fits told hashes and leaves -/
structure Val (ix : List Nat) (n : Nat) (H L : List T) (val : Nat × Nat → T) : Prop where
  h : H = (othF n 0 n ix).map val
  l : L = ix.map fun i => val (i, i + 1)
  n : ∀ b m, 2 ≤ m → tch ix b (b + m) = true → val (b, b + m) = nd (val (b, b + sp m)) (val (b + sp m, b + m))
theorem val_is (ix : List Nat) (n : Nat) (H L : List T) (hn : 1 ≤ n) (hi : ix.Nodup) (hH : H.length = (othF n 0 n ix).length) (hL : L.length = ix.length) : ∃ val, Val ix n H L val := by
  obtain ⟨n1, n2⟩ := apt_nodup (othF_apart ix n 0 n hn (Nat.le_refl _))
  refine ⟨fun s => valF (othF n 0 n ix) H ix L (s.2 - s.1) s.1 (s.2 - s.1), ?_, ?_, fun b m h2 ht => ?_⟩
  · rw [← hashAt_map (othF n 0 n ix) H n1 hH]
    refine List.map_congr_left fun s hs => ?_
    rw [hashAt_map (othF n 0 n ix) H n1 hH]
    obtain ⟨q1, q2, q3, q4⟩ := n2 s hs
    obtain ⟨f, hf⟩ : ∃ f, s.2 - s.1 = f + 1 := ⟨s.2 - s.1 - 1, by omega⟩
    have e : s.1 + (s.2 - s.1) = s.2 := by omega
    have ht : tch ix s.1 (s.1 + (f + 1)) = false := by
      rw [← hf, e]
      cases h : tch ix s.1 s.2 with
      | false => rfl
      | true =>
        obtain ⟨i, hi, h3, h4⟩ := tch_mem.1 h
        have := q4 i h3 h4
        simp [hi] at this
    show _ = valF (othF n 0 n ix) H ix L (s.2 - s.1) s.1 (s.2 - s.1)
    rw [hf, valF, if_pos ht, ← hf, e]
  · have hm : (ix.map fun i => (i, i + 1)).Nodup := by
      rw [List.Nodup, List.pairwise_map]
      exact hi.imp fun h e => h (Prod.ext_iff.1 e).1
    have := hashAt_map (ix.map fun i => (i, i + 1)) L hm (by simpa using hL)
    rw [List.map_map] at this
    refine this.symm.trans (List.map_congr_left fun i hi' => ?_)
    show hashAt _ L (i, i + 1) = valF _ H ix L (i + 1 - i) i (i + 1 - i)
    rw [show i + 1 - i = 0 + 1 by omega, valF, if_neg (by rw [tch_mem.2 ⟨i, hi', by omega, by omega⟩]; simp), if_pos (by omega)]
  · have s1 := sp_lt (n := m) h2
    have s2 := sp_pos (n := m) h2
    show valF _ H ix L (b + m - b) b (b + m - b) = nd (valF _ H ix L (b + sp m - b) b (b + sp m - b)) (valF _ H ix L (b + m - (b + sp m)) (b + sp m) (b + m - (b + sp m)))
    rw [show b + m - b = m by omega, show b + sp m - b = sp m by omega, show b + m - (b + sp m) = m - sp m by omega]
    obtain ⟨f, rfl⟩ : ∃ f, m = f + 1 := ⟨m - 1, by omega⟩
    rw [valF, if_neg (by rw [ht]; simp), if_neg (by omega), valF_fuel _ H ix L f (sp (f + 1)) b (sp (f + 1)) (by omega) (by omega) (by omega), valF_fuel _ H ix L f (f + 1 - sp (f + 1)) (b + sp (f + 1)) (f + 1 - sp (f + 1)) (by omega) (by omega) (by omega)]
/-- what is known -/
abbrev Kn := Nat × Nat → Option T
def upd (f : Kn) (s : Nat × Nat) (h : T) : Kn := fun t => if t = s then some h else f t
/-- two that lie beside each other -/
def jn (a b : Nat × Nat) : Nat × Nat := if b.1 < a.1 then (b.1, a.2) else (a.1, b.2)
def jl (a b : Nat × Nat) : Nat × Nat := if b.1 < a.1 then b else a
def jr (a b : Nat × Nat) : Nat × Nat := if b.1 < a.1 then a else b
/-- what is known behind a climb over these, and how far it came -/
def clm : Kn → Nat × Nat → List (Nat × Nat) → Kn × Option (Nat × Nat)
  | f, on, [] => (f, some on)
  | f, on, s :: P => if f s = none then (f, none) else clm (upd f (jn on s) (nd ((f (jl on s)).getD []) ((f (jr on s)).getD []))) (jn on s) P
theorem clm_append : ∀ (P Q : List (Nat × Nat)) (f : Kn) (on : Nat × Nat), clm f on (P ++ Q) = match (clm f on P).2 with | none => ((clm f on P).1, none) | some o => clm (clm f on P).1 o Q
  | [], Q, f, on => rfl
  | s :: P, Q, f, on => by
    rw [List.cons_append, clm, clm]
    split
    · rfl
    · exact clm_append P Q _ _
/-- all that is known is so -/
def Snd (val : Nat × Nat → T) (f : Kn) : Prop := ∀ s h, f s = some h → h = val s
def Ext (f g : Kn) : Prop := ∀ s, f s ≠ none → g s ≠ none
theorem Snd.upd {val : Nat × Nat → T} {f : Kn} (h : Snd val f) {s : Nat × Nat} {x : T} (hx : x = val s) : Snd val (Bat.upd f s x) := fun t y ht => by
  unfold Bat.upd at ht
  split at ht
  · rename_i e; rw [e, ← hx]; exact (Option.some.inj ht).symm
  · exact h t y ht
theorem ext_upd (f : Kn) (s : Nat × Nat) (x : T) : Ext f (upd f s x) := fun t ht => by
  unfold upd
  split
  · simp
  · exact ht
theorem Snd.at {val : Nat × Nat → T} {f : Kn} (h : Snd val f) {s : Nat × Nat} (hs : f s ≠ none) : f s = some (val s) := by
  cases e : f s with
  | none => exact absurd e hs
  | some x => rw [h s x e]
theorem insF_cases {g b m x y : Nat} (h : insF g b m x y = true) : (x = b ∧ y = b + m) ∨ (y ≤ b + sp m ∧ ∃ g', insF g' b (sp m) x y = true) ∨ (b + sp m ≤ x ∧ ∃ g', insF g' (b + sp m) (m - sp m) x y = true) := by
  cases g with
  | zero => cases h
  | succ g =>
    rw [insF] at h
    by_cases c1 : x = b ∧ y = b + m
    · exact .inl c1
    · rw [if_neg c1] at h
      by_cases c2 : m < 2
      · rw [if_pos c2] at h; cases h
      · rw [if_neg c2] at h
        by_cases c3 : y ≤ b + sp m
        · rw [if_pos c3] at h; exact .inr (.inl ⟨c3, g, h⟩)
        · rw [if_neg c3] at h
          by_cases c4 : b + sp m ≤ x
          · rw [if_pos c4] at h; exact .inr (.inr ⟨c4, g, h⟩)
          · rw [if_neg c4] at h; cases h
theorem climb {ix : List Nat} {val : Nat × Nat → T} (hv : ∀ b m, 2 ≤ m → tch ix b (b + m) = true → val (b, b + m) = nd (val (b, b + sp m)) (val (b + sp m, b + m))) {i : Nat} (hi : i ∈ ix) {f0 : Kn} (hs : Snd val f0) (h0 : f0 (i, i + 1) ≠ none) {N : Nat}
    (hc : ∀ x y, insF N 0 N x y = true → tch ix x y = true → (∀ j ∈ ix, x ≤ j → j < y → j < i) → f0 (x, y) ≠ none) :
    ∀ (f b m : Nat), 1 ≤ m → m ≤ f → 1 ≤ N → b ≤ i → i < b + m → insF N 0 N b (b + m) = true → (∀ s ∈ othF f b m ix, f0 s ≠ none) →
      Snd val (clm f0 (i, i + 1) (pthF f b m i)).1 ∧ Ext f0 (clm f0 (i, i + 1) (pthF f b m i)).1 ∧ (∀ o, (clm f0 (i, i + 1) (pthF f b m i)).2 = some o → o = (b, b + m) ∧ (clm f0 (i, i + 1) (pthF f b m i)).1 o ≠ none) ∧
      ((∀ j ∈ ix, b ≤ j → j < b + m → j ≤ i) → (clm f0 (i, i + 1) (pthF f b m i)).2 ≠ none) ∧
      ∀ g x y, insF g b m x y = true → x ≤ i → i < y → (∀ j ∈ ix, x ≤ j → j < y → j ≤ i) → (clm f0 (i, i + 1) (pthF f b m i)).1 (x, y) ≠ none
  | 0, b, m, h1, h2, _, _, _, _, _ => by omega
  | f + 1, b, m, h1, h2, hN, hb, hbm, hin, ho => by
    have htc : tch ix b (b + m) = true := tch_mem.2 ⟨i, hi, hb, hbm⟩
    by_cases hm : m < 2
    · obtain rfl : m = 1 := by omega
      obtain rfl : b = i := by omega
      rw [pthF_small (by omega)]
      refine ⟨hs, fun _ h => h, fun o e => ?_, fun _ => by simp [clm], fun g x y hxy h3 h4 _ => ?_⟩
      · simp only [clm, Option.some.injEq] at e
        exact ⟨e.symm, by rw [← e]; exact h0⟩
      · have := insF_in g b 1 x y hxy (by omega)
        rw [show x = b by omega, show y = b + 1 by omega]
        exact h0
    · have s1 := sp_lt (n := m) (by omega)
      have s2 := sp_pos (n := m) (by omega)
      have hpt := insF_parts N 0 N b (b + m) (Nat.le_refl _) hN hin (by omega)
      rw [show b + m - b = m by omega] at hpt
      have hot := othF_two (f := f) htc (show 2 ≤ m by omega)
      rw [hot] at ho
      have hnv := hv b m (by omega) htc
      by_cases hl : i < b + sp m
      · rw [pthF_left (by omega) hl, clm_append]
        have ih := climb hv hi hs h0 hc f b (sp m) (by omega) (by omega) hN hb hl hpt.1 (fun s hs => ho s (List.mem_append_left _ hs))
        generalize clm f0 (i, i + 1) (pthF f b (sp m) i) = R at ih ⊢
        obtain ⟨g1, R2⟩ := R
        obtain ⟨i1, i2, i3, i4, i5⟩ := ih
        simp only at i1 i2 i3 i4 i5 ⊢
        have hoth : (∀ j ∈ ix, b ≤ j → j < b + m → j ≤ i) → f0 (b + sp m, b + m) ≠ none := fun h => by
          have ht : tch ix (b + sp m) (b + sp m + (m - sp m)) = false := by
            cases e : tch ix (b + sp m) (b + sp m + (m - sp m)) with
            | false => rfl
            | true =>
              obtain ⟨j, hj, h3, h4⟩ := tch_mem.1 e
              have := h j hj (by omega) (by omega)
              omega
          obtain ⟨f', rfl⟩ : ∃ f', f = f' + 1 := ⟨f - 1, by omega⟩
          have := ho (b + sp m, b + m) (List.mem_append_right _ (by rw [othF_no ht, show b + sp m + (m - sp m) = b + m by omega]; exact List.mem_singleton.2 rfl))
          exact this
        cases R2 with
        | none =>
          refine ⟨i1, i2, fun o e => by simp at e, fun h => ?_, fun g x y hxy h3 h4 h5 => ?_⟩
          · exact absurd rfl (i4 (fun j hj h3 h4 => h j hj h3 (by omega)))
          · rcases insF_cases hxy with e | ⟨h6, g', hxy'⟩ | ⟨h6, g', hxy'⟩
            · exact absurd rfl (i4 (fun j hj h6 h7 => h5 j hj (by omega) (by omega)))
            · exact i5 g' x y hxy' h3 h4 h5
            · omega
        | some o =>
          obtain ⟨rfl, i3'⟩ := i3 o rfl
          simp only
          have ej : jn (b, b + sp m) (b + sp m, b + m) = (b, b + m) := by unfold jn; rw [if_neg (by simp)]
          have el : jl (b, b + sp m) (b + sp m, b + m) = (b, b + sp m) := by unfold jl; rw [if_neg (by simp)]
          have er : jr (b, b + sp m) (b + sp m, b + m) = (b + sp m, b + m) := by unfold jr; rw [if_neg (by simp)]
          by_cases hno : g1 (b + sp m, b + m) = none
          · rw [clm, if_pos hno]
            refine ⟨i1, i2, fun o e => by simp at e, fun h => ?_, fun g x y hxy h3 h4 h5 => ?_⟩
            · exact absurd hno (i2 _ (hoth h))
            · rcases insF_cases hxy with e | ⟨h6, g', hxy'⟩ | ⟨h6, g', hxy'⟩
              · obtain ⟨rfl, rfl⟩ := e
                exact absurd hno (i2 _ (hoth h5))
              · exact i5 g' x y hxy' h3 h4 h5
              · omega
          · rw [clm, if_neg hno, clm, ej, el, er, i1.at i3', i1.at hno]
            refine ⟨i1.upd (by rw [hnv]; rfl), fun s hs => ext_upd _ _ _ s (i2 s hs), fun o e => ?_, fun _ => by simp, fun g x y hxy h3 h4 h5 => ?_⟩
            · simp only [Option.some.injEq] at e
              subst e
              exact ⟨rfl, by simp [upd]⟩
            · rcases insF_cases hxy with e | ⟨h6, g', hxy'⟩ | ⟨h6, g', hxy'⟩
              · obtain ⟨rfl, rfl⟩ := e
                simp [upd]
              · exact ext_upd _ _ _ _ (i5 g' x y hxy' h3 h4 h5)
              · omega
      · rw [pthF_right (by omega) hl, clm_append]
        have ih := climb hv hi hs h0 hc f (b + sp m) (m - sp m) (by omega) (by omega) hN (by omega) (by omega) (by rw [show b + sp m + (m - sp m) = b + m by omega]; exact hpt.2) (fun s hs => ho s (List.mem_append_right _ hs))
        rw [show b + sp m + (m - sp m) = b + m by omega] at ih
        generalize clm f0 (i, i + 1) (pthF f (b + sp m) (m - sp m) i) = R at ih ⊢
        obtain ⟨g1, R2⟩ := R
        obtain ⟨i1, i2, i3, i4, i5⟩ := ih
        simp only at i1 i2 i3 i4 i5 ⊢
        have hoth : f0 (b, b + sp m) ≠ none := by
          cases e : tch ix b (b + sp m) with
          | false =>
            obtain ⟨f', rfl⟩ : ∃ f', f = f' + 1 := ⟨f - 1, by omega⟩
            exact ho (b, b + sp m) (List.mem_append_left _ (by rw [othF_no e]; exact List.mem_singleton.2 rfl))
          | true => exact hc _ _ hpt.1 e (fun j _ _ h => by omega)
        cases R2 with
        | none =>
          refine ⟨i1, i2, fun o e => by simp at e, fun h => ?_, fun g x y hxy h3 h4 h5 => ?_⟩
          · exact absurd rfl (i4 (fun j hj h3 h4 => h j hj (by omega) (by omega)))
          · rcases insF_cases hxy with e | ⟨h6, g', hxy'⟩ | ⟨h6, g', hxy'⟩
            · exact absurd rfl (i4 (fun j hj h6 h7 => h5 j hj (by omega) (by omega)))
            · omega
            · exact i5 g' x y hxy' h3 h4 h5
        | some o =>
          obtain ⟨rfl, i3'⟩ := i3 o rfl
          simp only
          have ej : jn (b + sp m, b + m) (b, b + sp m) = (b, b + m) := by unfold jn; rw [if_pos (by simp; omega)]
          have el : jl (b + sp m, b + m) (b, b + sp m) = (b, b + sp m) := by unfold jl; rw [if_pos (by simp; omega)]
          have er : jr (b + sp m, b + m) (b, b + sp m) = (b + sp m, b + m) := by unfold jr; rw [if_pos (by simp; omega)]
          have hno : g1 (b, b + sp m) ≠ none := i2 _ hoth
          rw [clm, if_neg hno, clm, ej, el, er, i1.at i3', i1.at hno]
          refine ⟨i1.upd (by rw [hnv]; rfl), fun s hs => ext_upd _ _ _ s (i2 s hs), fun o e => ?_, fun _ => by simp, fun g x y hxy h3 h4 h5 => ?_⟩
          · simp only [Option.some.injEq] at e
            subst e
            exact ⟨rfl, by simp [upd]⟩
          · rcases insF_cases hxy with e | ⟨h6, g', hxy'⟩ | ⟨h6, g', hxy'⟩
            · obtain ⟨rfl, rfl⟩ := e
              simp [upd]
            · omega
            · exact ext_upd _ _ _ _ (i5 g' x y hxy' h3 h4 h5)
/-- what is known while all leaves are climbed from -/
structure Cl (ix : List Nat) (n : Nat) (val : Nat × Nat → T) (K : Nat) (f : Kn) : Prop where
  s : Snd val f
  t : ∀ s ∈ othF n 0 n ix, f s ≠ none
  l : ∀ i ∈ ix, f (i, i + 1) ≠ none
  c : ∀ x y, insF n 0 n x y = true → tch ix x y = true → (∀ j ∈ ix, x ≤ j → j < y → j ∈ ix.take K) → f (x, y) ≠ none
theorem Cl.next {ix : List Nat} {n : Nat} {val : Nat × Nat → T} {K : Nat} {f : Kn} (h : Cl ix n val K f) (hv : ∀ b m, 2 ≤ m → tch ix b (b + m) = true → val (b, b + m) = nd (val (b, b + sp m)) (val (b + sp m, b + m))) (hp : ix.Pairwise (· < ·)) (hn : ∀ i ∈ ix, i < n) {i : Nat} (hi : ix[K]? = some i) :
    Cl ix n val (K + 1) (clm f (i, i + 1) (pthF n 0 n i)).1 := by
  have hm := List.mem_of_getElem? hi
  have hin := hn i hm
  obtain ⟨n', rfl⟩ : ∃ n', n = n' + 1 := ⟨n - 1, by omega⟩
  have hlt : ∀ j ∈ ix.take K, j < i := fun j hj => by
    obtain ⟨k, hk, e⟩ := List.mem_iff_getElem.1 hj
    rw [List.length_take] at hk
    obtain ⟨hK, e2⟩ := List.getElem?_eq_some_iff.1 hi
    have := List.pairwise_iff_getElem.1 hp k K (by omega) hK (by omega)
    rw [List.getElem_take] at e
    omega
  have hge : ∀ j ∈ ix, j < i → j ∈ ix.take K := fun j hj hji => by
    obtain ⟨k, hk, e⟩ := List.mem_iff_getElem.1 hj
    obtain ⟨hK, e2⟩ := List.getElem?_eq_some_iff.1 hi
    have hkK : k < K := by
      by_cases c : k < K
      · exact c
      · by_cases c2 : k = K
        · subst c2; omega
        · have := List.pairwise_iff_getElem.1 hp K k hK hk (by omega); omega
    exact List.mem_iff_getElem.2 ⟨k, by rw [List.length_take]; omega, by rw [List.getElem_take]; exact e⟩
  have hsucc : ∀ j ∈ ix.take (K + 1), j ≤ i := fun j hj => by
    rw [List.take_add_one, hi] at hj
    rcases List.mem_append.1 hj with hj | hj
    · have := hlt j hj; omega
    · simp at hj; omega
  obtain ⟨c1, c2, c3, c4, c5⟩ := climb hv hm h.s (h.l i hm) (N := n' + 1) (fun x y h1 h2 h3 => h.c x y h1 h2 fun j hj h4 h5 => hge j hj (h3 j hj h4 h5)) (n' + 1) 0 (n' + 1) (by omega) (Nat.le_refl _) (by omega) (by omega) (by omega) (by rw [show (0 : Nat) + (n' + 1) = 0 + (n' + 1) from rfl]; exact insF_self) (fun s hs => h.t s hs)
  refine ⟨c1, fun s hs => c2 s (h.t s hs), fun j hj => c2 _ (h.l j hj), fun x y h1 h2 h3 => ?_⟩
  by_cases hi' : x ≤ i ∧ i < y
  · exact c5 (n' + 1) x y h1 hi'.1 hi'.2 (fun j hj h4 h5 => hsucc j (h3 j hj h4 h5))
  · refine c2 _ (h.c x y h1 h2 fun j hj h4 h5 => ?_)
    have hj1 := hsucc j (h3 j hj h4 h5)
    exact hge j hj (by rcases Nat.lt_or_ge j i with q | q; exact q; exact absurd ⟨by omega, by omega⟩ hi')
/-- in the end each subtree that has a leaf is known -/
theorem Cl.last {ix : List Nat} {n : Nat} {val : Nat × Nat → T} {f : Kn} (h : Cl ix n val ix.length f) {x y : Nat} (h1 : insF n 0 n x y = true) (h2 : tch ix x y = true) : f (x, y) = some (val (x, y)) :=
  h.s.at (h.c x y h1 h2 fun j hj _ _ => by rw [List.take_length]; exact hj)
theorem Cl.root {ix : List Nat} {n : Nat} {val : Nat × Nat → T} {f : Kn} (h : Cl ix n val ix.length f) (h0 : ix ≠ []) (hn : ∀ i ∈ ix, i < n) : f (0, n) = some (val (0, n)) := by
  obtain ⟨i, hi⟩ := List.exists_mem_of_ne_nil _ h0
  have := hn i hi
  obtain ⟨n', rfl⟩ : ∃ n', n = n' + 1 := ⟨n - 1, by omega⟩
  refine h.last ?_ (tch_mem.2 ⟨i, hi, by omega, this⟩)
  have := insF_self (f := n') (b := 0) (n := n' + 1)
  rwa [Nat.zero_add] at this
theorem pth_known {ix : List Nat} {i N : Nat} (hi : i ∈ ix) (p : Nat × Nat → Prop) (hN : 1 ≤ N) (hc : ∀ x y, insF N 0 N x y = true → tch ix x y = true → p (x, y)) :
    ∀ (f b m : Nat), 1 ≤ m → m ≤ f → b ≤ i → i < b + m → insF N 0 N b (b + m) = true → (∀ s ∈ othF f b m ix, p s) → ∀ s ∈ pthF f b m i, p s
  | 0, b, m, h1, h2, _, _, _, _ => by omega
  | f + 1, b, m, h1, h2, hb, hbm, hin, ho => by
    have htc : tch ix b (b + m) = true := tch_mem.2 ⟨i, hi, hb, hbm⟩
    by_cases hm : m < 2
    · rw [pthF_small hm]; intro s hs; cases hs
    · have s1 := sp_lt (n := m) (by omega)
      have s2 := sp_pos (n := m) (by omega)
      have hpt := insF_parts N 0 N b (b + m) (Nat.le_refl _) hN hin (by omega)
      rw [show b + m - b = m by omega] at hpt
      rw [othF_two (f := f) htc (show 2 ≤ m by omega)] at ho
      obtain ⟨f', rfl⟩ : ∃ f', f = f' + 1 := ⟨f - 1, by omega⟩
      intro s hs
      by_cases hl : i < b + sp m
      · rw [pthF_left (by omega) hl] at hs
        rcases List.mem_append.1 hs with hs | hs
        · exact pth_known hi p hN hc (f' + 1) b (sp m) (by omega) (by omega) hb hl hpt.1 (fun s hs => ho s (List.mem_append_left _ hs)) s hs
        · obtain rfl := List.mem_singleton.1 hs
          cases e : tch ix (b + sp m) (b + sp m + (m - sp m)) with
          | false => exact ho _ (List.mem_append_right _ (by rw [othF_no e, show b + sp m + (m - sp m) = b + m by omega]; exact List.mem_singleton.2 rfl))
          | true => exact hc _ _ hpt.2 (by rw [show b + sp m + (m - sp m) = b + m by omega] at e; exact e)
      · rw [pthF_right (by omega) hl] at hs
        rcases List.mem_append.1 hs with hs | hs
        · exact pth_known hi p hN hc (f' + 1) (b + sp m) (m - sp m) (by omega) (by omega) (by omega) (by omega) (by rw [show b + sp m + (m - sp m) = b + m by omega]; exact hpt.2) (fun s hs => ho s (List.mem_append_right _ hs)) s hs
        · obtain rfl := List.mem_singleton.1 hs
          cases e : tch ix b (b + sp m) with
          | false => exact ho _ (List.mem_append_left _ (by rw [othF_no e]; exact List.mem_singleton.2 rfl))
          | true => exact hc _ _ hpt.1 e
theorem Cl.path {ix : List Nat} {n : Nat} {val : Nat × Nat → T} {f : Kn} (h : Cl ix n val ix.length f) {i : Nat} (hi : i ∈ ix) (hn : i < n) : ∀ s ∈ pthF n 0 n i, f s = some (val s) := by
  obtain ⟨n', rfl⟩ : ∃ n', n = n' + 1 := ⟨n - 1, by omega⟩
  have hs := insF_self (f := n') (b := 0) (n := n' + 1)
  exact pth_known hi (fun s => f s = some (val s)) (by omega) (fun x y h1 h2 => h.last h1 h2) (n' + 1) 0 (n' + 1) (by omega) (Nat.le_refl _) (by omega) (by omega) hs (fun s hs => h.s.at (h.t s hs))
end Bat
end Go.Proofs.YthoakchdlidemaaDoor

/- THE PLAIN MATHEMATICS OF LAYER 12: hashes that are a tree's -/
namespace Go.Proofs.YthoakchdlidemaaDoor
namespace Bat
open Tree
/-- the hash of a span of a tree -/
def rt (l : List T) (s : Nat × Nat) : T := root (seg l s.1 s.2)
theorem rt_two {l : List T} {b m : Nat} (h : 2 ≤ m) (hl : b + m ≤ l.length) : rt l (b, b + m) = nd (rt l (b, b + sp m)) (rt l (b + sp m, b + m)) := root_seg_two h hl
structure Fit (is : List Nat) (n : Nat) (l : List T) (val : Nat × Nat → T) : Prop where
  nn : ∀ b m, 2 ≤ m → tch is b (b + m) = true → val (b, b + m) = nd (val (b, b + sp m)) (val (b + sp m, b + m))
  tt : ∀ s ∈ othF n 0 n is, val s = rt l s
  ll : ∀ i ∈ is, val (i, i + 1) = rt l (i, i + 1)
  hn : n ≤ l.length
theorem Fit.down {is : List Nat} {n : Nat} {l : List T} {val : Nat × Nat → T} (h : Fit is n l val) : ∀ (f b m : Nat), 1 ≤ m → m ≤ f → b + m ≤ n → (∀ s ∈ othF f b m is, val s = rt l s) → val (b, b + m) = rt l (b, b + m)
  | 0, b, m, h1, h2, _, _ => by omega
  | f + 1, b, m, h1, h2, h3, ho => by
    cases ht : tch is b (b + m) with
    | false => exact ho _ (by rw [othF_no ht]; exact List.mem_singleton.2 rfl)
    | true =>
      by_cases hm : m < 2
      · obtain rfl : m = 1 := by omega
        obtain ⟨i, hi, h4, h5⟩ := tch_mem.1 ht
        obtain rfl : i = b := by omega
        exact h.ll i hi
      · have s1 := sp_lt (n := m) (by omega)
        have s2 := sp_pos (n := m) (by omega)
        rw [othF_two ht (by omega)] at ho
        rw [h.nn b m (by omega) ht, rt_two (by omega) (by have := h.hn; omega), h.down f b (sp m) (by omega) (by omega) (by omega) (fun s hs => ho s (List.mem_append_left _ hs))]
        have := h.down f (b + sp m) (m - sp m) (by omega) (by omega) (by omega) (fun s hs => ho s (List.mem_append_right _ hs))
        rw [show b + sp m + (m - sp m) = b + m by omega] at this
        rw [this]
theorem Fit.sub {is : List Nat} {n : Nat} {l : List T} {val : Nat × Nat → T} (h : Fit is n l val) : ∀ (f b m x y : Nat), 1 ≤ m → m ≤ f → b + m ≤ n → (∀ s ∈ othF f b m is, val s = rt l s) → insF f b m x y = true → tch is x y = true → val (x, y) = rt l (x, y)
  | 0, b, m, x, y, h1, h2, _, _, _, _ => by omega
  | f + 1, b, m, x, y, h1, h2, h3, ho, hi, ht => by
    have hin := insF_in (f + 1) b m x y hi h1
    rcases insF_cases hi with e | ⟨h6, _⟩ | ⟨h6, _⟩
    · obtain ⟨rfl, rfl⟩ := e
      exact h.down (f + 1) x m h1 h2 h3 ho
    · by_cases he : x = b ∧ y = b + m
      · obtain ⟨rfl, rfl⟩ := he
        exact h.down (f + 1) x m h1 h2 h3 ho
      · have hm : 2 ≤ m := by
          rcases Nat.lt_or_ge m 2 with c | c
          · exfalso; apply he; omega
          · exact c
        have s1 := sp_lt (n := m) hm
        have s2 := sp_pos (n := m) hm
        rw [othF_two (tch_sub ht (by omega) (by omega)) hm] at ho
        rw [insF, if_neg he, if_neg (by omega), if_pos h6] at hi
        exact h.sub f b (sp m) x y (by omega) (by omega) (by omega) (fun s hs => ho s (List.mem_append_left _ hs)) hi ht
    · by_cases he : x = b ∧ y = b + m
      · obtain ⟨rfl, rfl⟩ := he
        exact h.down (f + 1) x m h1 h2 h3 ho
      · have hm : 2 ≤ m := by
          rcases Nat.lt_or_ge m 2 with c | c
          · exfalso; apply he; omega
          · exact c
        have s1 := sp_lt (n := m) hm
        have s2 := sp_pos (n := m) hm
        rw [othF_two (tch_sub ht (by omega) (by omega)) hm] at ho
        rw [insF, if_neg he, if_neg (by omega), if_neg (by omega), if_pos h6] at hi
        exact h.sub f (b + sp m) (m - sp m) x y (by omega) (by omega) (by omega) (fun s hs => ho s (List.mem_append_right _ hs)) hi ht
theorem Fit.root {is : List Nat} {n : Nat} {l : List T} {val : Nat × Nat → T} (h : Fit is n l val) (h1 : 1 ≤ n) : val (0, n) = Tree.root (l.take n) := by
  have := h.down n 0 n h1 (Nat.le_refl _) (by omega) h.tt
  rw [Nat.zero_add] at this
  rw [this]
  show Tree.root (seg l 0 n) = _
  simp [seg]
theorem Fit.path {is : List Nat} {n : Nat} {l : List T} {val : Nat × Nat → T} (h : Fit is n l val) {i : Nat} (hi : i ∈ is) (hn : i < n) : (pthF n 0 n i).map val = path i (l.take n) := by
  obtain ⟨n', rfl⟩ : ∃ n', n = n' + 1 := ⟨n - 1, by omega⟩
  have hs := insF_self (f := n') (b := 0) (n := n' + 1)
  have key := pth_known hi (fun s => val s = rt l s) (by omega) (fun x y h1 h2 => h.sub (n' + 1) 0 (n' + 1) x y (by omega) (Nat.le_refl _) (by omega) h.tt h1 h2) (n' + 1) 0 (n' + 1) (by omega) (Nat.le_refl _) (by omega) (by omega) hs h.tt
  rw [List.map_congr_left key]
  have e := pthF_hash l (n' + 1) 0 (n' + 1) i (Nat.le_refl _) (Nat.zero_le _) (by omega) (by have := h.hn; omega)
  rw [Nat.zero_add, Nat.sub_zero] at e
  rw [show seg l 0 (n' + 1) = l.take (n' + 1) by simp [seg]] at e
  exact e
/-- told hashes of a tree, and its leaves -/
theorem Val.fit {is : List Nat} {n : Nat} {l H L : List T} {val : Nat × Nat → T} (V : Val is n H L val) (hn : n ≤ l.length) (hi : ∀ i ∈ is, i < n) (hH : H = (othF n 0 n is).map (rt l)) (hL : ∀ (k : Nat) (i : Nat), is[k]? = some i → L[k]? = l[i]?) : Fit is n l val := by
  refine ⟨V.n, fun s hs => ?_, fun i hm => ?_, hn⟩
  · have e := V.h.symm.trans hH
    obtain ⟨k, hk, rfl⟩ := List.mem_iff_getElem.1 hs
    have := congrArg (fun l => l[k]?) e
    simpa [hk] using this
  · obtain ⟨k, hk, e⟩ := List.mem_iff_getElem.1 hm
    have h1 := hL k i (by rw [List.getElem?_eq_getElem hk, e])
    have h2 := V.l
    have hil := hi i hm
    rw [h2, List.getElem?_map, List.getElem?_eq_getElem hk, e, Option.map_some, List.getElem?_eq_getElem (by omega)] at h1
    have h3 := Option.some.inj h1
    rw [h3]
    show _ = Tree.root (seg l i (i + 1))
    rw [show seg l i (i + 1) = [l[i]'(by omega)] by
      have hlt : i < l.length := by omega
      unfold seg
      rw [List.take_add_one, List.getElem?_eq_getElem hlt, List.drop_append_of_le_length (by rw [List.length_take]; omega), List.drop_of_length_le (by rw [List.length_take]; omega)]
      rfl]
    exact (root_one _).symm
end Bat
end Go.Proofs.YthoakchdlidemaaDoor

/- THE PLAIN MATHEMATICS OF LAYER 14: a run of leaves, what is told beside it, and what it folds to; nothing of the program. -/
namespace Go.Proofs.YthoakchdlidemaaDoor
namespace Spn
open Tree
/-- the leaves of a run -/
abbrev rix (s e : Nat) : List Nat := List.range' s (e - s)
theorem mem_rix {s e i : Nat} : i ∈ rix s e ↔ s ≤ i ∧ i < e := by rw [rix, List.mem_range'_1]; omega
theorem tch_rix {s e b m : Nat} (h : s < e) (hm : 1 ≤ m) : tch (rix s e) b (b + m) = true ↔ ¬ (b + m ≤ s ∨ e ≤ b) := by
  rw [tch_mem]
  constructor
  · rintro ⟨i, hi, h1, h2⟩
    have := mem_rix.1 hi
    omega
  · intro hh
    exact ⟨max s b, mem_rix.2 (by omega), by omega, by omega⟩
theorem tch_no {s e b m : Nat} (h : s < e) (hm : 1 ≤ m) (hh : b + m ≤ s ∨ e ≤ b) : tch (rix s e) b (b + m) = false := by
  cases ht : tch (rix s e) b (b + m) with
  | false => rfl
  | true => exact absurd hh ((tch_rix h hm).1 ht)
theorem run_nil {f b n x y : Nat} (h1 : 1 ≤ n) (h : x ≤ b) (h2 : b + n ≤ y) : runF (f + 1) b n x y = [] := by
  rw [runF, if_neg (by omega), if_pos ⟨h, h2⟩]
/-- what is told beside a run is what is told beside its leaves -/
theorem oth_run {s e : Nat} (hse : s < e) : ∀ (f b n : Nat), 1 ≤ n → n ≤ f → othF f b n (rix s e) = runF f b n s e
  | 0, b, n, h1, h2 => by omega
  | f + 1, b, n, h1, h2 => by
    by_cases h3 : b + n ≤ s ∨ e ≤ b
    · rw [othF_no (tch_no hse h1 h3), runF, if_pos h3]
    · have ht := (tch_rix hse h1).2 h3
      by_cases hn : n < 2
      · rw [othF_one ht hn, run_nil h1 (by omega) (by omega)]
      · have s1 := sp_lt (n := n) (by omega)
        have s2 := sp_pos (n := n) (by omega)
        rw [othF_two ht (by omega), oth_run hse f b (sp n) (by omega) (by omega), oth_run hse f (b + sp n) (n - sp n) (by omega) (by omega), runF, if_neg h3]
        by_cases h4 : s ≤ b ∧ b + n ≤ e
        · obtain ⟨g, rfl⟩ : ∃ g, f = g + 1 := ⟨f - 1, by omega⟩
          rw [if_pos h4, run_nil (by omega) (by omega) (by omega), run_nil (by omega) (by omega) (by omega)]
          rfl
        · rw [if_neg h4]
/-- how many are told -/
theorem run_left {x y : Nat} : ∀ (d f b n : Nat), 1 ≤ n → n ≤ f → n ≤ 2 ^ d → x ≤ b → (runF f b n x y).length ≤ d + 1
  | _, 0, b, n, h1, h2, _, _ => by omega
  | d, f + 1, b, n, h1, h2, h3, h4 => by
    rw [runF]
    by_cases c1 : b + n ≤ x ∨ y ≤ b
    · rw [if_pos c1]; simp
    · rw [if_neg c1]
      by_cases c2 : x ≤ b ∧ b + n ≤ y
      · rw [if_pos c2]; simp
      · rw [if_neg c2]
        have hn : 2 ≤ n := by
          rcases Nat.lt_or_ge n 2 with c | c
          · exfalso; apply c2; omega
          · exact c
        obtain ⟨a, e1, e2, e3⟩ := sp_pow hn
        have s1 := sp_lt hn
        have s2 := sp_pos hn
        cases d with
        | zero => have : (2 : Nat) ^ 0 = 1 := rfl; omega
        | succ d =>
          have ha : a ≤ d := by
            rcases Nat.lt_or_ge d a with c | c
            · have := Nat.pow_le_pow_right (n := 2) (by omega) c
              omega
            · exact c
          have ha2 := Nat.pow_le_pow_right (n := 2) (by omega) ha
          have ha3 : 2 ^ (a + 1) = 2 * 2 ^ a := by rw [Nat.pow_succ, Nat.mul_comm]
          obtain ⟨g, rfl⟩ : ∃ g, f = g + 1 := ⟨f - 1, by omega⟩
          rw [List.length_append]
          by_cases c3 : b + sp n ≤ y
          · rw [run_nil (by omega) h4 c3]
            have := run_left (x := x) (y := y) d (g + 1) (b + sp n) (n - sp n) (by omega) (by omega) (by omega) (by omega)
            simp only [List.length_nil]
            omega
          · have := run_left (x := x) (y := y) d (g + 1) b (sp n) (by omega) (by omega) (by omega) h4
            rw [show runF (g + 1) (b + sp n) (n - sp n) x y = [(b + sp n, b + sp n + (n - sp n))] from by rw [runF, if_pos (by omega)]]
            simp only [List.length_cons, List.length_nil]
            omega
theorem run_right {x y : Nat} : ∀ (d f b n : Nat), 1 ≤ n → n ≤ f → n ≤ 2 ^ d → b + n ≤ y → (runF f b n x y).length ≤ d + 1
  | _, 0, b, n, h1, h2, _, _ => by omega
  | d, f + 1, b, n, h1, h2, h3, h4 => by
    rw [runF]
    by_cases c1 : b + n ≤ x ∨ y ≤ b
    · rw [if_pos c1]; simp
    · rw [if_neg c1]
      by_cases c2 : x ≤ b ∧ b + n ≤ y
      · rw [if_pos c2]; simp
      · rw [if_neg c2]
        have hn : 2 ≤ n := by
          rcases Nat.lt_or_ge n 2 with c | c
          · exfalso; apply c2; omega
          · exact c
        obtain ⟨a, e1, e2, e3⟩ := sp_pow hn
        have s1 := sp_lt hn
        have s2 := sp_pos hn
        cases d with
        | zero => have : (2 : Nat) ^ 0 = 1 := rfl; omega
        | succ d =>
          have ha : a ≤ d := by
            rcases Nat.lt_or_ge d a with c | c
            · have := Nat.pow_le_pow_right (n := 2) (by omega) c
              omega
            · exact c
          have ha2 := Nat.pow_le_pow_right (n := 2) (by omega) ha
          have ha3 : 2 ^ (a + 1) = 2 * 2 ^ a := by rw [Nat.pow_succ, Nat.mul_comm]
          obtain ⟨g, rfl⟩ : ∃ g, f = g + 1 := ⟨f - 1, by omega⟩
          rw [List.length_append]
          by_cases c3 : x ≤ b + sp n
          · rw [run_nil (f := g) (b := b + sp n) (by omega) c3 (by omega)]
            have := run_right (x := x) (y := y) d (g + 1) b (sp n) (by omega) (by omega) (by omega) (by omega)
            simp only [List.length_nil]
            omega
          · have := run_right (x := x) (y := y) d (g + 1) (b + sp n) (n - sp n) (by omega) (by omega) (by omega) (by omega)
            rw [show runF (g + 1) b (sp n) x y = [(b, b + sp n)] from by rw [runF, if_pos (by omega)]]
            simp only [List.length_cons, List.length_nil]
            omega
theorem run_len {x y : Nat} : ∀ (d f b n : Nat), 1 ≤ n → n ≤ f → n ≤ 2 ^ d → (runF f b n x y).length ≤ 2 * d + 1
  | _, 0, b, n, h1, h2, _ => by omega
  | d, f + 1, b, n, h1, h2, h3 => by
    rw [runF]
    by_cases c1 : b + n ≤ x ∨ y ≤ b
    · rw [if_pos c1]; simp
    · rw [if_neg c1]
      by_cases c2 : x ≤ b ∧ b + n ≤ y
      · rw [if_pos c2]; simp
      · rw [if_neg c2]
        have hn : 2 ≤ n := by
          rcases Nat.lt_or_ge n 2 with c | c
          · exfalso; apply c2; omega
          · exact c
        obtain ⟨a, e1, e2, e3⟩ := sp_pow hn
        have s1 := sp_lt hn
        have s2 := sp_pos hn
        cases d with
        | zero => have : (2 : Nat) ^ 0 = 1 := rfl; omega
        | succ d =>
          have ha : a ≤ d := by
            rcases Nat.lt_or_ge d a with c | c
            · have := Nat.pow_le_pow_right (n := 2) (by omega) c
              omega
            · exact c
          have ha2 := Nat.pow_le_pow_right (n := 2) (by omega) ha
          have ha3 : 2 ^ (a + 1) = 2 * 2 ^ a := by rw [Nat.pow_succ, Nat.mul_comm]
          obtain ⟨g, rfl⟩ : ∃ g, f = g + 1 := ⟨f - 1, by omega⟩
          rw [List.length_append]
          by_cases c3 : y ≤ b + sp n
          · have := run_len (x := x) (y := y) d (g + 1) b (sp n) (by omega) (by omega) (by omega)
            rw [show runF (g + 1) (b + sp n) (n - sp n) x y = [(b + sp n, b + sp n + (n - sp n))] from by rw [runF, if_pos (by omega)]]
            simp only [List.length_cons, List.length_nil]
            omega
          · by_cases c4 : b + sp n ≤ x
            · have := run_len (x := x) (y := y) d (g + 1) (b + sp n) (n - sp n) (by omega) (by omega) (by omega)
              rw [show runF (g + 1) b (sp n) x y = [(b, b + sp n)] from by rw [runF, if_pos (by omega)]]
              simp only [List.length_cons, List.length_nil]
              omega
            · have h5 := run_right (x := x) (y := y) d (g + 1) b (sp n) (by omega) (by omega) (by omega) (by omega)
              have h6 := run_left (x := x) (y := y) d (g + 1) (b + sp n) (n - sp n) (by omega) (by omega) (by omega) (by omega)
              omega
theorem told_len {n s e : Nat} (h1 : 1 ≤ n) (h2 : n ≤ 1099511627776) : (runF n 0 n s e).length ≤ 81 := run_len 40 n 0 n h1 (Nat.le_refl _) h2
/-- the spans of a cut -/
def csp (b e : Nat) : List (Nat × Nat) := (Cut.cut b e).map fun q => (q.1, q.1 + q.2)
theorem csp_len {b e : Nat} (h0 : e ≤ 1099511627776) (h : b ≤ e) : (csp b e).length ≤ 81 := by rw [csp, List.length_map]; exact Cut.cut_len h0 h
theorem cov_hit : ∀ {l : List (Nat × Nat)} {a b i : Nat}, Cut.Cov a b l → a ≤ i → i < b → ∃ q ∈ l, q.1 ≤ i ∧ i < q.1 + q.2
  | [], a, b, i, h, h1, h2 => by have e : a = b := h; omega
  | (p, n) :: l, a, b, i, h, h1, h2 => by
    obtain ⟨rfl, _, _, hc⟩ := h
    by_cases c : i < p + n
    · exact ⟨(p, n), List.mem_cons_self, h1, c⟩
    · obtain ⟨q, hq, h3⟩ := cov_hit hc (by omega) h2
      exact ⟨q, List.mem_cons_of_mem _ hq, h3⟩
theorem cov_pow : ∀ {l : List (Nat × Nat)} {a b : Nat}, Cut.Cov a b l → ∀ q ∈ l, ∃ k, q.2 = 2 ^ k ∧ q.1 % 2 ^ k = 0
  | [], a, b, h, q, hq => by cases hq
  | (p, n) :: l, a, b, h, q, hq => by
    obtain ⟨rfl, ⟨k, hk⟩, hm, hc⟩ := h
    rcases List.mem_cons.1 hq with rfl | hq
    · exact ⟨k, hk, by rw [← hk]; exact hm⟩
    · exact cov_pow hc q hq
/-- an aligned block does not lie over an aligned place -/
theorem no_over {p k c j : Nat} (hp : p % 2 ^ k = 0) (hc : c % 2 ^ j = 0) (hkj : k ≤ j) (h1 : p < c) : p + 2 ^ k ≤ c := by
  have hck : c % 2 ^ k = 0 := Cut.mod_of_le hkj hc
  obtain ⟨x, rfl⟩ := Nat.dvd_of_mod_eq_zero hp
  obtain ⟨y, rfl⟩ := Nat.dvd_of_mod_eq_zero hck
  have hk := Nat.two_pow_pos k
  have : x < y := Nat.lt_of_mul_lt_mul_left h1
  rw [← Nat.mul_succ]
  exact Nat.mul_le_mul_left _ this
/-- in a cut the block at an aligned place is the greatest one -/
theorem cut_max {s e k : Nat} (he : e ≤ 1099511627776) (hse : s ≤ e) {q : Nat × Nat} (hq : q ∈ Cut.cut s e) (h1 : q.1 % 2 ^ k = 0) (h2 : q.1 + 2 ^ k ≤ e) (h3 : q.2 ≤ 2 ^ k) : q.2 = 2 ^ k := by
  obtain ⟨l1, l2, hl⟩ := List.append_of_mem hq
  have hc := Cut.cut_cov he hse
  have hf := Cut.cut_free (b := s) he
  rw [hl] at hc hf
  obtain ⟨b, hc1, hc2⟩ := Cut.cov_append.1 hc
  have hf2 : Cut.Free (q :: l2) := by
    clear hc hc1 hc2 hl hq
    induction l1 with
    | nil => exact hf
    | cons x l1 ih => exact ih hf.tail
  obtain ⟨p, n⟩ := q
  obtain ⟨rfl, r1, r2, r3⟩ := hc2
  exact Cut.first k p e n l2 h1 h2 ⟨rfl, r1, r2, r3⟩ hf2 h3
/-- can [b, b + n) be folded of K, so that P holds wherever it is cut in two? -/
def canP (P : Nat → Nat → Prop) : Nat → Nat → Nat → List (Nat × Nat) → Prop
  | 0, _, _, _ => False
  | f + 1, b, n, K => (b, b + n) ∈ K ∨ (2 ≤ n ∧ P b n ∧ canP P f b (sp n) K ∧ canP P f (b + sp n) (n - sp n) K)
theorem canP_within {P : Nat → Nat → Prop} (K : List (Nat × Nat)) : ∀ (f b n : Nat), n ≤ f → 1 ≤ n → canP P f b n K → ∃ s ∈ K, b ≤ s.1 ∧ s.2 ≤ b + n ∧ s.1 < s.2
  | 0, b, n, h, h1, _ => by omega
  | f + 1, b, n, h, h1, hc => by
    rcases hc with hk | ⟨h2, _, h3, _⟩
    · exact ⟨_, hk, Nat.le_refl _, Nat.le_refl _, by show b < b + n; omega⟩
    · have s1 := sp_lt (n := n) (by omega)
      have s2 := sp_pos (n := n) (by omega)
      obtain ⟨s, h3, h4, h5, h6⟩ := canP_within K f b (sp n) (by omega) (by omega) h3
      exact ⟨s, h3, h4, by omega, h6⟩
/-- THE TOLD ONES AND THE CUT OF THE RUN (or of all that ends with it) ARE ENOUGH -/
theorem can_span {P : Nat → Nat → Prop} (K : List (Nat × Nat)) (s c e N : Nat) (he : e ≤ 1099511627776) (hse : s < e) (heN : e ≤ N) (hc : c = s ∨ c = 0) (hP : ∀ b n, 2 ≤ n → s < b + n → b < e → P b n) (hK : ∀ q ∈ csp c e, q ∈ K) : ∀ (f b n A : Nat), n ≤ f → 1 ≤ n → n ≤ 2 ^ A → b % 2 ^ A = 0 → (n = 2 ^ A ∨ b + n = N) → (∀ t ∈ runF f b n c e, t ∈ K) →
    (∀ q ∈ Cut.cut c e, q.1 + q.2 ≤ b ∨ b + n ≤ q.1 ∨ (b ≤ q.1 ∧ q.1 + q.2 ≤ b + n)) → canP P f b n K
  | 0, b, n, A, h1, h2, _, _, _, _, _ => by omega
  | f + 1, b, n, A, h1, h2, hA, hb, hN, ht, hq => by
    rw [canP]
    by_cases hk : (b, b + n) ∈ K
    · exact .inl hk
    · have hcov := Cut.cut_cov (b := c) he (by omega)
      by_cases c1 : b + n ≤ c ∨ e ≤ b
      · rw [runF, if_pos c1] at ht
        exact absurd (ht _ (List.mem_singleton.2 rfl)) hk
      · have hin : ∀ q ∈ Cut.cut c e, q = (b, n) → False := fun q hqm e1 => hk (hK _ (List.mem_map.2 ⟨q, hqm, by rw [e1]⟩))
        by_cases hn : n < 2
        · exfalso
          obtain rfl : n = 1 := by omega
          obtain ⟨q, hqm, q1, q2⟩ := cov_hit (i := b) hcov (by omega) (by omega)
          have h5 := hq q hqm
          exact hin q hqm (Prod.ext (by omega) (by show q.2 = 1; omega))
        · obtain ⟨a, e1, e2, e3⟩ := sp_pow (n := n) (by omega)
          have s1 := sp_lt (n := n) (by omega)
          have s2 := sp_pos (n := n) (by omega)
          have ha3 : 2 ^ (a + 1) = 2 * 2 ^ a := by rw [Nat.pow_succ, Nat.mul_comm]
          have haA : a + 1 ≤ A := by
            rcases Nat.lt_or_ge a A with c | c
            · exact c
            · have := Nat.pow_le_pow_right (n := 2) (by omega) c
              omega
          have hb1 : b % 2 ^ (a + 1) = 0 := Cut.mod_of_le haA hb
          have hb0 : b % 2 ^ a = 0 := Cut.mod_of_le (by omega) hb
          have hbm : (b + 2 ^ a) % 2 ^ a = 0 := by rw [Nat.add_mod_right]; exact hb0
          have hNr : n - sp n = 2 ^ a ∨ b + sp n + (n - sp n) = N := by
            rcases hN with h | h
            · refine .inl ?_
              have : A ≤ a + 1 := by
                rcases Nat.lt_or_ge (a + 1) A with c | c
                · have := Nat.pow_lt_pow_right (a := 2) (by omega) c
                  omega
                · exact c
              have hAa : A = a + 1 := by omega
              rw [hAa] at h
              omega
            · exact .inr (by omega)
          have hPb : P b n := by
            by_cases c5 : s < b + n
            · exact hP b n (by omega) c5 (by omega)
            · exfalso
              have hc0 : c = 0 := by
                rcases hc with h | h
                · omega
                · exact h
              have hnA : n = 2 ^ A := by
                rcases hN with h | h
                · exact h
                · omega
              obtain ⟨q, hqm, q1, q2⟩ := cov_hit (i := b) hcov (by omega) (by omega)
              have h5 := hq q hqm
              have q3 : q.1 = b := by omega
              have q4 := cut_max (k := A) he (by omega) hqm (by rw [q3]; exact hb) (by omega) (by omega)
              exact hin q hqm (Prod.ext q3 (by show q.2 = n; omega))
          have hpart : ∀ q ∈ Cut.cut c e, b ≤ q.1 → q.1 + q.2 ≤ b + n → q.1 + q.2 ≤ b + sp n ∨ b + sp n ≤ q.1 := fun q hqm q1 q2 => by
            obtain ⟨k, hk2, hk3⟩ := cov_pow hcov q hqm
            by_cases c2 : b + sp n ≤ q.1
            · exact .inr c2
            · refine .inl ?_
              rcases Nat.lt_or_ge a k with c3 | c3
              · exfalso
                have h6 := Nat.pow_le_pow_right (n := 2) (by omega) (show a + 1 ≤ k from c3)
                exact hin q hqm (Prod.ext (by omega) (by show q.2 = n; omega))
              · rw [hk2, e1]
                exact no_over hk3 hbm c3 (by omega)
          have hleft : ∀ t ∈ runF f b (sp n) c e, t ∈ K := fun t h => by
            by_cases c4 : c ≤ b ∧ b + n ≤ e
            · obtain ⟨g, rfl⟩ : ∃ g, f = g + 1 := ⟨f - 1, by omega⟩
              rw [run_nil (by omega) (by omega) (by omega)] at h
              cases h
            · rw [runF, if_neg c1, if_neg c4] at ht
              exact ht t (List.mem_append_left _ h)
          have hright : ∀ t ∈ runF f (b + sp n) (n - sp n) c e, t ∈ K := fun t h => by
            by_cases c4 : c ≤ b ∧ b + n ≤ e
            · obtain ⟨g, rfl⟩ : ∃ g, f = g + 1 := ⟨f - 1, by omega⟩
              rw [run_nil (by omega) (by omega) (by omega)] at h
              cases h
            · rw [runF, if_neg c1, if_neg c4] at ht
              exact ht t (List.mem_append_right _ h)
          refine .inr ⟨by omega, hPb, can_span K s c e N he hse heN hc hP hK f b (sp n) a (by omega) (by omega) (by omega) hb0 (.inl e1) hleft (fun q hqm => by
              rcases hq q hqm with h | h | ⟨h5, h6⟩
              · exact .inl h
              · exact .inr (.inl (by omega))
              · rcases hpart q hqm h5 h6 with h7 | h7
                · exact .inr (.inr ⟨h5, h7⟩)
                · exact .inr (.inl h7)),
            can_span K s c e N he hse heN hc hP hK f (b + sp n) (n - sp n) a (by omega) (by omega) (by omega) (by rw [e1]; exact hbm) hNr hright (fun q hqm => by
              rcases hq q hqm with h | h | ⟨h5, h6⟩
              · exact .inl (by omega)
              · exact .inr (.inl (by omega))
              · rcases hpart q hqm h5 h6 with h7 | h7
                · exact .inl h7
                · exact .inr (.inr ⟨h7, by omega⟩))⟩
theorem can_all {P : Nat → Nat → Prop} {n s c e : Nat} {K : List (Nat × Nat)} (h2 : n ≤ 1099511627776) (hse : s < e) (hen : e ≤ n) (hc : c = s ∨ c = 0) (hP : ∀ b n, 2 ≤ n → s < b + n → b < e → P b n) (hK : ∀ q ∈ csp c e, q ∈ K) (hT : ∀ q ∈ runF n 0 n c e, q ∈ K) : canP P n 0 n K :=
  can_span K s c e n (by omega) hse hen hc hP hK n 0 n 40 (Nat.le_refl _) (by omega) h2 (Nat.zero_mod _) (.inr (Nat.zero_add _)) hT fun q hq => by
    have := (Cut.cut_cov (show e ≤ 1099511627776 by omega) (show c ≤ e by omega)).within q hq
    exact .inr (.inr ⟨Nat.zero_le _, by omega⟩)
end Spn
end Go.Proofs.YthoakchdlidemaaDoor

/- THE PLAIN MATHEMATICS OF LAYER 14: hashes of a run; nothing of the program. -/
namespace Go.Proofs.YthoakchdlidemaaDoor
namespace Spn
open Tree
abbrev Val := Bat.Val
theorem rix_len (s e : Nat) : (rix s e).length = e - s := List.length_range'
theorem rix_nodup (s e : Nat) : (rix s e).Nodup := List.nodup_range'
theorem val_of {n s e : Nat} (hse : s < e) (hen : e ≤ n) {H L : List T} (hH : H.length = (runF n 0 n s e).length) (hL : L.length = e - s) : ∃ val, Val (rix s e) n H L val :=
  Bat.val_is (rix s e) n H L (by omega) (rix_nodup s e) (by rw [oth_run hse n 0 n (by omega) (Nat.le_refl _)]; exact hH) (by rw [rix_len]; exact hL)
theorem val_node {n s e : Nat} {H L : List T} {val : Nat × Nat → T} (V : Val (rix s e) n H L val) (hse : s < e) (b m : Nat) (h2 : 2 ≤ m) (h3 : s < b + m) (h4 : b < e) : val (b, b + m) = nd (val (b, b + sp m)) (val (b + sp m, b + m)) :=
  V.n b m h2 ((tch_rix hse (by omega)).2 (by omega))
theorem val_told {n s e : Nat} {H L : List T} {val : Nat × Nat → T} (V : Val (rix s e) n H L val) (hse : s < e) (hn : 1 ≤ n) : H = (runF n 0 n s e).map val := by rw [V.h, oth_run hse n 0 n hn (Nat.le_refl _)]
theorem val_leaf {n s e : Nat} {H L : List T} {val : Nat × Nat → T} (V : Val (rix s e) n H L val) {j : Nat} (hj : s + j < e) : L[j]? = some (val (s + j, s + j + 1)) := by
  rw [V.l, List.getElem?_map, List.getElem?_range' (by omega)]
  simp
/-- within the run it is the definitions' -/
theorem val_in {n s e : Nat} {H L : List T} {val : Nat × Nat → T} (V : Val (rix s e) n H L val) (hse : s < e) (hL : L.length = e - s) : ∀ (f b m : Nat), m ≤ f → 1 ≤ m → s ≤ b → b + m ≤ e → val (b, b + m) = root ((L.drop (b - s)).take m)
  | 0, b, m, h1, h2, _, _ => by omega
  | f + 1, b, m, h1, h2, h3, h4 => by
    by_cases hm : m < 2
    · obtain rfl : m = 1 := by omega
      have h := val_leaf V (j := b - s) (by omega)
      rw [show s + (b - s) = b by omega] at h
      have : (L.drop (b - s)).take 1 = [val (b, b + 1)] := by
        obtain ⟨hl, he⟩ := List.getElem?_eq_some_iff.1 h
        rw [List.drop_eq_getElem_cons hl, he]
        rfl
      rw [this, root_one]
    · have s1 := sp_lt (n := m) (by omega)
      have s2 := sp_pos (n := m) (by omega)
      have hl : ((L.drop (b - s)).take m).length = m := by rw [List.length_take, List.length_drop]; omega
      have e1 := val_in V hse hL f b (sp m) (by omega) (by omega) h3 (by omega)
      have e2 := val_in V hse hL f (b + sp m) (m - sp m) (by omega) (by omega) (by omega) (by omega)
      rw [show b + sp m + (m - sp m) = b + m by omega] at e2
      rw [val_node V hse b m (by omega) (by omega) (by omega), e1, e2, root_cut (l := (L.drop (b - s)).take m) (by omega), hl, List.take_take, List.drop_take, List.drop_drop, show min (sp m) m = sp m by omega, show b - s + sp m = b + sp m - s by omega]
/-- the hash of a block of a cut -/
def hq (val : Nat × Nat → T) (q : Nat × Nat) : T := val (q.1, q.1 + q.2)
theorem csp_map (val : Nat × Nat → T) (b e : Nat) : (csp b e).map val = (Cut.cut b e).map (hq val) := by rw [csp, List.map_map]; rfl
theorem cmp_val {n s e : Nat} {H L : List T} {val : Nat × Nat → T} (V : Val (rix s e) n H L val) (hse : s < e) (he : e ≤ 1099511627776) (hL : L.length = e - s) : Cut.cmp L s = (csp s e).map val := by
  rw [csp_map, Cut.cmp, hL, show s + (e - s) = e by omega]
  refine List.map_congr_left fun q hq' => ?_
  have hc := Cut.cut_cov he (show s ≤ e by omega)
  have h1 := hc.ge q hq'
  have h2 := hc.within q hq'
  have h3 := Cut.cov_pos hc q hq'
  exact (val_in V hse hL q.2 q.1 q.2 (Nat.le_refl _) h3 h1 h2).symm
/-- nodes that end behind s -/
def NodesT (h : Nat × Nat → T) (s a c : Nat) : Prop := ∀ p n, a ≤ p → p + 2 * n ≤ c → s < p + 2 * n → (∃ k, n = 2 ^ k) → p % (2 * n) = 0 → h (p, 2 * n) = nd (h (p, n)) (h (p + n, n))
theorem sp_dbl {n : Nat} (h : ∃ k, n = 2 ^ k) : sp (2 * n) = n := by
  obtain ⟨k, hk⟩ := h
  have := Nat.two_pow_pos k
  rw [hk]
  exact sp_one (by omega) k (by omega) (by omega)
theorem val_nodesT {n s e : Nat} {H L : List T} {val : Nat × Nat → T} (V : Val (rix s e) n H L val) (hse : s < e) : NodesT (hq val) s 0 e := fun p m _ h2 h3 hk _ => by
  have h4 : 1 ≤ m := by obtain ⟨k, hk⟩ := hk; have := Nat.two_pow_pos k; omega
  have := val_node V hse p (2 * m) (by omega) h3 (by omega)
  rw [sp_dbl hk] at this
  unfold hq
  rw [this]
  show _ = nd (val (p, p + m)) (val (p + m, p + m + m))
  rw [show p + m + m = p + 2 * m by omega]
theorem pushH_allT {h : Nat × Nat → T} {s a c : Nat} (hN : NodesT h s a c) : ∀ (l : List ((Nat × Nat) × T)) (b n : Nat) (x : T), Cut.Cov a b (l.map Prod.fst).reverse → (∃ k, n = 2 ^ k) → b + n ≤ c → s < b + n → Cut.All h l → x = h (b, n) → Cut.All h (Cut.pushH l b n x)
  | [], b, n, x, _, _, _, _, _, hx => fun q hq => by
    rw [Cut.pushH, List.mem_singleton] at hq
    subst hq
    exact hx
  | ((p, m), y) :: l, b, n, x, hc, hp, hb, hs, hA, hx => by
    rw [List.map_cons, List.reverse_cons] at hc
    obtain ⟨d, h1, h2⟩ := Cut.cov_append.1 hc
    obtain ⟨rfl, hm, hpm, he⟩ := h2
    have he : p + m = b := he
    have hy : y = h (p, m) := hA ((p, m), y) List.mem_cons_self
    rw [Cut.pushH]
    split
    · rename_i e
      obtain ⟨e1, e2⟩ := e
      subst e1
      obtain ⟨k, hk⟩ := hm
      refine pushH_allT hN l p (2 * m) (nd y x) h1 ⟨k + 1, by rw [hk, Nat.pow_succ, Nat.mul_comm]⟩ (by omega) (by omega) (fun q hq => hA q (List.mem_cons_of_mem _ hq)) ?_
      rw [hN p m h1.le (by omega) (by omega) ⟨k, hk⟩ e2, hy, hx, he]
    · intro q hq
      rcases List.mem_cons.1 hq with rfl | hq
      · exact hx
      · exact hA q hq
theorem pushAllH_allT {h : Nat × Nat → T} {s a c : Nat} (hN : NodesT h s a c) : ∀ (l st : List ((Nat × Nat) × T)) (b : Nat), s ≤ b → Cut.Cov a b (st.map Prod.fst).reverse → Cut.Cov b c (l.map Prod.fst) → Cut.All h st → Cut.All h l → Cut.All h (Cut.pushAllH st l)
  | [], _, _, _, _, _, h3, _ => h3
  | ((p, n), x) :: l, st, b, hb, h1, h2, h3, h4 => by
    obtain ⟨rfl, hp, hb', hc⟩ := h2
    have hle := hc.le
    have hn : 0 < n := by obtain ⟨k, hk⟩ := hp; have := Nat.two_pow_pos k; omega
    refine pushAllH_allT hN l _ (p + n) (by omega) ?_ hc (pushH_allT hN st p n x h1 hp hle (by omega) h3 (h4 _ List.mem_cons_self)) fun q hq => h4 q (List.mem_cons_of_mem _ hq)
    rw [Cut.pushH_fst]
    exact Cut.push_cov _ a p n h1 hp hb'
/-- what is told left of the run, joined to its leaves -/
theorem join_val {n s e : Nat} {H L : List T} {val : Nat × Nat → T} (V : Val (rix s e) n H L val) (hse : s < e) (he : e ≤ 1099511627776) (hL : L.length = e - s) : Cut.joinH 0 s e ((csp 0 s).map val) (Cut.cmp L s) = (csp 0 e).map val := by
  rw [cmp_val V hse he hL, csp_map, csp_map, csp_map]
  have hA : Cut.All (hq val) (Cut.pushAllH ((Cut.cut 0 s).zip ((Cut.cut 0 s).map (hq val))).reverse ((Cut.cut s e).zip ((Cut.cut s e).map (hq val)))) := by
    refine pushAllH_allT (val_nodesT V hse) _ _ s (Nat.le_refl _) ?_ ?_ ?_ ?_
    · rw [List.map_reverse, List.reverse_reverse, Cut.zip_fst _ _ (List.length_map _).symm]
      exact Cut.cut_cov (by omega) (by omega)
    · rw [Cut.zip_fst _ _ (List.length_map _).symm]
      exact Cut.cut_cov he (by omega)
    · intro q hq
      rw [List.mem_reverse, Cut.zip_map] at hq
      exact Cut.all_map _ q hq
    · rw [Cut.zip_map]
      exact Cut.all_map _
  have hr : Cut.All (hq val) (Cut.pushAllH ((Cut.cut 0 s).zip ((Cut.cut 0 s).map (hq val))).reverse ((Cut.cut s e).zip ((Cut.cut s e).map (hq val)))).reverse := fun q hq => hA q (List.mem_reverse.1 hq)
  rw [Cut.joinH, hr.snd, Cut.joinH_cut he (by omega) (by omega) (List.length_map _) (List.length_map _)]
theorem csp_nil {b e : Nat} (h : e ≤ b) : csp b e = [] := by
  unfold csp Cut.cut
  rw [show e - b = 0 by omega]
  rfl
theorem csp_one {b k : Nat} (h0 : b + 2 ^ k ≤ 1099511627776) (h1 : b % 2 ^ k = 0) : csp b (b + 2 ^ k) = [(b, b + 2 ^ k)] := by
  unfold csp
  rw [← Cut.cut_of (b := b) (e := b + 2 ^ k) (l := [(b, 2 ^ k)]) h0 ⟨rfl, ⟨k, rfl⟩, h1, rfl⟩ trivial]
  rfl
theorem run_same {s e : Nat} : ∀ (f b n : Nat), n ≤ f → 1 ≤ n → s ≤ b → runF f b n s e = runF f b n 0 e
  | 0, b, n, h1, h2, _ => by omega
  | f + 1, b, n, h1, h2, h3 => by
    rw [runF, runF]
    by_cases c1 : e ≤ b
    · rw [if_pos (.inr c1), if_pos (.inr c1)]
    · rw [if_neg (show ¬ (b + n ≤ s ∨ e ≤ b) by omega), if_neg (show ¬ (b + n ≤ 0 ∨ e ≤ b) by omega)]
      by_cases c2 : b + n ≤ e
      · rw [if_pos ⟨h3, c2⟩, if_pos ⟨Nat.zero_le _, c2⟩]
      · rw [if_neg (show ¬ (s ≤ b ∧ b + n ≤ e) by omega), if_neg (show ¬ (0 ≤ b ∧ b + n ≤ e) by omega)]
        have hn : 2 ≤ n := by omega
        have s1 := sp_lt hn
        have s2 := sp_pos hn
        rw [run_same f b (sp n) (by omega) (by omega) h3, run_same f (b + sp n) (n - sp n) (by omega) (by omega) (by omega)]
/-- what is told is the cut of what stands left of the run, and what is told of all up to its end -/
theorem run_cut {s e N : Nat} (hse : s < e) (heN : e ≤ N) (hN : N ≤ 1099511627776) : ∀ (f b n A : Nat), n ≤ f → 1 ≤ n → n ≤ 2 ^ A → b % 2 ^ A = 0 → (n = 2 ^ A ∨ b + n = N) → runF f b n s e = csp b (min s (b + n)) ++ runF f b n 0 e
  | 0, b, n, A, h1, h2, _, _, _ => by omega
  | f + 1, b, n, A, h1, h2, hA, hb, hE => by
    by_cases c1 : s ≤ b
    · rw [run_same (f + 1) b n h1 h2 c1, csp_nil (by omega)]
      rfl
    · by_cases c2 : b + n ≤ s
      · rw [runF, if_pos (.inl c2), run_nil h2 (by omega) (by omega), List.append_nil, show min s (b + n) = b + n by omega]
        rcases hE with h | h
        · rw [h, csp_one (by omega) hb]
        · omega
      · have hn : 2 ≤ n := by omega
        obtain ⟨a, e1, e2, e3⟩ := sp_pow hn
        have s1 := sp_lt hn
        have s2 := sp_pos hn
        have ha3 : 2 ^ (a + 1) = 2 * 2 ^ a := by rw [Nat.pow_succ, Nat.mul_comm]
        have haA : a + 1 ≤ A := by
          rcases Nat.lt_or_ge a A with c | c
          · exact c
          · have := Nat.pow_le_pow_right (n := 2) (by omega) c
            omega
        have hb0 : b % 2 ^ a = 0 := Cut.mod_of_le (by omega) hb
        have hbm : (b + 2 ^ a) % 2 ^ a = 0 := by rw [Nat.add_mod_right]; exact hb0
        have hNr : n - sp n = 2 ^ a ∨ b + sp n + (n - sp n) = N := by
          rcases hE with h | h
          · refine .inl ?_
            have : A ≤ a + 1 := by
              rcases Nat.lt_or_ge (a + 1) A with c | c
              · have := Nat.pow_lt_pow_right (a := 2) (by omega) c
                omega
              · exact c
            have hAa : A = a + 1 := by omega
            rw [hAa] at h
            omega
          · exact .inr (by omega)
        have i1 := run_cut hse heN hN f b (sp n) a (by omega) (by omega) (by omega) hb0 (.inl e1)
        have i2 := run_cut hse heN hN f (b + sp n) (n - sp n) a (by omega) (by omega) (by omega) (by rw [e1]; exact hbm) hNr
        rw [show b + sp n + (n - sp n) = b + n by omega] at i2
        obtain ⟨g, rfl⟩ : ∃ g, f = g + 1 := ⟨f - 1, by omega⟩
        have hz : runF (g + 1 + 1) b n 0 e = runF (g + 1) b (sp n) 0 e ++ runF (g + 1) (b + sp n) (n - sp n) 0 e := by
          rw [runF, if_neg (by omega)]
          by_cases c3 : b + n ≤ e
          · rw [if_pos ⟨Nat.zero_le _, c3⟩, run_nil (by omega) (by omega) (by omega), run_nil (by omega) (by omega) (by omega)]
            rfl
          · rw [if_neg (by omega)]
        rw [hz, runF, if_neg (by omega), if_neg (by omega), i1, i2, show min s (b + n) = s by omega]
        by_cases c3 : s ≤ b + sp n
        · rw [show min s (b + sp n) = s by omega, csp_nil (b := b + sp n) c3, List.nil_append, List.append_assoc]
        · rw [show min s (b + sp n) = b + sp n by omega, run_nil (f := g) (b := b) (n := sp n) (by omega) (by omega) (by omega), List.append_nil, List.nil_append, e1, csp_one (by omega) hb0]
          have : csp b s = (b, b + 2 ^ a) :: csp (b + 2 ^ a) s := by
            unfold csp
            rw [Cut.cut_cons (by omega) (by omega), Cut.grow_one (k := a) (by omega) (by omega) hb0 (by omega) (by omega)]
            rfl
          rw [this]
          rfl
theorem told_cut {s e n : Nat} (hse : s < e) (hen : e ≤ n) (hn : n ≤ 1099511627776) : runF n 0 n s e = csp 0 s ++ runF n 0 n 0 e := by
  have := run_cut hse hen hn n 0 n 40 (Nat.le_refl _) (by omega) hn (Nat.zero_mod _) (.inr (Nat.zero_add _))
  rw [this, show min s (0 + n) = s by omega]
end Spn
end Go.Proofs.YthoakchdlidemaaDoor
