import Derived.Test.YtmpaliocfikifaaGreatDoorCEX3
import Derived.Test.YtmpaliocfikifaaGreatDoorCW3
import Derived.Deep.WholeRow
/- THE PLAIN MATHEMATICS OF LAYER 12: what is known of a batch, and how it is climbed; nothing of the program. -/
namespace Go.Proofs.YtmpaliocfikifaaGreatDoor
namespace Bat
open Tree
theorem tch_sub {is : List Nat} {b e x y : Nat} (h : tch is x y = true) (h1 : b ≤ x) (h2 : y ≤ e) : tch is b e = true := by
  obtain ⟨i, hi, h3, h4⟩ := tch_mem.1 h
  exact tch_mem.2 ⟨i, hi, by omega, by omega⟩
theorem hashAt_map (K : List (Nat × Nat)) : ∀ (H : List T), K.Nodup → H.length = K.length → K.map (hashAt K H) = H := by
  induction K with
  | nil => intro H _ h; cases H with
    | nil => rfl
    | cons a H => cases h
  | cons k K ih =>
    intro H hn hl
    cases H with
    | nil => cases hl
    | cons h H =>
      rw [List.nodup_cons] at hn
      rw [List.map_cons]
      have e1 : hashAt (k :: K) (h :: H) k = h := by rw [hashAt, if_pos rfl]
      have e2 : K.map (hashAt (k :: K) (h :: H)) = K.map (hashAt K H) := List.map_congr_left fun s hs => by
        rw [hashAt, if_neg (fun e => hn.1 (by rw [e]; exact hs))]
      rw [e1, e2, ih H hn.2 (by simpa using hl)]
theorem apt_nodup : ∀ {b e : Nat} {l : List (Nat × Nat)} {p : Nat → Bool}, Apt b e l p → l.Nodup ∧ ∀ s ∈ l, b ≤ s.1 ∧ s.1 < s.2 ∧ s.2 ≤ e ∧ ∀ i, s.1 ≤ i → i < s.2 → p i = false
  | b, e, [], p, _ => ⟨List.nodup_nil, fun s hs => by cases hs⟩
  | b, e, s :: r, p, ⟨h1, h2, h3, h4, h5, h6⟩ => by
    obtain ⟨n1, n2⟩ := apt_nodup h6
    refine ⟨List.nodup_cons.2 ⟨fun hm => ?_, n1⟩, fun t ht => ?_⟩
    · have := n2 s hm; omega
    · rcases List.mem_cons.1 ht with rfl | ht
      · exact ⟨h1, h2, h3, h5⟩
      · have := n2 t ht
        exact ⟨by omega, this.2.1, this.2.2.1, this.2.2.2⟩
/-- the hash of the subtree [b, b + m): a told one, a leaf, or made of its parts -/
def valF (T' : List (Nat × Nat)) (H : List T) (ix : List Nat) (L : List T) : Nat → Nat → Nat → T
  | 0, _, _ => []
  | f + 1, b, m => if tch ix b (b + m) = false then hashAt T' H (b, b + m) else if m < 2 then hashAt (ix.map fun i => (i, i + 1)) L (b, b + m) else nd (valF T' H ix L f b (sp m)) (valF T' H ix L f (b + sp m) (m - sp m))
theorem valF_fuel (T' : List (Nat × Nat)) (H : List T) (ix : List Nat) (L : List T) : ∀ (f g b m : Nat), 1 ≤ m → m ≤ f → m ≤ g → valF T' H ix L f b m = valF T' H ix L g b m
  | 0, _, _, _, h1, h, _ => by omega
  | _ + 1, 0, _, _, h1, _, h => by omega
  | f + 1, g + 1, b, m, h1, h2, h3 => by
    rw [valF, valF]
    split
    · rfl
    · split
      · rfl
      · have s1 := sp_lt (n := m) (by omega)
        have s2 := sp_pos (n := m) (by omega)
        rw [valF_fuel T' H ix L f g b (sp m) (by omega) (by omega) (by omega), valF_fuel T' H ix L f g (b + sp m) (m - sp m) (by omega) (by omega) (by omega)]
/-- a hash of each subtree, that fits told hashes and leaves -/
structure Val (ix : List Nat) (n : Nat) (H L : List T) (val : Nat × Nat → T) : Prop where
  h : H = (othF n 0 n ix).map val
  l : L = ix.map fun i => val (i, i + 1)
  n : ∀ b m, 2 ≤ m → tch ix b (b + m) = true → val (b, b + m) = nd (val (b, b + sp m)) (val (b + sp m, b + m))
theorem val_is (ix : List Nat) (n : Nat) (H L : List T) (hn : 1 ≤ n) (hi : ix.Nodup) (hH : H.length = (othF n 0 n ix).length) (hL : L.length = ix.length) : ∃ val, Val ix n H L val := by
  obtain ⟨n1, n2⟩ := apt_nodup (othF_apart ix n 0 n hn (Nat.le_refl _))
  refine ⟨fun s => valF (othF n 0 n ix) H ix L (s.2 - s.1) s.1 (s.2 - s.1), ?_, ?_, fun b m h2 ht => ?_⟩
  · rw [← hashAt_map (othF n 0 n ix) H n1 hH]
    refine List.map_congr_left fun s hs => ?_
    rw [hashAt_map (othF n 0 n ix) H n1 hH]
    obtain ⟨q1, q2, q3, q4⟩ := n2 s hs
    obtain ⟨f, hf⟩ : ∃ f, s.2 - s.1 = f + 1 := ⟨s.2 - s.1 - 1, by omega⟩
    have e : s.1 + (s.2 - s.1) = s.2 := by omega
    have ht : tch ix s.1 (s.1 + (f + 1)) = false := by
      rw [← hf, e]
      cases h : tch ix s.1 s.2 with
      | false => rfl
      | true =>
        obtain ⟨i, hi, h3, h4⟩ := tch_mem.1 h
        have := q4 i h3 h4
        simp [hi] at this
    show _ = valF (othF n 0 n ix) H ix L (s.2 - s.1) s.1 (s.2 - s.1)
    rw [hf, valF, if_pos ht, ← hf, e]
  · have hm : (ix.map fun i => (i, i + 1)).Nodup := by
      rw [List.Nodup, List.pairwise_map]
      exact hi.imp fun h e => h (Prod.ext_iff.1 e).1
    have := hashAt_map (ix.map fun i => (i, i + 1)) L hm (by simpa using hL)
    rw [List.map_map] at this
    refine this.symm.trans (List.map_congr_left fun i hi' => ?_)
    show hashAt _ L (i, i + 1) = valF _ H ix L (i + 1 - i) i (i + 1 - i)
    rw [show i + 1 - i = 0 + 1 by omega, valF, if_neg (by rw [tch_mem.2 ⟨i, hi', by omega, by omega⟩]; simp), if_pos (by omega)]
  · have s1 := sp_lt (n := m) h2
    have s2 := sp_pos (n := m) h2
    show valF _ H ix L (b + m - b) b (b + m - b) = nd (valF _ H ix L (b + sp m - b) b (b + sp m - b)) (valF _ H ix L (b + m - (b + sp m)) (b + sp m) (b + m - (b + sp m)))
    rw [show b + m - b = m by omega, show b + sp m - b = sp m by omega, show b + m - (b + sp m) = m - sp m by omega]
    obtain ⟨f, rfl⟩ : ∃ f, m = f + 1 := ⟨m - 1, by omega⟩
    rw [valF, if_neg (by rw [ht]; simp), if_neg (by omega), valF_fuel _ H ix L f (sp (f + 1)) b (sp (f + 1)) (by omega) (by omega) (by omega), valF_fuel _ H ix L f (f + 1 - sp (f + 1)) (b + sp (f + 1)) (f + 1 - sp (f + 1)) (by omega) (by omega) (by omega)]
/-- what is known -/
abbrev Kn := Nat × Nat → Option T
def upd (f : Kn) (s : Nat × Nat) (h : T) : Kn := fun t => if t = s then some h else f t
/-- two that lie beside each other -/
def jn (a b : Nat × Nat) : Nat × Nat := if b.1 < a.1 then (b.1, a.2) else (a.1, b.2)
def jl (a b : Nat × Nat) : Nat × Nat := if b.1 < a.1 then b else a
def jr (a b : Nat × Nat) : Nat × Nat := if b.1 < a.1 then a else b
/-- what is known behind a climb over these, and how far it came -/
def clm : Kn → Nat × Nat → List (Nat × Nat) → Kn × Option (Nat × Nat)
  | f, on, [] => (f, some on)
  | f, on, s :: P => if f s = none then (f, none) else clm (upd f (jn on s) (nd ((f (jl on s)).getD []) ((f (jr on s)).getD []))) (jn on s) P
theorem clm_append : ∀ (P Q : List (Nat × Nat)) (f : Kn) (on : Nat × Nat), clm f on (P ++ Q) = match (clm f on P).2 with | none => ((clm f on P).1, none) | some o => clm (clm f on P).1 o Q
  | [], Q, f, on => rfl
  | s :: P, Q, f, on => by
    rw [List.cons_append, clm, clm]
    split
    · rfl
    · exact clm_append P Q _ _
/-- all that is known is so -/
def Snd (val : Nat × Nat → T) (f : Kn) : Prop := ∀ s h, f s = some h → h = val s
def Ext (f g : Kn) : Prop := ∀ s, f s ≠ none → g s ≠ none
theorem Snd.upd {val : Nat × Nat → T} {f : Kn} (h : Snd val f) {s : Nat × Nat} {x : T} (hx : x = val s) : Snd val (Bat.upd f s x) := fun t y ht => by
  unfold Bat.upd at ht
  split at ht
  · rename_i e; rw [e, ← hx]; exact (Option.some.inj ht).symm
  · exact h t y ht
theorem ext_upd (f : Kn) (s : Nat × Nat) (x : T) : Ext f (upd f s x) := fun t ht => by
  unfold upd
  split
  · simp
  · exact ht
theorem Snd.at {val : Nat × Nat → T} {f : Kn} (h : Snd val f) {s : Nat × Nat} (hs : f s ≠ none) : f s = some (val s) := by
  cases e : f s with
  | none => exact absurd e hs
  | some x => rw [h s x e]
theorem insF_cases {g b m x y : Nat} (h : insF g b m x y = true) : (x = b ∧ y = b + m) ∨ (y ≤ b + sp m ∧ ∃ g', insF g' b (sp m) x y = true) ∨ (b + sp m ≤ x ∧ ∃ g', insF g' (b + sp m) (m - sp m) x y = true) := by
  cases g with
  | zero => cases h
  | succ g =>
    rw [insF] at h
    by_cases c1 : x = b ∧ y = b + m
    · exact .inl c1
    · rw [if_neg c1] at h
      by_cases c2 : m < 2
      · rw [if_pos c2] at h; cases h
      · rw [if_neg c2] at h
        by_cases c3 : y ≤ b + sp m
        · rw [if_pos c3] at h; exact .inr (.inl ⟨c3, g, h⟩)
        · rw [if_neg c3] at h
          by_cases c4 : b + sp m ≤ x
          · rw [if_pos c4] at h; exact .inr (.inr ⟨c4, g, h⟩)
          · rw [if_neg c4] at h; cases h
theorem climb {ix : List Nat} {val : Nat × Nat → T} (hv : ∀ b m, 2 ≤ m → tch ix b (b + m) = true → val (b, b + m) = nd (val (b, b + sp m)) (val (b + sp m, b + m))) {i : Nat} (hi : i ∈ ix) {f0 : Kn} (hs : Snd val f0) (h0 : f0 (i, i + 1) ≠ none) {N : Nat}
    (hc : ∀ x y, insF N 0 N x y = true → tch ix x y = true → (∀ j ∈ ix, x ≤ j → j < y → j < i) → f0 (x, y) ≠ none) :
    ∀ (f b m : Nat), 1 ≤ m → m ≤ f → 1 ≤ N → b ≤ i → i < b + m → insF N 0 N b (b + m) = true → (∀ s ∈ othF f b m ix, f0 s ≠ none) →
      Snd val (clm f0 (i, i + 1) (pthF f b m i)).1 ∧ Ext f0 (clm f0 (i, i + 1) (pthF f b m i)).1 ∧ (∀ o, (clm f0 (i, i + 1) (pthF f b m i)).2 = some o → o = (b, b + m) ∧ (clm f0 (i, i + 1) (pthF f b m i)).1 o ≠ none) ∧
      ((∀ j ∈ ix, b ≤ j → j < b + m → j ≤ i) → (clm f0 (i, i + 1) (pthF f b m i)).2 ≠ none) ∧
      ∀ g x y, insF g b m x y = true → x ≤ i → i < y → (∀ j ∈ ix, x ≤ j → j < y → j ≤ i) → (clm f0 (i, i + 1) (pthF f b m i)).1 (x, y) ≠ none
  | 0, b, m, h1, h2, _, _, _, _, _ => by omega
  | f + 1, b, m, h1, h2, hN, hb, hbm, hin, ho => by
    have htc : tch ix b (b + m) = true := tch_mem.2 ⟨i, hi, hb, hbm⟩
    by_cases hm : m < 2
    · obtain rfl : m = 1 := by omega
      obtain rfl : b = i := by omega
      rw [pthF_small (by omega)]
      refine ⟨hs, fun _ h => h, fun o e => ?_, fun _ => by simp [clm], fun g x y hxy h3 h4 _ => ?_⟩
      · simp only [clm, Option.some.injEq] at e
        exact ⟨e.symm, by rw [← e]; exact h0⟩
      · have := insF_in g b 1 x y hxy (by omega)
        rw [show x = b by omega, show y = b + 1 by omega]
        exact h0
    · have s1 := sp_lt (n := m) (by omega)
      have s2 := sp_pos (n := m) (by omega)
      have hpt := insF_parts N 0 N b (b + m) (Nat.le_refl _) hN hin (by omega)
      rw [show b + m - b = m by omega] at hpt
      have hot := othF_two (f := f) htc (show 2 ≤ m by omega)
      rw [hot] at ho
      have hnv := hv b m (by omega) htc
      by_cases hl : i < b + sp m
      · rw [pthF_left (by omega) hl, clm_append]
        have ih := climb hv hi hs h0 hc f b (sp m) (by omega) (by omega) hN hb hl hpt.1 (fun s hs => ho s (List.mem_append_left _ hs))
        generalize clm f0 (i, i + 1) (pthF f b (sp m) i) = R at ih ⊢
        obtain ⟨g1, R2⟩ := R
        obtain ⟨i1, i2, i3, i4, i5⟩ := ih
        simp only at i1 i2 i3 i4 i5 ⊢
        have hoth : (∀ j ∈ ix, b ≤ j → j < b + m → j ≤ i) → f0 (b + sp m, b + m) ≠ none := fun h => by
          have ht : tch ix (b + sp m) (b + sp m + (m - sp m)) = false := by
            cases e : tch ix (b + sp m) (b + sp m + (m - sp m)) with
            | false => rfl
            | true =>
              obtain ⟨j, hj, h3, h4⟩ := tch_mem.1 e
              have := h j hj (by omega) (by omega)
              omega
          obtain ⟨f', rfl⟩ : ∃ f', f = f' + 1 := ⟨f - 1, by omega⟩
          have := ho (b + sp m, b + m) (List.mem_append_right _ (by rw [othF_no ht, show b + sp m + (m - sp m) = b + m by omega]; exact List.mem_singleton.2 rfl))
          exact this
        cases R2 with
        | none =>
          refine ⟨i1, i2, fun o e => by simp at e, fun h => ?_, fun g x y hxy h3 h4 h5 => ?_⟩
          · exact absurd rfl (i4 (fun j hj h3 h4 => h j hj h3 (by omega)))
          · rcases insF_cases hxy with e | ⟨h6, g', hxy'⟩ | ⟨h6, g', hxy'⟩
            · exact absurd rfl (i4 (fun j hj h6 h7 => h5 j hj (by omega) (by omega)))
            · exact i5 g' x y hxy' h3 h4 h5
            · omega
        | some o =>
          obtain ⟨rfl, i3'⟩ := i3 o rfl
          simp only
          have ej : jn (b, b + sp m) (b + sp m, b + m) = (b, b + m) := by unfold jn; rw [if_neg (by simp)]
          have el : jl (b, b + sp m) (b + sp m, b + m) = (b, b + sp m) := by unfold jl; rw [if_neg (by simp)]
          have er : jr (b, b + sp m) (b + sp m, b + m) = (b + sp m, b + m) := by unfold jr; rw [if_neg (by simp)]
          by_cases hno : g1 (b + sp m, b + m) = none
          · rw [clm, if_pos hno]
            refine ⟨i1, i2, fun o e => by simp at e, fun h => ?_, fun g x y hxy h3 h4 h5 => ?_⟩
            · exact absurd hno (i2 _ (hoth h))
            · rcases insF_cases hxy with e | ⟨h6, g', hxy'⟩ | ⟨h6, g', hxy'⟩
              · obtain ⟨rfl, rfl⟩ := e
                exact absurd hno (i2 _ (hoth h5))
              · exact i5 g' x y hxy' h3 h4 h5
              · omega
          · rw [clm, if_neg hno, clm, ej, el, er, i1.at i3', i1.at hno]
            refine ⟨i1.upd (by rw [hnv]; rfl), fun s hs => ext_upd _ _ _ s (i2 s hs), fun o e => ?_, fun _ => by simp, fun g x y hxy h3 h4 h5 => ?_⟩
            · simp only [Option.some.injEq] at e
              subst e
              exact ⟨rfl, by simp [upd]⟩
            · rcases insF_cases hxy with e | ⟨h6, g', hxy'⟩ | ⟨h6, g', hxy'⟩
              · obtain ⟨rfl, rfl⟩ := e
                simp [upd]
              · exact ext_upd _ _ _ _ (i5 g' x y hxy' h3 h4 h5)
              · omega
      · rw [pthF_right (by omega) hl, clm_append]
        have ih := climb hv hi hs h0 hc f (b + sp m) (m - sp m) (by omega) (by omega) hN (by omega) (by omega) (by rw [show b + sp m + (m - sp m) = b + m by omega]; exact hpt.2) (fun s hs => ho s (List.mem_append_right _ hs))
        rw [show b + sp m + (m - sp m) = b + m by omega] at ih
        generalize clm f0 (i, i + 1) (pthF f (b + sp m) (m - sp m) i) = R at ih ⊢
        obtain ⟨g1, R2⟩ := R
        obtain ⟨i1, i2, i3, i4, i5⟩ := ih
        simp only at i1 i2 i3 i4 i5 ⊢
        have hoth : f0 (b, b + sp m) ≠ none := by
          cases e : tch ix b (b + sp m) with
          | false =>
            obtain ⟨f', rfl⟩ : ∃ f', f = f' + 1 := ⟨f - 1, by omega⟩
            exact ho (b, b + sp m) (List.mem_append_left _ (by rw [othF_no e]; exact List.mem_singleton.2 rfl))
          | true => exact hc _ _ hpt.1 e (fun j _ _ h => by omega)
        cases R2 with
        | none =>
          refine ⟨i1, i2, fun o e => by simp at e, fun h => ?_, fun g x y hxy h3 h4 h5 => ?_⟩
          · exact absurd rfl (i4 (fun j hj h3 h4 => h j hj (by omega) (by omega)))
          · rcases insF_cases hxy with e | ⟨h6, g', hxy'⟩ | ⟨h6, g', hxy'⟩
            · exact absurd rfl (i4 (fun j hj h6 h7 => h5 j hj (by omega) (by omega)))
            · omega
            · exact i5 g' x y hxy' h3 h4 h5
        | some o =>
          obtain ⟨rfl, i3'⟩ := i3 o rfl
          simp only
          have ej : jn (b + sp m, b + m) (b, b + sp m) = (b, b + m) := by unfold jn; rw [if_pos (by simp; omega)]
          have el : jl (b + sp m, b + m) (b, b + sp m) = (b, b + sp m) := by unfold jl; rw [if_pos (by simp; omega)]
          have er : jr (b + sp m, b + m) (b, b + sp m) = (b + sp m, b + m) := by unfold jr; rw [if_pos (by simp; omega)]
          have hno : g1 (b, b + sp m) ≠ none := i2 _ hoth
          rw [clm, if_neg hno, clm, ej, el, er, i1.at i3', i1.at hno]
          refine ⟨i1.upd (by rw [hnv]; rfl), fun s hs => ext_upd _ _ _ s (i2 s hs), fun o e => ?_, fun _ => by simp, fun g x y hxy h3 h4 h5 => ?_⟩
          · simp only [Option.some.injEq] at e
            subst e
            exact ⟨rfl, by simp [upd]⟩
          · rcases insF_cases hxy with e | ⟨h6, g', hxy'⟩ | ⟨h6, g', hxy'⟩
            · obtain ⟨rfl, rfl⟩ := e
              simp [upd]
            · omega
            · exact ext_upd _ _ _ _ (i5 g' x y hxy' h3 h4 h5)
/-- what is known while all leaves are climbed from -/
structure Cl (ix : List Nat) (n : Nat) (val : Nat × Nat → T) (K : Nat) (f : Kn) : Prop where
  s : Snd val f
  t : ∀ s ∈ othF n 0 n ix, f s ≠ none
  l : ∀ i ∈ ix, f (i, i + 1) ≠ none
  c : ∀ x y, insF n 0 n x y = true → tch ix x y = true → (∀ j ∈ ix, x ≤ j → j < y → j ∈ ix.take K) → f (x, y) ≠ none
theorem Cl.next {ix : List Nat} {n : Nat} {val : Nat × Nat → T} {K : Nat} {f : Kn} (h : Cl ix n val K f) (hv : ∀ b m, 2 ≤ m → tch ix b (b + m) = true → val (b, b + m) = nd (val (b, b + sp m)) (val (b + sp m, b + m))) (hp : ix.Pairwise (· < ·)) (hn : ∀ i ∈ ix, i < n) {i : Nat} (hi : ix[K]? = some i) :
    Cl ix n val (K + 1) (clm f (i, i + 1) (pthF n 0 n i)).1 := by
  have hm := List.mem_of_getElem? hi
  have hin := hn i hm
  obtain ⟨n', rfl⟩ : ∃ n', n = n' + 1 := ⟨n - 1, by omega⟩
  have hlt : ∀ j ∈ ix.take K, j < i := fun j hj => by
    obtain ⟨k, hk, e⟩ := List.mem_iff_getElem.1 hj
    rw [List.length_take] at hk
    obtain ⟨hK, e2⟩ := List.getElem?_eq_some_iff.1 hi
    have := List.pairwise_iff_getElem.1 hp k K (by omega) hK (by omega)
    rw [List.getElem_take] at e
    omega
  have hge : ∀ j ∈ ix, j < i → j ∈ ix.take K := fun j hj hji => by
    obtain ⟨k, hk, e⟩ := List.mem_iff_getElem.1 hj
    obtain ⟨hK, e2⟩ := List.getElem?_eq_some_iff.1 hi
    have hkK : k < K := by
      by_cases c : k < K
      · exact c
      · by_cases c2 : k = K
        · subst c2; omega
        · have := List.pairwise_iff_getElem.1 hp K k hK hk (by omega); omega
    exact List.mem_iff_getElem.2 ⟨k, by rw [List.length_take]; omega, by rw [List.getElem_take]; exact e⟩
  have hsucc : ∀ j ∈ ix.take (K + 1), j ≤ i := fun j hj => by
    rw [List.take_add_one, hi] at hj
    rcases List.mem_append.1 hj with hj | hj
    · have := hlt j hj; omega
    · simp at hj; omega
  obtain ⟨c1, c2, c3, c4, c5⟩ := climb hv hm h.s (h.l i hm) (N := n' + 1) (fun x y h1 h2 h3 => h.c x y h1 h2 fun j hj h4 h5 => hge j hj (h3 j hj h4 h5)) (n' + 1) 0 (n' + 1) (by omega) (Nat.le_refl _) (by omega) (by omega) (by omega) (by rw [show (0 : Nat) + (n' + 1) = 0 + (n' + 1) from rfl]; exact insF_self) (fun s hs => h.t s hs)
  refine ⟨c1, fun s hs => c2 s (h.t s hs), fun j hj => c2 _ (h.l j hj), fun x y h1 h2 h3 => ?_⟩
  by_cases hi' : x ≤ i ∧ i < y
  · exact c5 (n' + 1) x y h1 hi'.1 hi'.2 (fun j hj h4 h5 => hsucc j (h3 j hj h4 h5))
  · refine c2 _ (h.c x y h1 h2 fun j hj h4 h5 => ?_)
    have hj1 := hsucc j (h3 j hj h4 h5)
    exact hge j hj (by rcases Nat.lt_or_ge j i with q | q; exact q; exact absurd ⟨by omega, by omega⟩ hi')
/-- in the end each subtree that has a leaf is known -/
theorem Cl.last {ix : List Nat} {n : Nat} {val : Nat × Nat → T} {f : Kn} (h : Cl ix n val ix.length f) {x y : Nat} (h1 : insF n 0 n x y = true) (h2 : tch ix x y = true) : f (x, y) = some (val (x, y)) :=
  h.s.at (h.c x y h1 h2 fun j hj _ _ => by rw [List.take_length]; exact hj)
theorem Cl.root {ix : List Nat} {n : Nat} {val : Nat × Nat → T} {f : Kn} (h : Cl ix n val ix.length f) (h0 : ix ≠ []) (hn : ∀ i ∈ ix, i < n) : f (0, n) = some (val (0, n)) := by
  obtain ⟨i, hi⟩ := List.exists_mem_of_ne_nil _ h0
  have := hn i hi
  obtain ⟨n', rfl⟩ : ∃ n', n = n' + 1 := ⟨n - 1, by omega⟩
  refine h.last ?_ (tch_mem.2 ⟨i, hi, by omega, this⟩)
  have := insF_self (f := n') (b := 0) (n := n' + 1)
  rwa [Nat.zero_add] at this
theorem pth_known {ix : List Nat} {i N : Nat} (hi : i ∈ ix) (p : Nat × Nat → Prop) (hN : 1 ≤ N) (hc : ∀ x y, insF N 0 N x y = true → tch ix x y = true → p (x, y)) :
    ∀ (f b m : Nat), 1 ≤ m → m ≤ f → b ≤ i → i < b + m → insF N 0 N b (b + m) = true → (∀ s ∈ othF f b m ix, p s) → ∀ s ∈ pthF f b m i, p s
  | 0, b, m, h1, h2, _, _, _, _ => by omega
  | f + 1, b, m, h1, h2, hb, hbm, hin, ho => by
    have htc : tch ix b (b + m) = true := tch_mem.2 ⟨i, hi, hb, hbm⟩
    by_cases hm : m < 2
    · rw [pthF_small hm]; intro s hs; cases hs
    · have s1 := sp_lt (n := m) (by omega)
      have s2 := sp_pos (n := m) (by omega)
      have hpt := insF_parts N 0 N b (b + m) (Nat.le_refl _) hN hin (by omega)
      rw [show b + m - b = m by omega] at hpt
      rw [othF_two (f := f) htc (show 2 ≤ m by omega)] at ho
      obtain ⟨f', rfl⟩ : ∃ f', f = f' + 1 := ⟨f - 1, by omega⟩
      intro s hs
      by_cases hl : i < b + sp m
      · rw [pthF_left (by omega) hl] at hs
        rcases List.mem_append.1 hs with hs | hs
        · exact pth_known hi p hN hc (f' + 1) b (sp m) (by omega) (by omega) hb hl hpt.1 (fun s hs => ho s (List.mem_append_left _ hs)) s hs
        · obtain rfl := List.mem_singleton.1 hs
          cases e : tch ix (b + sp m) (b + sp m + (m - sp m)) with
          | false => exact ho _ (List.mem_append_right _ (by rw [othF_no e, show b + sp m + (m - sp m) = b + m by omega]; exact List.mem_singleton.2 rfl))
          | true => exact hc _ _ hpt.2 (by rw [show b + sp m + (m - sp m) = b + m by omega] at e; exact e)
      · rw [pthF_right (by omega) hl] at hs
        rcases List.mem_append.1 hs with hs | hs
        · exact pth_known hi p hN hc (f' + 1) (b + sp m) (m - sp m) (by omega) (by omega) (by omega) (by omega) (by rw [show b + sp m + (m - sp m) = b + m by omega]; exact hpt.2) (fun s hs => ho s (List.mem_append_right _ hs)) s hs
        · obtain rfl := List.mem_singleton.1 hs
          cases e : tch ix b (b + sp m) with
          | false => exact ho _ (List.mem_append_left _ (by rw [othF_no e]; exact List.mem_singleton.2 rfl))
          | true => exact hc _ _ hpt.1 e
theorem Cl.path {ix : List Nat} {n : Nat} {val : Nat × Nat → T} {f : Kn} (h : Cl ix n val ix.length f) {i : Nat} (hi : i ∈ ix) (hn : i < n) : ∀ s ∈ pthF n 0 n i, f s = some (val s) := by
  obtain ⟨n', rfl⟩ : ∃ n', n = n' + 1 := ⟨n - 1, by omega⟩
  have hs := insF_self (f := n') (b := 0) (n := n' + 1)
  exact pth_known hi (fun s => f s = some (val s)) (by omega) (fun x y h1 h2 => h.last h1 h2) (n' + 1) 0 (n' + 1) (by omega) (Nat.le_refl _) (by omega) (by omega) hs (fun s hs => h.s.at (h.t s hs))
end Bat
end Go.Proofs.YtmpaliocfikifaaGreatDoor

namespace Go.Proofs.YtmpaliocfikifaaGreatDoor
open Go.RowKit

theorem lt_of_heap {w : World} {b : Nat} {o : Obj} (h : w.heap[b]? = some o) : b < w.heap.size := (Array.getElem?_eq_some_iff.1 h).1

theorem start_range {w : World} (T : Tabs w) : w.rangeAt 3 0 (wv Sha.iv.l) := fun j v hv => by
  have hj : j < (wv Sha.iv.l).length := (List.getElem?_eq_some_iff.1 hv).1
  have h8 : (wv Sha.iv.l).length = 8 := by simp [Sha.St.l]
  rw [Nat.zero_add, T.start j (by omega), ← hv]
  simp only [wv, List.getElem?_map, List.getD_eq_getElem?_getD]
  rw [List.getElem?_eq_getElem (by simpa [wv] using hj)]
  rfl
theorem size8 (s : Sha.St) : (Tryz.prog.info? 148).map (·.size) = some (wv s.l).length := by rw [info8w]; rfl
theorem size8' (s : Sha.St) : (Tryz.prog.info? 148).map (·.size) = some (wv s.l).toArray.size := by rw [info8w]; rfl

set_option maxHeartbeats 400000 in
theorem words_any (b n : Nat) (st : Sha.St) (rest : List UInt8) (hl : rest.length = 64) (w : World) (T : Tabs w)
    (hb : w.heap[b]? = some (.cells (hcells st rest n).toArray 151 (0, 0))) :
    Calls Tryz.prog 115 #[.pointer (some ⟨b, 0, none⟩)] w fun e w' => e = .returned (.agg (wv (if n < 64 then Sha.iv else st).l).toArray) ∧ Below w.heap.size w w' := by
  have hlt := lt_of_heap hb
  have c := hcells_taken hb hl
  have R : Hid (w.rangeAt b 0 (wv st.l)) := hcells_state hb
  have R2 : Hid (w.rangeAt 3 0 (wv Sha.iv.l)) := start_range T
  clear hb
  by_cases h : n < 64
  · have h' : (n : Int) < 64 := by omega
    rw [if_pos h]
    go_enter Tryz.func115, Tryz.ntmps115
    go_wp2_with (first
      | (with_reducible show wpList _ _ _ (Oper.mk _ (Op.load 148 _) _ _ _ _ :: _) _ _; go_must (refine wpList_load_mid rfl 148 _ rfl 3 0 rfl _ _ (World.rangeAt_alloc R2.out _) Tryz.underlying148 rfl (size8 _) ?_))
      | (with_reducible show wpList _ _ _ (Oper.mk _ (Op.store 148 _ _) _ _ _ _ :: _) _ _; go_must (refine wpList_store_row rfl 148 _ _ rfl w.heap.size _ rfl rfl 148 _ (heap_alloc_new w _) (size8' _) rfl (wv_one _) ?_)))
    refine bodyPost_ret (v := .agg (wv Sha.iv.l).toArray) (results_cell_row rfl _ _ w.heap.size 148 _ (0, 0) _ rfl (setRow_heap _ _ _ _ _ _ (heap_alloc_new w _)) Tryz.underlying148 rfl (size8' _)) rfl ⟨rfl, ?_⟩
    exact Below.setRow ((Below.refl _ _).alloc (Nat.le_refl _) _) (Nat.le_refl _) _
  · have h' : ¬ (n : Int) < 64 := by omega
    rw [if_neg h]
    go_enter Tryz.func115, Tryz.ntmps115
    go_wp2_with (first
      | (with_reducible show wpList _ _ _ (Oper.mk _ (Op.load 148 _) _ _ _ _ :: _) _ _; go_must (refine wpList_load_mid rfl 148 _ rfl b 0 rfl _ _ (World.rangeAt_alloc R.out _) Tryz.underlying148 rfl (size8 _) ?_))
      | (with_reducible show wpList _ _ _ (Oper.mk _ (Op.store 148 _ _) _ _ _ _ :: _) _ _; go_must (refine wpList_store_row rfl 148 _ _ rfl w.heap.size _ rfl rfl 148 _ (heap_alloc_new w _) (size8' _) rfl (wv_one _) ?_)))
    refine bodyPost_ret (v := .agg (wv st.l).toArray) (results_cell_row rfl _ _ w.heap.size 148 _ (0, 0) _ rfl (setRow_heap _ _ _ _ _ _ (heap_alloc_new w _)) Tryz.underlying148 rfl (size8' _)) rfl ⟨rfl, ?_⟩
    exact Below.setRow ((Below.refl _ _).alloc (Nat.le_refl _) _) (Nat.le_refl _) _

theorem info60 : (Tryz.prog.info? 151).map (·.size) = some 73 := by kernel_rfl
theorem size73 {st : Sha.St} {rest : List UInt8} {n : Nat} (hl : rest.length = 64) : (Tryz.prog.info? 151).map (·.size) = some (hcells st rest n).toArray.size := by
  rw [info60, List.size_toArray, hcells_length hl]
def z0 : Sha.St := ⟨0, 0, 0, 0, 0, 0, 0, 0⟩
def r0 : List UInt8 := List.replicate 64 0
theorem zero60 : ∀ w, (zeroValue 151).run Tryz.prog w = .ok (.agg (hcells z0 r0 0).toArray) w :=
  (zero_of_info (P := Tryz.prog) (t := 151) (v := .agg (hcells z0 r0 0).toArray) (n := 73) (by kernel_rfl)).1
theorem hcells_one (st : Sha.St) (rest : List UInt8) (n : Nat) : (hcells st rest n).toArray.all (·.oneCell') = true :=
  oneCell_of fun v hv => by
    simp only [hcells, List.mem_append, List.mem_singleton] at hv
    rcases hv with hv | hv | rfl
    · exact wv_mem hv
    · exact bv_mem hv
    · rfl

set_option maxRecDepth 100000 in
set_option maxHeartbeats 400000 in
theorem copied_any (b n : Nat) (st : Sha.St) (rest : List UInt8) (hl : rest.length = 64) (w : World)
    (hb : w.heap[b]? = some (.cells (hcells st rest n).toArray 151 (0, 0))) :
    Calls Tryz.prog 116 #[.pointer (some ⟨b, 0, none⟩)] w fun e w' => e = .returned (.agg (hcells st rest n).toArray) ∧ Below w.heap.size w w' := by
  have hlt := lt_of_heap hb
  have Hb : Hid _ := hb
  clear hb
  have hz := zero60
  go_enter Tryz.func116, Tryz.ntmps116
  go_wp2_with (first
    | (with_reducible show wpList _ _ _ (Oper.mk _ (Op.load 151 _) _ _ _ _ :: _) _ _; go_must (refine wpList_load_row rfl 151 _ rfl b rfl 151 _ (0, 0) _ ((Below.heap_alloc _ _ _ hlt).trans Hb.out) Tryz.underlying151 rfl (size73 hl) ?_))
    | (with_reducible show wpList _ _ _ (Oper.mk _ (Op.store 151 _ _) _ _ _ _ :: _) _ _; go_must (refine wpList_store_row rfl 151 _ _ rfl w.heap.size _ rfl rfl 151 _ (heap_alloc_new w _) (size73 hl) (by rw [List.size_toArray, List.size_toArray, hcells_length hl, hcells_length (by simp [r0])]) (hcells_one _ _ _) ?_)))
  refine bodyPost_ret (v := .agg (hcells st rest n).toArray) (results_cell_row rfl _ _ w.heap.size 151 _ (0, 0) _ rfl (setRow_heap _ _ _ _ _ _ (heap_alloc_new w _)) Tryz.underlying151 rfl (size73 hl)) rfl ⟨rfl, ?_⟩
  exact Below.setRow ((Below.refl _ _).alloc (Nat.le_refl _) _) (Nat.le_refl _) _

/-- the blocks of 'wordBytes' behind k bytes -/
structure WbInv (s : Sha.St) (w : World) (k : Nat) (w' : World) : Prop where
  b0 : w'.heap[w.heap.size]? = some (.cells (wv s.l).toArray 148 (0, 0))
  b1 : w'.heap[w.heap.size + 1]? = some (.cells (bv (s.bytes.take k ++ List.replicate (32 - k) 0)).toArray 157 (0, 0))
  size : w'.heap.size = w.heap.size + 2
  below : Below w.heap.size w w'
theorem wbInv_start (s : Sha.St) (w : World) : WbInv s w 0 ((w.alloc (.cells (wv s.l).toArray 148)).alloc (.cells (bv (List.replicate 32 0)).toArray 157)) := by
  have s1 := size_alloc w (.cells (wv s.l).toArray 148)
  refine ⟨?_, heap_alloc_at _ _ _ s1, by rw [size_alloc]; omega, ((Below.refl _ _).alloc (Nat.le_refl _) _).alloc (by omega) _⟩
  rw [Below.heap_alloc _ _ _ (by omega)]; exact heap_alloc_new w _
theorem bv_set (l : List UInt8) (m : Nat) (v : UInt8) (h : 0 < m) : (bv (l ++ List.replicate m 0)).toArray.setIfInBounds l.length (.int .u8 (v.toNat : Int)) = (bv ((l ++ [v]) ++ List.replicate (m - 1) 0)).toArray := by
  obtain ⟨m, rfl⟩ : ∃ n, m = n + 1 := ⟨m - 1, by omega⟩
  simp [bv, List.replicate_succ]
theorem WbInv.set {s : Sha.St} {w : World} {k : Nat} {w' : World} (inv : WbInv s w k w') (hk : k < 32) :
    WbInv s w (k + 1) (w'.setCell ⟨w.heap.size + 1, k, none⟩ (.int .u8 ((s.bytes.getD k 0).toNat : Int))) := by
  have hl := Sha.bytes_length s
  refine ⟨?_, ?_, ?_, ?_⟩
  · rw [heap_setCell_other _ _ _ _ (by show w.heap.size ≠ w.heap.size + 1; omega)]; exact inv.b0
  · rw [heap_setCell_same _ _ _ _ _ _ inv.b1]
    have := bv_set (s.bytes.take k) (32 - k) (s.bytes.getD k 0) (by omega)
    rw [List.length_take, hl, Nat.min_eq_left (by omega)] at this
    rw [this, show 32 - k - 1 = 32 - (k + 1) from by omega, List.getD_eq_getElem?_getD, List.getElem?_eq_getElem (by omega), Option.getD_some, List.take_append_getElem]
  · simpa using inv.size
  · exact inv.below.setCell (by simp) _

set_option maxRecDepth 100000 in
set_option maxHeartbeats 400000 in
theorem wordBytes_any (s : Sha.St) (hs : s.ok) (w : World) :
    Calls Tryz.prog 118 #[.agg (wv s.l).toArray] w fun e w' => e = .returned (sv s.bytes) ∧ Below w.heap.size w w' := by
  go_enter Tryz.func118, Tryz.ntmps118
  go_wp2
  go_loopw [5] (fun i w' => ∃ k : Nat, k ≤ 32 ∧ i = .int .i64 k ∧ WbInv s w k w') (fun i _ => 32 - (intOf i).toNat)
  case atStart => exact ⟨0, by omega, rfl, wbInv_start s w⟩
  case round =>
    obtain ⟨k, hk, rfl, inv⟩ := hrel
    by_cases hlt : k < 32
    · have b1 : (k : Int) < 32 := by omega
      have b2 : (k : Int) / 4 < 8 := by omega
      have b3 : (0 : Int) ≤ (k : Int) / 4 := by omega
      have t1 : ((k : Int) / 4).toNat = k / 4 := by omega
      obtain ⟨x, ex, lx, cx⟩ : ∃ y : Nat, Hid (y = s.l.getD (k / 4) 0) ∧ y < 4294967296 ∧ wr.cell? ⟨w.heap.size, k / 4, none⟩ = some (.int .u32 (y : Int)) := ⟨_, rfl, Sha.l_lt hs _, wv_cell inv.b0 (k / 4) (by simp [Sha.St.l]; omega)⟩
      have c4 := bv_cell inv.b1 k (by simp [Sha.bytes_length]; omega)
      obtain ⟨y, _, _, c4⟩ := c4
      have f4 : wr.frozen? ⟨w.heap.size + 1, k, none⟩ = false := frozen_of_row _ _ _ _ _ inv.b1
      go_wp2
      refine ⟨⟨k + 1, by omega, by go_num, ?_⟩, by simp [intOf]; omega⟩
      have g := WbInv.set inv hlt
      rw [Sha.bytes_at s k hlt, ← Sha.byte_walk, ← ex.out, IntKind.wrap_u8'] at g
      exact g
    · obtain rfl : k = 32 := by omega
      have b1 : wr.heap[w.heap.size + 1]? = some (.cells (bv s.bytes).toArray 157 (0, 0)) := by
        have := inv.b1
        rwa [List.take_of_length_le (by rw [Sha.bytes_length]; omega), Nat.sub_self, List.replicate_zero, List.append_nil] at this
      have hcv := run_conv_bytes (P := Tryz.prog) wr 87 9 5 (w.heap.size + 1) 0 32 32 s.bytes (Sha.bytes_length s) Tryz.underlying87 Tryz.underlying5 Tryz.underlying9 (rangeAt_of_list b1 (fun j v hv => by rw [Nat.zero_add]; exact hv))
      go_wp2
      go_ret
      exact ⟨rfl, inv.below⟩
end Go.Proofs.YtmpaliocfikifaaGreatDoor

namespace Go.Proofs.YtmpaliocfikifaaGreatDoor
open Go.RowKit

theorem zero72 : ∀ w, (zeroValue 168).run Tryz.prog w = .ok (.agg (bv (List.replicate 72 0)).toArray) w :=
  (zero_of_info (P := Tryz.prog) (t := 168) (v := .agg (bv (List.replicate 72 0)).toArray) (n := 72) (by kernel_rfl)).1
theorem bv_setAt (a : List UInt8) (x v : UInt8) (b : List UInt8) : (bv (a ++ x :: b)).toArray.setIfInBounds a.length (.int .u8 (v.toNat : Int)) = (bv (a ++ v :: b)).toArray := by
  simp [bv]
theorem fillTo_set (n z k : Nat) (hk : k < 8) : (bv (Sha.fillTo n z k)).toArray.setIfInBounds (z + 8 - k) (.int .u8 ((UInt8.ofNat (8 * n / 256 ^ k)).toNat : Int)) = (bv (Sha.fillTo n z (k + 1))).toArray := by
  have e : Sha.fillTo n z k = (128 :: List.replicate (z + 8 - (k + 1)) 0) ++ 0 :: (Sha.be (8 * n) k ++ List.replicate (63 - z) 0) := by
    have : List.replicate (z + 8 - k) (0 : UInt8) = List.replicate (z + 8 - (k + 1)) 0 ++ [0] := by
      rw [show z + 8 - k = z + 8 - (k + 1) + 1 from by omega, List.replicate_succ']
    rw [Sha.fillTo, this]; simp
  have hl : ((128 : UInt8) :: List.replicate (z + 8 - (k + 1)) 0).length = z + 8 - k := by simp; omega
  have g := bv_setAt (128 :: List.replicate (z + 8 - (k + 1)) 0) 0 (UInt8.ofNat (8 * n / 256 ^ k)) (Sha.be (8 * n) k ++ List.replicate (63 - z) 0)
  rw [hl] at g
  rw [e, g]
  rfl

structure FillInv (n z : Nat) (w : World) (k : Nat) (w' : World) : Prop where
  b0 : w'.heap[w.heap.size]? = some (.cells (bv (Sha.fillTo n z k)).toArray 168 (0, 0))
  below : Below w.heap.size w w'

set_option maxRecDepth 100000 in
set_option maxHeartbeats 400000 in
theorem filling_any (n : Nat) (hn : n < 2305843009213693952) (w : World) :
    Calls Tryz.prog 117 #[.int .i64 (n : Int)] w fun e w' => e = .returned (sv (Sha.filling n)) ∧ Below w.heap.size w w' := by
  have hz := zero72
  obtain ⟨z, hzz⟩ : ∃ z, z = (119 - n % 64) % 64 := ⟨_, rfl⟩
  have z64 : z < 64 := by omega
  have zi : (119 - (n : Int) % 64) % 64 = (z : Int) := by omega
  have Hz : Hid _ := hzz
  clear hzz
  have hn' : (n : Int) ≤ 2305843009213693951 := by omega
  go_enter Tryz.func117, Tryz.ntmps117
  go_wp2
  go_loopw [16] (fun i w' => ∃ k : Nat, k ≤ 8 ∧ i = .int .i64 k ∧ FillInv n z w k w') (fun i _ => 8 - (intOf i).toNat)
  case atStart =>
    refine ⟨0, by omega, rfl, ?_, (Below.refl _ _).alloc (Nat.le_refl _) _⟩
    rw [Sha.fillTo_start n z z64]
    exact heap_alloc_new w _
  case round =>
    obtain ⟨k, hk, rfl, inv⟩ := hrel
    by_cases hlt : k < 8
    · have b1 : (k : Int) < 8 := by omega
      have b2 : (0 : Int) ≤ 9 + (z : Int) - 1 - (k : Int) := by omega
      have b3 : 9 + (z : Int) - 1 - (k : Int) < 72 := by omega
      have t1 : (9 + (z : Int) - 1 - (k : Int)).toNat = z + 8 - k := by omega
      obtain ⟨y, _, _, c4⟩ := bv_cell inv.b0 (z + 8 - k) (by rw [Sha.fillTo_length _ _ _ z64 (by omega)]; omega)
      have f4 : wr.frozen? ⟨w.heap.size, z + 8 - k, none⟩ = false := frozen_of_row _ _ _ _ _ inv.b0
      go_wp2
      refine ⟨⟨k + 1, by omega, by go_num, ?_, inv.below.setCell (Nat.le_refl _) _⟩, by simp [intOf]; omega⟩
      rw [Sha.fill_walk, heap_setCell_same _ _ _ _ _ _ inv.b0, fillTo_set n z k hlt]
    · obtain rfl : k = 8 := by omega
      have e8 := Sha.fillTo_end n
      rw [← Hz.out] at e8
      have hcv := run_conv_bytes (P := Tryz.prog) wr 87 9 5 w.heap.size 0 (9 + z) 72 (Sha.filling n) (by rw [Sha.filling_length, ← Hz.out]) Tryz.underlying87 Tryz.underlying5 Tryz.underlying9 (rangeAt_of_list inv.b0 (fun j v hv => by
        rw [← e8] at hv
        simp only [bv, List.map_take] at hv
        rw [Nat.zero_add]
        rw [List.getElem?_take] at hv
        split at hv
        · exact hv
        · cases hv))
      clear e8
      have b1 : (0 : Int) ≤ 9 + (z : Int) := by omega
      have b2 : 9 + (z : Int) ≤ 72 := by omega
      have t1 : (9 + (z : Int)).toNat = 9 + z := by omega
      go_wp2
      go_ret
      exact ⟨rfl, inv.below⟩
end Go.Proofs.YtmpaliocfikifaaGreatDoor
