import Derived.Test.YtkamjpjmdibfgaaPkKP13
/- Layer 15, CacheBounds: mathematics and memory -/
namespace Go.Proofs.Ytkamjpjmdibfgaa
open Go.RowKit Go.Maps
namespace Kc
theorem nd_inj {K : List (List UInt8)} (h : K.Nodup) {i j : Nat} (hi : i < K.length) (hj : j < K.length) (e : K[i] = K[j]) : i = j := by
  have hp := List.pairwise_iff_getElem.1 h
  rcases Nat.lt_trichotomy i j with c | c | c
  · exact absurd e (hp i j hi hj c)
  · exact c
  · exact absurd e.symm (hp j i hj hi c)
structure Bm (L : List En) (K V : List (List UInt8)) (P : List Nat) : Prop where
  kn : K.Nodup
  lv : V.length = K.length
  lp : P.length = K.length
  cov : ∀ e ∈ L, e.k ∈ K
  so : ∀ (j : Nat) (k : List UInt8), K[j]? = some k → ∀ e, fnd k L = some e → V[j]? = some e.v ∧ P[j]? = some e.p
  no : ∀ (j : Nat) (k : List UInt8), K[j]? = some k → fnd k L = none → P[j]? = some 0
theorem Bm.nil : Bm [] [] [] [] := ⟨List.nodup_nil, rfl, rfl, fun _ h => (nomatch h), fun _ _ _ _ h => (nomatch h), fun _ _ h => (by simp at h)⟩
theorem Bm.same {L M : List En} {K V : List (List UInt8)} {P : List Nat} (h : Bm L K V P) (hf : ∀ k, fnd k M = fnd k L) (hu : Uq M) : Bm M K V P := by
  refine ⟨h.kn, h.lv, h.lp, fun e he => ?_, fun j k hk e he => h.so j k hk e (by rw [← hf]; exact he), fun j k hk hn => h.no j k hk (by rw [← hf]; exact hn)⟩
  have h1 := fnd_of_mem hu he
  rw [hf] at h1
  have := fnd_mem h1
  exact this.2 ▸ h.cov e this.1
theorem fnd_use {L : List En} (hu : Uq L) {k : List UInt8} {e : En} (h : fnd k L = some e) (k' : List UInt8) : fnd k' (e :: wo k L) = fnd k' L := by
  obtain ⟨X, Y, rfl, _, hw, _, _⟩ := fnd_split h
  rw [hw]
  exact fnd_front hu k'
theorem Bm.snoc {L : List En} {K V : List (List UInt8)} {P : List Nat} (h : Bm L K V P) {k : List UInt8} (hk : k ∉ K) : Bm L (K ++ [k]) (V ++ [[]]) (P ++ [0]) := by
  have hn : fnd k L = none := fnd_of_not fun e he c => hk (c ▸ h.cov e he)
  refine ⟨?_, by simp [h.lv], by simp [h.lp], fun e he => List.mem_append_left _ (h.cov e he), fun j q hq e he => ?_, fun j q hq hf => ?_⟩
  · rw [List.nodup_append]
    refine ⟨h.kn, by simp, fun x hx y hy => ?_⟩
    rw [List.mem_singleton.1 hy]
    exact fun c => hk (c ▸ hx)
  · by_cases hj : j < K.length
    · rw [List.getElem?_append_left hj] at hq
      rw [List.getElem?_append_left (by rw [h.lv]; exact hj), List.getElem?_append_left (by rw [h.lp]; exact hj)]
      exact h.so j q hq e he
    · rw [List.getElem?_append_right (by omega)] at hq
      have : q = k := by
        have := List.mem_of_getElem? hq
        simpa using this
      rw [this, hn] at he
      cases he
  · by_cases hj : j < K.length
    · rw [List.getElem?_append_left hj] at hq
      rw [List.getElem?_append_left (by rw [h.lp]; exact hj)]
      exact h.no j q hq hf
    · rw [List.getElem?_append_right (by omega)] at hq
      rw [List.getElem?_append_right (by rw [h.lp]; omega), h.lp]
      have hj0 : j - K.length = 0 := by
        have := (List.getElem?_eq_some_iff.1 hq).1
        simp at this
        omega
      rw [hj0]
      rfl
theorem Bm.pinned {L : List En} {K V : List (List UInt8)} {P : List Nat} (h : Bm L K V P) {i : Nat} {k : List UInt8} (hk : K[i]? = some k) : P[i]? = some (pin k L) := by
  unfold pin
  cases c : fnd k L with
  | none => exact h.no i k hk c
  | some e => exact (h.so i k hk e c).2
theorem Bm.put {L : List En} (hu : Uq L) {K V : List (List UInt8)} {P : List Nat} (h : Bm L K V P) {i : Nat} {k : List UInt8} (hk : K[i]? = some k) (B : Nat) (v : List UInt8) (b : Nat) : Bm (putL B k v L b) K (V.set i v) P := by
  have hne : ∀ j k', K[j]? = some k' → j ≠ i → k' ≠ k := fun j k' hj hji c => by
    subst c
    obtain ⟨l1, e1⟩ := List.getElem?_eq_some_iff.1 hj
    obtain ⟨l2, e2⟩ := List.getElem?_eq_some_iff.1 hk
    exact hji (nd_inj h.kn l1 l2 (e1.trans e2.symm))
  have hiV : i < V.length := by rw [h.lv]; exact (List.getElem?_eq_some_iff.1 hk).1
  have hsub : (room B (k.length + v.length) (wo k L)).Sublist L := (room_sub _ _ _).trans (wo_sub _ _)
  unfold putL
  refine ⟨h.kn, by simp [h.lv], h.lp, fun e he => ?_, fun j k' hj e he => ?_, fun j k' hj hn => ?_⟩
  · rcases List.mem_cons.1 he with rfl | he
    · exact List.mem_of_getElem? hk
    · exact h.cov e (hsub.mem he)
  · by_cases c : j = i
    · subst c
      obtain rfl : k = k' := Option.some.inj (hk.symm.trans hj)
      rw [show fnd k (⟨b, k, v, pin k L⟩ :: room B (k.length + v.length) (wo k L)) = some ⟨b, k, v, pin k L⟩ from fnd_cons_eq rfl] at he
      obtain rfl := Option.some.inj he
      exact ⟨by rw [List.getElem?_set_self hiV], h.pinned hk⟩
    · rw [fnd_cons_ne (Ne.symm (hne j k' hj c))] at he
      rw [List.getElem?_set_ne (Ne.symm c)]
      exact h.so j k' hj e (fnd_sub hu hsub he)
  · by_cases c : j = i
    · subst c
      obtain rfl : k = k' := Option.some.inj (hk.symm.trans hj)
      rw [show fnd k (⟨b, k, v, pin k L⟩ :: room B (k.length + v.length) (wo k L)) = some ⟨b, k, v, pin k L⟩ from fnd_cons_eq rfl] at hn
      cases hn
    · have hkk := hne j k' hj c
      rw [fnd_cons_ne (Ne.symm hkk)] at hn
      cases d : fnd k' L with
      | none => exact h.no j k' hj d
      | some e =>
        rw [(h.so j k' hj e d).2]
        congr 1
        by_cases hp : e.p = 0
        · exact hp
        · exfalso
          obtain ⟨h1, h2⟩ := fnd_mem d
          have hw : e ∈ wo k L := by
            cases c2 : fnd k L with
            | none => rw [(fnd_none c2).2]; exact h1
            | some x =>
              obtain ⟨X, Y, hL, hxk, hw, _, _⟩ := fnd_split c2
              rw [hw]
              rw [hL] at h1
              simp only [List.mem_append, List.mem_cons] at h1 ⊢
              rcases h1 with h1 | rfl | h1
              · exact .inl h1
              · exact absurd (h2.symm.trans hxk) hkk
              · exact .inr h1
          have h3 := mem_room (B := B) (n := k.length + v.length) hw hp
          exact (fnd_none hn).1 e h3 h2
theorem fnd_rp {L : List En} {k : List UInt8} (q : Nat) (k' : List UInt8) : fnd k' (rp k q L) = if k' = k then (fnd k L).map (fun e => re e q) else fnd k' L := by
  induction L with
  | nil => simp [rp, fnd]
  | cons x L ih =>
    unfold rp
    by_cases c : x.k = k
    · rw [if_pos c]
      by_cases d : k' = k
      · rw [if_pos d, d, fnd_cons_eq c, fnd_cons_eq (show (En.k { x with p := q }) = k from c)]; rfl
      · rw [if_neg d, fnd_cons_ne (show (En.k { x with p := q }) ≠ k' from fun h => d (h.symm.trans c)), fnd_cons_ne (fun h => d (h.symm.trans c))]
    · rw [if_neg c]
      by_cases d : x.k = k'
      · rw [fnd_cons_eq d, fnd_cons_eq d, if_neg (fun h => c (d.trans h))]
      · rw [fnd_cons_ne d, fnd_cons_ne d, ih, fnd_cons_ne c]
theorem Bm.rp {L : List En} (hu : Uq L) {K V : List (List UInt8)} {P : List Nat} (h : Bm L K V P) {i : Nat} {k : List UInt8} (hk : K[i]? = some k) {e : En} (hf : fnd k L = some e) (q : Nat) : Bm (rp k q L) K V (P.set i q) := by
  have hne : ∀ j k', K[j]? = some k' → j ≠ i → k' ≠ k := fun j k' hj hji c => by
    subst c
    obtain ⟨l1, e1⟩ := List.getElem?_eq_some_iff.1 hj
    obtain ⟨l2, e2⟩ := List.getElem?_eq_some_iff.1 hk
    exact hji (nd_inj h.kn l1 l2 (e1.trans e2.symm))
  have hiP : i < P.length := by rw [h.lp]; exact (List.getElem?_eq_some_iff.1 hk).1
  refine ⟨h.kn, h.lv, by simp [h.lp], fun x hx => ?_, fun j k' hj x hx => ?_, fun j k' hj hn => ?_⟩
  · have h1 := fnd_of_mem (hu.rp k q) hx
    rw [fnd_rp] at h1
    by_cases c : x.k = k
    · rw [c]; exact List.mem_of_getElem? hk
    · rw [if_neg c] at h1
      exact (fnd_mem h1).2 ▸ h.cov x (fnd_mem h1).1
  · rw [fnd_rp] at hx
    by_cases c : j = i
    · subst c
      obtain rfl : k = k' := Option.some.inj (hk.symm.trans hj)
      rw [if_pos rfl, hf] at hx
      obtain rfl := Option.some.inj hx
      exact ⟨(h.so j k hk e hf).1, by rw [List.getElem?_set_self hiP]; rfl⟩
    · rw [if_neg (hne j k' hj c)] at hx
      rw [List.getElem?_set_ne (Ne.symm c)]
      exact h.so j k' hj x hx
  · rw [fnd_rp] at hn
    by_cases c : j = i
    · subst c
      obtain rfl : k = k' := Option.some.inj (hk.symm.trans hj)
      rw [if_pos rfl, hf] at hn
      cases hn
    · rw [if_neg (hne j k' hj c)] at hn
      rw [List.getElem?_set_ne (Ne.symm c)]
      exact h.no j k' hj hn
def pz (P : List Nat) : List Value := P.map fun p : Nat => .int .i64 (p : Int)
theorem pz_len (P : List Nat) : (pz P).length = P.length := by simp [pz]
/-- the cache and the three lists -/
structure Bd (w0 w : World) (a : Nat) (g : Option Nat) (B c : Nat) (L : List En) (f m o : Nat) (vk vv vp : Value) (K V : List (List UInt8)) (P : List Nat) : Prop where
  cs : Cs w0 w a g B c L f m o
  ok : Own w w0.heap.size vk (svs K)
  ov : Own w w0.heap.size vv (svs V)
  op : Own w w0.heap.size vp (pz P)
  dk : ∀ k, vk.ownBlock = some k → ¬ Fg a g L k ∧ vv.ownBlock ≠ some k ∧ vp.ownBlock ≠ some k
  dv : ∀ k, vv.ownBlock = some k → ¬ Fg a g L k ∧ vp.ownBlock ≠ some k
  dp : ∀ k, vp.ownBlock = some k → ¬ Fg a g L k
  bm : Bm L K V P
theorem own_lt {w : World} {base : Nat} {v : Value} {cs : List Value} (h : Own w base v cs) : ∀ k, v.ownBlock = some k → k < w.heap.size := by
  rcases h with ⟨rfl, _⟩ | ⟨g, cap, rfl, _, _, _, _, _, h⟩
  · intro k hk; cases hk
  · intro k hk
    obtain rfl : g = k := Option.some.inj hk
    exact h
theorem own_keep {S : Nat → Prop} {w w' : World} {base : Nat} {v : Value} {cs : List Value} (h : Own w base v cs) (hk : Keep S w w') (hS : ∀ k, v.ownBlock = some k → ¬ S k) : Own w' base v cs :=
  h.kept hk.size fun k hv => hk.block k (own_lt h k hv) (hS k hv)
theorem Bd.opd {w0 w w' : World} {a : Nat} {g g' : Option Nat} {B c : Nat} {L L' : List En} {f m o f' m' o' : Nat} {vk vv vp : Value} {K V : List (List UInt8)} {P : List Nat} (h : Bd w0 w a g B c L f m o vk vv vp K V P) (k : Op w a g B c L w' g' L' f' m' o') (hb : Bm L' K V P) : Bd w0 w' a g' B (c + 1) L' f' m' o' vk vv vp K V P := by
  have hn : ∀ x, x < w.heap.size → ¬ Fg a g L x → ¬ Fg a g' L' x := fun x hx h1 h2 => by
    rcases k.fg x h2 with h3 | h3
    · exact h1 h3
    · omega
  exact ⟨h.cs.op k, own_keep h.ok k.kp fun x hx => (h.dk x hx).1, own_keep h.ov k.kp fun x hx => (h.dv x hx).1, own_keep h.op k.kp fun x hx => h.dp x hx,
    fun x hx => ⟨hn x (own_lt h.ok x hx) (h.dk x hx).1, (h.dk x hx).2⟩, fun x hx => ⟨hn x (own_lt h.ov x hx) (h.dv x hx).1, (h.dv x hx).2⟩, fun x hx => hn x (own_lt h.op x hx) (h.dp x hx), hb⟩
theorem Bd.below {w0 w w' : World} {a : Nat} {g : Option Nat} {B c : Nat} {L : List En} {f m o : Nat} {vk vv vp : Value} {K V : List (List UInt8)} {P : List Nat} (h : Bd w0 w a g B c L f m o vk vv vp K V P) (hb : Below w.heap.size w w') : Bd w0 w' a g B c L f m o vk vv vp K V P :=
  ⟨h.cs.below hb, h.ok.below hb (Nat.le_refl _), h.ov.below hb (Nat.le_refl _), h.op.below hb (Nat.le_refl _), h.dk, h.dv, h.dp, h.bm⟩
theorem Bd.drew {w0 w : World} {a : Nat} {g : Option Nat} {B c : Nat} {L : List En} {f m o : Nat} {vk vv vp : Value} {K V : List (List UInt8)} {P : List Nat} (h : Bd w0 w a g B c L f m o vk vv vp K V P) : Bd w0 w.drew a g B c L f m o vk vv vp K V P :=
  ⟨h.cs.drew, h.ok, h.ov, h.op, h.dk, h.dv, h.dp, h.bm⟩
theorem Bd.mono {w0 w : World} {a : Nat} {g : Option Nat} {B c c' : Nat} {L : List En} {f m o : Nat} {vk vv vp : Value} {K V : List (List UInt8)} {P : List Nat} (h : Bd w0 w a g B c L f m o vk vv vp K V P) (hc : c ≤ c') : Bd w0 w a g B c' L f m o vk vv vp K V P :=
  ⟨h.cs.mono hc, h.ok, h.ov, h.op, h.dk, h.dv, h.dp, h.bm⟩
/-- only blocks above w0 are written, and none of the cache's -/
theorem Cs.kept {S : Nat → Prop} {w0 w w' : World} {a : Nat} {g : Option Nat} {B c : Nat} {L : List En} {f m o : Nat} (h : Cs w0 w a g B c L f m o) (hk : Keep S w w') (hS : ∀ k, Fg a g L k → ¬ S k) (hg : ∀ k, S k → w0.heap.size ≤ k) : Cs w0 w' a g B c L f m o := by
  have hs := h.bl.size
  exact ⟨h.ch.keep hk hS, h.ge, ⟨hk.os.trans h.bl.os, hk.tape.trans h.bl.tape, hk.output.trans h.bl.output, Nat.le_trans hs hk.size, fun x hx => (hk.block x (by omega) fun hf => by have := hg x hf; omega).trans (h.bl.block x hx)⟩⟩
theorem Bd.grew {w0 w w1 w2 w3 : World} {a : Nat} {g : Option Nat} {B c : Nat} {L : List En} {f m o : Nat} {vk vv vp vk' vv' vp' : Value} {K V : List (List UInt8)} {P : List Nat} (h : Bd w0 w a g B c L f m o vk vv vp K V P) {k : List UInt8} (hk : k ∉ K)
    (o1 : Own w1 w0.heap.size vk' (svs K ++ [sv k])) (g1 : Grow w w1 vk vk') (o2 : Own w2 w0.heap.size vv' (svs V ++ [sv []])) (g2 : Grow w1 w2 vv vv') (o3 : Own w3 w0.heap.size vp' (pz P ++ [.int .i64 0])) (g3 : Grow w2 w3 vp vp') : Bd w0 w3 a g B c L f m o vk' vv' vp' (K ++ [k]) (V ++ [[]]) (P ++ [0]) := by
  have s1 := g1.size
  have s2 := g2.size
  have s3 := g3.size
  have lk := own_lt h.ok
  have lv := own_lt h.ov
  have lp := own_lt h.op
  have lf := fg_lt h.cs.ch
  have alt : ∀ {u u' : World} {x x' : Value}, Grow u u' x x' → ∀ i, x'.ownBlock = some i → x.ownBlock = some i ∨ u.heap.size ≤ i := fun gg i hi => by
    rcases gg.alt with e | ⟨e, _⟩
    · exact .inl (e ▸ hi)
    · exact .inr (e i hi)
  have c1 := h.cs.kept g1.keepG (fun x hx hy => (h.dk x hy).1 hx) (fun x hx => h.ok.ge x hx)
  have c2 := c1.kept g2.keepG (fun x hx hy => (h.dv x hy).1 hx) (fun x hx => h.ov.ge x hx)
  have c3 := c2.kept g3.keepG (fun x hx hy => h.dp x hy hx) (fun x hx => h.op.ge x hx)
  have a1 := alt g1
  have a2 := alt g2
  have a3 := alt g3
  refine ⟨c3, ?_, ?_, ?_, ?_, ?_, ?_, h.bm.snoc hk⟩
  · have : svs (K ++ [k]) = svs K ++ [sv k] := by unfold svs; rw [List.map_append]; rfl
    rw [this]
    refine own_keep (own_keep o1 g2.keepG fun i hi hj => ?_) g3.keepG fun i hi hj => ?_
    · rcases a1 i hi with e | e
      · exact (h.dk i e).2.1 hj
      · have := lv i hj; omega
    · rcases a1 i hi with e | e
      · exact (h.dk i e).2.2 hj
      · have := lp i hj; omega
  · have : svs (V ++ [[]]) = svs V ++ [sv []] := by unfold svs; rw [List.map_append]; rfl
    rw [this]
    refine own_keep o2 g3.keepG fun i hi hj => ?_
    rcases a2 i hi with e | e
    · exact (h.dv i e).2 hj
    · have := lp i hj; omega
  · have : pz (P ++ [0]) = pz P ++ [.int .i64 0] := by unfold pz; rw [List.map_append]; rfl
    rw [this]
    exact o3
  · intro i hi
    rcases a1 i hi with e | e
    · refine ⟨(h.dk i e).1, fun hj => ?_, fun hj => ?_⟩
      · rcases a2 i hj with e2 | e2
        · exact (h.dk i e).2.1 e2
        · have := lk i e; omega
      · rcases a3 i hj with e2 | e2
        · exact (h.dk i e).2.2 e2
        · have := lk i e; omega
    · have hlt := own_lt o1 i hi
      refine ⟨fun hf => by have := lf i hf; omega, fun hj => ?_, fun hj => ?_⟩
      · rcases a2 i hj with e2 | e2
        · have := lv i e2; omega
        · omega
      · rcases a3 i hj with e2 | e2
        · have := lp i e2; omega
        · omega
  · intro i hi
    rcases a2 i hi with e | e
    · refine ⟨(h.dv i e).1, fun hj => ?_⟩
      rcases a3 i hj with e2 | e2
      · exact (h.dv i e).2 e2
      · have := lv i e; omega
    · have hlt := own_lt o2 i hi
      refine ⟨fun hf => by have := lf i hf; omega, fun hj => ?_⟩
      rcases a3 i hj with e2 | e2
      · have := lp i e2; omega
      · omega
  · intro i hi hf
    rcases a3 i hi with e | e
    · exact h.dp i e hf
    · have := lf i hf; omega
theorem own_set {w : World} {base g cap : Nat} {cs : List Value} (h : Own w base (.slice (some ⟨g, 0, none⟩) cs.length cap) cs) {j : Nat} (hj : j < cs.length) (x : Value) : Own (w.setCell ⟨g, j, none⟩ x) base (.slice (some ⟨g, 0, none⟩) (cs.set j x).length cap) (cs.set j x) := by
  rcases h with ⟨e, _⟩ | ⟨g', cap', e, hb, h1, h2, h3, h4, h5⟩
  · cases e
  · injection e with e1 _ e3
    injection e1 with e1
    injection e1 with e1
    subst e1 e3
    refine .inr ⟨g, cap, rfl, hb, by simpa using h1, h2, fun i v hv => ?_, fun i hi => ?_, by simpa [World.setCell] using h5⟩
    · rw [Nat.zero_add]
      by_cases c : i = j
      · subst c
        rw [List.getElem?_set_self hj] at hv
        obtain rfl := Option.some.inj hv
        have hc := h3 i _ (List.getElem?_eq_getElem hj)
        rw [Nat.zero_add] at hc
        exact World.cell?_setCell_same _ _ _ (by rw [hc])
      · rw [List.getElem?_set_ne (Ne.symm c)] at hv
        rw [World.cell?_setCell_other _ _ _ _ (by simp; try exact fun e => c e.symm)]
        have := h3 i v hv
        rwa [Nat.zero_add] at this
    · have := h4 i hi
      refine ⟨?_, by rw [World.frozen?_setCell]; exact this.2⟩
      by_cases c : 0 + i = j
      · rw [c]
        rw [c] at this
        obtain ⟨y, hy⟩ := Option.isSome_iff_exists.1 this.1
        rw [World.cell?_setCell_same _ _ _ hy]; rfl
      · rw [World.cell?_setCell_other _ _ _ _ (by simp; try exact fun e => c (by omega))]; exact this.1
theorem own_shape {w : World} {base : Nat} {v : Value} {cs : List Value} (h : Own w base v cs) {j : Nat} (hj : j < cs.length) : ∃ g cap, v = .slice (some ⟨g, 0, none⟩) cs.length cap ∧ w.cell? ⟨g, j, none⟩ = some cs[j] ∧ w.frozen? ⟨g, j, none⟩ = false := by
  rcases h with ⟨_, rfl⟩ | ⟨g, cap, e, _, h1, _, h3, h4, _⟩
  · simp at hj
  · refine ⟨g, cap, e, ?_, ?_⟩
    · have := h3 j _ (List.getElem?_eq_getElem hj)
      rwa [Nat.zero_add] at this
    · have := (h4 j (by omega)).2
      rwa [Nat.zero_add] at this
theorem own_at {w : World} {base g n cap : Nat} {cs : List Value} (h : Own w base (.slice (some ⟨g, 0, none⟩) n cap) cs) {j : Nat} (hj : j < cs.length) : w.cell? ⟨g, j, none⟩ = some cs[j] ∧ w.frozen? ⟨g, j, none⟩ = false := by
  obtain ⟨g', cap', e, h1, h2⟩ := own_shape h hj
  injection e with e _ _
  injection e with e
  injection e with e
  subst e
  exact ⟨h1, h2⟩
theorem keep_one {S : Nat → Prop} (w : World) {b : Nat} (hb : S b) (o : Nat) (v : Value) : Keep S w (w.setCell ⟨b, o, none⟩ v) := keep_set (keep_refl _ _) hb _ _
theorem Bd.setV {w0 w : World} {a : Nat} {g : Option Nat} {B c : Nat} {L : List En} {f m o : Nat} {vk vp : Value} {gv cap : Nat} {K V : List (List UInt8)} {P : List Nat} {n : Nat} (h : Bd w0 w a g B c L f m o vk (.slice (some ⟨gv, 0, none⟩) n cap) vp K V P) {j : Nat} (hj : j < V.length) (x : List UInt8) (L' : List En) (hL : L' = L) (hb : Bm L' K (V.set j x) P) : Bd w0 (w.setCell ⟨gv, j, none⟩ (.string ⟨x.toArray⟩)) a g B c L f m o vk (.slice (some ⟨gv, 0, none⟩) n cap) vp K (V.set j x) P := by
  subst hL
  have hk : Keep (fun k => k = gv) w (w.setCell ⟨gv, j, none⟩ (.string ⟨x.toArray⟩)) := keep_one (S := fun k => k = gv) w rfl _ _
  have hov := h.ov
  obtain ⟨g0, cap0, e0, _, _⟩ := own_shape h.ov (j := j) (by rw [svs_length]; exact hj)
  injection e0 with e1 e2 e3
  rw [e2] at hov ⊢
  have e4 : (svs V).length = (svs (V.set j x)).length := by simp [svs]
  refine ⟨h.cs.kept hk (fun k hf e => (h.dv k (by rw [e]; rfl)).1 hf) (fun k e => h.ov.ge k (by rw [e]; rfl)), own_keep h.ok hk fun k hv e => (h.dk k hv).2.1 (by rw [e]; rfl), ?_, own_keep h.op hk fun k hv e => (h.dv k (by rw [e]; rfl)).2 hv, fun k hv => ⟨(h.dk k hv).1, (h.dk k hv).2⟩, h.dv, h.dp, hb⟩
  have := own_set hov (j := j) (by rw [svs_length]; exact hj) (.string ⟨x.toArray⟩)
  rw [show (svs V).set j (.string ⟨x.toArray⟩) = svs (V.set j x) by simp [svs, List.map_set]; rfl] at this
  rw [e4]
  exact this
theorem Bd.setP {w0 w : World} {a : Nat} {g : Option Nat} {B c : Nat} {L : List En} {f m o : Nat} {vk vv : Value} {gv cap : Nat} {K V : List (List UInt8)} {P : List Nat} {n : Nat} (h : Bd w0 w a g B c L f m o vk vv (.slice (some ⟨gv, 0, none⟩) n cap) K V P) {j : Nat} (hj : j < P.length) (x : Nat) (hb : Bm L K V (P.set j x)) : Bd w0 (w.setCell ⟨gv, j, none⟩ (.int .i64 (x : Int))) a g B c L f m o vk vv (.slice (some ⟨gv, 0, none⟩) n cap) K V (P.set j x) := by
  have hk : Keep (fun k => k = gv) w (w.setCell ⟨gv, j, none⟩ (.int .i64 (x : Int))) := keep_one (S := fun k => k = gv) w rfl _ _
  have hop := h.op
  obtain ⟨g0, cap0, e0, _, _⟩ := own_shape h.op (j := j) (by rw [pz_len]; exact hj)
  injection e0 with e1 e2 e3
  rw [e2] at hop ⊢
  have e4 : (pz P).length = (pz (P.set j x)).length := by simp [pz]
  refine ⟨h.cs.kept hk (fun k hf e => h.dp k (by rw [e]; rfl) hf) (fun k e => h.op.ge k (by rw [e]; rfl)), own_keep h.ok hk fun k hv e => (h.dk k hv).2.2 (by rw [e]; rfl), own_keep h.ov hk fun k hv e => (h.dv k hv).2 (by rw [e]; rfl), ?_, h.dk, h.dv, h.dp, hb⟩
  have := own_set hop (j := j) (by rw [pz_len]; exact hj) (.int .i64 (x : Int))
  rw [show (pz P).set j (.int .i64 (x : Int)) = pz (P.set j x) by simp [pz, List.map_set]] at this
  rw [e4]
  exact this
end Kc
end Go.Proofs.Ytkamjpjmdibfgaa
