import Derived.Test.YtmhgdcfmfcjagaaGreatDoorPkMT1
namespace Go.Proofs.YtmhgdcfmfcjagaaGreatDoor
open Go.RowKit Cod
namespace Msg
structure Em where
  x : Ask
  l : Value
  e : Value
  a : Value
def emc (m : Em) : List Value := [.int .i64 m.x.kind, .int .i64 m.x.a, .int .i64 m.x.b, .int .i64 m.x.size, m.l, m.e, m.a]
def emcs (E : List Em) : List Value := (E.map emc).flatten
theorem emcs_at : ∀ (E : List Em) (j : Nat) (m : Em) (i : Nat), E[j]? = some m → i < 7 → (emcs E)[j * 7 + i]? = (emc m)[i]?
  | [], j, m, i, h, _ => by simp at h
  | n :: E, 0, m, i, h, hi => by
    obtain rfl := Option.some.inj (by simpa using h)
    rw [emcs, List.map_cons, List.flatten_cons, List.getElem?_append_left (by simp [emc]; omega)]
    simp
  | n :: E, j + 1, m, i, h, hi => by
    rw [emcs, List.map_cons, List.flatten_cons, List.getElem?_append_right (by simp [emc]; omega), ← emcs]
    rw [show (j + 1) * 7 + i - (emc n).length = j * 7 + i from by simp [emc]; omega]
    exact emcs_at E j m i (by simpa using h) hi
theorem emcs_snoc (E : List Em) (m : Em) : emcs (E ++ [m]) = emcs E ++ emc m := by simp [emcs]
def bks (vs : List Value) : List Nat := vs.filterMap Value.ownBlock
theorem mem_bks {vs : List Value} {k : Nat} : k ∈ bks vs ↔ ∃ v, v ∈ vs ∧ v.ownBlock = some k := by simp [bks, List.mem_filterMap]
theorem bks_app (a b : List Value) : bks (a ++ b) = bks a ++ bks b := by simp [bks, List.filterMap_append]
theorem bks_cons (v : Value) (vs : List Value) : bks (v :: vs) = bks [v] ++ bks vs := bks_app [v] vs
theorem bks_none {v : Value} (h : v.ownBlock = none) : bks [v] = [] := by simp [bks, h]
theorem bks_some {v : Value} {k : Nat} (h : v.ownBlock = some k) : bks [v] = [k] := by simp [bks, h]
theorem nd_cons {v : Value} {vs : List Value} : (bks (v :: vs)).Nodup ↔ (bks vs).Nodup ∧ ∀ k, v.ownBlock = some k → k ∉ bks vs := by
  rw [bks_cons]
  cases h : v.ownBlock with
  | none => rw [bks_none h, List.nil_append]; exact ⟨fun h => ⟨h, fun k hk => by cases hk⟩, fun h => h.1⟩
  | some k =>
    rw [bks_some h, List.singleton_append, List.nodup_cons]
    exact ⟨fun h => ⟨h.2, fun j hj => by cases hj; exact h.1⟩, fun h => ⟨h.2 k rfl, h.1⟩⟩
theorem nd_app {a b : List Value} (ha : (bks a).Nodup) (hb : (bks b).Nodup) (h : ∀ k, k ∈ bks a → k ∉ bks b) : (bks (a ++ b)).Nodup := by
  rw [bks_app, List.nodup_append]
  exact ⟨ha, hb, fun x hx y hy e => h x hx (e ▸ hy)⟩
theorem nd_apart {vs : List Value} (h : (bks vs).Nodup) {i j : Nat} {u v : Value} {k : Nat} (hi : vs[i]? = some u) (hj : vs[j]? = some v) (hu : u.ownBlock = some k) (hv : v.ownBlock = some k) : i = j := by
  induction vs generalizing i j with
  | nil => simp at hi
  | cons x xs ih =>
    obtain ⟨h1, h2⟩ := nd_cons.1 h
    cases i with
    | zero =>
      cases j with
      | zero => rfl
      | succ j =>
        obtain rfl := Option.some.inj (by simpa using hi)
        exact absurd (mem_bks.2 ⟨v, List.mem_of_getElem? (by simpa using hj), hv⟩) (h2 k hu)
    | succ i =>
      cases j with
      | zero =>
        obtain rfl := Option.some.inj (by simpa using hj)
        exact absurd (mem_bks.2 ⟨u, List.mem_of_getElem? (by simpa using hi), hu⟩) (h2 k hv)
      | succ j => rw [ih (i := i) (j := j) h1 (by simpa using hi) (by simpa using hj)]
theorem own_lt {w : World} {B : Nat} {v : Value} {cs : List Value} (h : Own w B v cs) : ∀ k, v.ownBlock = some k → k < w.heap.size := by
  rcases h with ⟨rfl, _⟩ | ⟨g, cap, rfl, h1, h2, h3, h4, h5, h6⟩
  · intro k hk; cases hk
  · intro k hk; cases hk; exact h6
def ems (E : List Em) : List Value := E.flatMap fun m => [m.l, m.e]
theorem mem_ems {E : List Em} {v : Value} : v ∈ ems E ↔ ∃ m, m ∈ E ∧ (v = m.l ∨ v = m.e) := by simp [ems]
theorem ems_snoc (E : List Em) (m : Em) : ems (E ++ [m]) = ems E ++ [m.l, m.e] := by simp [ems]
structure EmO (w : World) (B : Nat) (m : Em) : Prop where
  o1 : Own w B m.l (ivs m.x.list)
  o2 : Own w B m.e (svs m.x.ent)
  o3 : m.a = .slice none 0 0
structure AsO (w : World) (B : Nat) (ta : Value) (l : List Ask) (E : List Em) : Prop where
  own : OwnM 7 w ta E.length (emcs E)
  ge : ∀ k, ta.ownBlock = some k → B ≤ k
  el : ∀ m ∈ E, EmO w B m
  eq : E.map (·.x) = l
  z : l = [] → ta = .slice none 0 0
  nd : (bks (ta :: ems E)).Nodup
def RaO (w : World) (B : Nat) (p : Ask × List Ask) (tl te ta : Value) : Prop :=
  ∃ E, Own w B tl (ivs p.1.list) ∧ Own w B te (svs p.1.ent) ∧ AsO w B ta p.2 E ∧ (bks (tl :: te :: ta :: ems E)).Nodup
theorem EmO.keep {S : Nat → Prop} {w w' : World} {B : Nat} {m : Em} (h : EmO w B m) (hb : Keep S w w') (hS : ∀ k, B ≤ k → k < w.heap.size → ¬ S k) : EmO w' B m := ⟨own_keepK h.o1 hb hS, own_keepK h.o2 hb hS, h.o3⟩
theorem EmO.lower {w : World} {B B' : Nat} {m : Em} (h : EmO w B m) (hb : B' ≤ B) : EmO w B' m := ⟨h.o1.mono hb, h.o2.mono hb, h.o3⟩
theorem AsO.keep {S : Nat → Prop} {w w' : World} {B : Nat} {ta : Value} {l : List Ask} {E : List Em} (h : AsO w B ta l E) (hb : Keep S w w') (hS : ∀ k, B ≤ k → k < w.heap.size → ¬ S k) : AsO w' B ta l E :=
  ⟨h.own.keep hb (fun k hk => hS k (h.ge k hk) (h.own.lt k hk)), h.ge, fun m hm => (h.el m hm).keep hb hS, h.eq, h.z, h.nd⟩
theorem AsO.lower {w : World} {B B' : Nat} {ta : Value} {l : List Ask} {E : List Em} (h : AsO w B ta l E) (hb : B' ≤ B) : AsO w B' ta l E :=
  ⟨h.own, fun k hk => Nat.le_trans hb (h.ge k hk), fun m hm => (h.el m hm).lower hb, h.eq, h.z, h.nd⟩
theorem RaO.keep {S : Nat → Prop} {w w' : World} {B : Nat} {p : Ask × List Ask} {tl te ta : Value} (h : RaO w B p tl te ta) (hb : Keep S w w') (hS : ∀ k, B ≤ k → k < w.heap.size → ¬ S k) : RaO w' B p tl te ta := by
  obtain ⟨E, h1, h2, h3, h4⟩ := h
  exact ⟨E, own_keepK h1 hb hS, own_keepK h2 hb hS, h3.keep hb hS, h4⟩
theorem RaO.lower {w : World} {B B' : Nat} {p : Ask × List Ask} {tl te ta : Value} (h : RaO w B p tl te ta) (hb : B' ≤ B) : RaO w B' p tl te ta := by
  obtain ⟨E, h1, h2, h3, h4⟩ := h
  exact ⟨E, h1.mono hb, h2.mono hb, h3.lower hb, h4⟩
theorem RaO.nil (w : World) (B : Nat) (p : Ask × List Ask) (h1 : p.1.list = []) (h2 : p.1.ent = []) (h3 : p.2 = []) : RaO w B p (.slice none 0 0) (.slice none 0 0) (.slice none 0 0) := by
  refine ⟨[], ?_, ?_, ?_, ?_⟩
  · rw [h1]; exact Own.nil _ _
  · rw [h2]; exact Own.nil _ _
  · rw [h3]; exact ⟨OwnM.nil 7 w, fun k hk => (by cases hk), fun m hm => (by cases hm), rfl, fun _ => rfl, (List.nodup_nil : ([] : List Nat).Nodup)⟩
  · exact (List.nodup_nil : ([] : List Nat).Nodup)
theorem AsO.in {w : World} {B : Nat} {ta : Value} {l : List Ask} {E : List Em} (h : AsO w B ta l E) : ∀ k, k ∈ bks (ta :: ems E) → B ≤ k ∧ k < w.heap.size := fun k hk => by
  obtain ⟨v, hv, hb⟩ := mem_bks.1 hk
  rcases List.mem_cons.1 hv with rfl | hv
  · exact ⟨h.ge k hb, h.own.lt k hb⟩
  · obtain ⟨m, hm, rfl | rfl⟩ := mem_ems.1 hv
    · exact ⟨(h.el m hm).o1.ge k hb, own_lt (h.el m hm).o1 k hb⟩
    · exact ⟨(h.el m hm).o2.ge k hb, own_lt (h.el m hm).o2 k hb⟩
theorem RaO.setL {S : Nat → Prop} {w w2 : World} {B : Nat} {p : Ask × List Ask} {tl te ta v : Value} {l : List Int} (h : RaO w B p tl te ta) (hk : Keep S w w2) (hS : ∀ k, B ≤ k → k < w.heap.size → ¬ S k) (hB : B ≤ w.heap.size) (ho : Own w2 w.heap.size v (ivs l)) {p' : Ask × List Ask} (h1 : p'.1.list = l) (h2 : p'.1.ent = p.1.ent) (h3 : p'.2 = p.2) : RaO w2 B p' v te ta := by
  obtain ⟨E, e1, e2, e3, e4⟩ := h
  refine ⟨E, by rw [h1]; exact ho.mono hB, by rw [h2]; exact own_keepK e2 hk hS, by rw [h3]; exact e3.keep hk hS, ?_⟩
  refine nd_cons.2 ⟨(nd_cons.1 e4).1, fun k hk hm => ?_⟩
  have g1 := ho.ge k hk
  have g2 : k < w.heap.size := by
    rw [bks_cons, List.mem_append] at hm
    rcases hm with hm | hm
    · obtain ⟨u, hu, hb⟩ := mem_bks.1 hm
      rw [List.mem_singleton] at hu
      subst hu
      exact own_lt e2 k hb
    · exact (e3.in k hm).2
  omega
theorem RaO.setE {S : Nat → Prop} {w w2 : World} {B : Nat} {p : Ask × List Ask} {tl te ta v : Value} {l : List (List UInt8)} (h : RaO w B p tl te ta) (hk : Keep S w w2) (hS : ∀ k, B ≤ k → k < w.heap.size → ¬ S k) (hB : B ≤ w.heap.size) (ho : Own w2 w.heap.size v (svs l)) {p' : Ask × List Ask} (h1 : p'.1.ent = l) (h2 : p'.1.list = p.1.list) (h3 : p'.2 = p.2) : RaO w2 B p' tl v ta := by
  obtain ⟨E, e1, e2, e3, e4⟩ := h
  refine ⟨E, by rw [h2]; exact own_keepK e1 hk hS, by rw [h1]; exact ho.mono hB, by rw [h3]; exact e3.keep hk hS, ?_⟩
  obtain ⟨f1, f2⟩ := nd_cons.1 e4
  obtain ⟨f3, f4⟩ := nd_cons.1 f1
  refine nd_cons.2 ⟨nd_cons.2 ⟨f3, fun k hk hm => ?_⟩, fun k hk hm => ?_⟩
  · have g1 := ho.ge k hk
    have g2 := (e3.in k hm).2
    omega
  · rw [bks_cons, List.mem_append] at hm
    rcases hm with hm | hm
    · obtain ⟨u, hu, hb⟩ := mem_bks.1 hm
      rw [List.mem_singleton] at hu
      subst hu
      have g1 := ho.ge k hb
      have g2 := own_lt e1 k hk
      omega
    · exact f2 k hk (by rw [bks_cons, List.mem_append]; exact .inr hm)
theorem RaO.setA {S : Nat → Prop} {w w2 : World} {B : Nat} {p : Ask × List Ask} {tl te ta v : Value} {l : List Ask} {E : List Em} (h : RaO w B p tl te ta) (hk : Keep S w w2) (hS : ∀ k, B ≤ k → k < w.heap.size → ¬ S k) (hB : B ≤ w.heap.size) (ho : AsO w2 w.heap.size v l E) {p' : Ask × List Ask} (h1 : p'.1.ent = p.1.ent) (h2 : p'.1.list = p.1.list) (h3 : p'.2 = l) : RaO w2 B p' tl te v := by
  obtain ⟨E0, e1, e2, e3, e4⟩ := h
  refine ⟨E, by rw [h2]; exact own_keepK e1 hk hS, by rw [h1]; exact own_keepK e2 hk hS, by rw [h3]; exact ho.lower hB, ?_⟩
  obtain ⟨f1, f2⟩ := nd_cons.1 e4
  refine nd_cons.2 ⟨nd_cons.2 ⟨ho.nd, fun k hk hm => ?_⟩, fun k hk hm => ?_⟩
  · have g1 := own_lt e2 k hk
    have g2 := (ho.in k hm).1
    omega
  · rw [bks_cons, List.mem_append] at hm
    rcases hm with hm | hm
    · exact f2 k hk (by rw [bks_cons, List.mem_append]; exact .inl hm)
    · have g1 := own_lt e1 k hk
      have g2 := (ho.in k hm).1
      omega
end Msg
end Go.Proofs.YtmhgdcfmfcjagaaGreatDoor

namespace Go.Proofs.YtmhgdcfmfcjagaaGreatDoor
open Go.RowKit Cod
namespace Msg
def rep (n : Nat) (c : List Value) : List Value := (List.replicate n c).flatten
theorem rep_zero (c : List Value) : rep 0 c = [] := rfl
theorem rep_succ (n : Nat) (c : List Value) : rep (n + 1) c = rep n c ++ c := by
  rw [rep, List.replicate_succ', List.flatten_append, rep]; simp
theorem rep_len (n : Nat) (c : List Value) : (rep n c).length = n * c.length := by
  induction n with
  | zero => simp [rep]
  | succ n ih => rw [rep_succ, List.length_append, ih, Nat.succ_mul]
theorem rep_get (c : List Value) (q : Nat) (u : Value) (hq : c[q]? = some u) : ∀ (n j : Nat), j < n → (rep n c)[j * c.length + q]? = some u
  | 0, j, h => by omega
  | n + 1, j, h => by
    have hqc := (List.getElem?_eq_some_iff.1 hq).1
    rw [rep_succ]
    by_cases hj : j < n
    · rw [List.getElem?_append_left (by rw [rep_len]; have := Nat.mul_le_mul_right c.length (show j + 1 ≤ n from hj); rw [Nat.succ_mul] at this; omega)]
      exact rep_get c q u hq n j hj
    · obtain rfl : j = n := by omega
      rw [List.getElem?_append_right (by rw [rep_len]; omega), rep_len, show j * c.length + q - j * c.length = q from by omega]
      exact hq
def MkR (m o : Nat) (w : World) (v x : Value) : Prop := ∃ a n c, v = .slice a n c ∧ n ≤ 9223372036854775807 ∧ ∀ j, j < n → ∃ g, a = some ⟨g, 0, none⟩ ∧ g < w.heap.size ∧ w.cell? ⟨g, j * m + o, none⟩ = some x
theorem MkR.kept {m o : Nat} {w w' : World} {v x : Value} (h : MkR m o w v x) (hs : w.heap.size ≤ w'.heap.size) (hb : ∀ k, v.ownBlock = some k → k < w.heap.size → w'.heap[k]? = w.heap[k]?) : MkR m o w' v x := by
  obtain ⟨a, n, c, rfl, h1, h2⟩ := h
  refine ⟨a, n, c, rfl, h1, fun j hj => ?_⟩
  obtain ⟨g, rfl, h3, h4⟩ := h2 j hj
  exact ⟨g, rfl, by omega, (World.cell?_of_block (a := ⟨g, j * m + o, none⟩) (hb g rfl h3)).trans h4⟩
theorem OwnM.mkR {m o : Nat} {w : World} {v x : Value} {n : Nat} {c : List Value} (hc : c.length = m) (hx : c[o]? = some x) (h : OwnM m w v n (rep n c)) : MkR m o w v x := by
  obtain ⟨a, cap, e, h1, h2⟩ := h.shape
  refine ⟨a, n, cap, e, by omega, fun j hj => ?_⟩
  obtain ⟨g, c', e1, h3, h4⟩ := h.cell (j := j * m + o) (by rw [← hc]; exact rep_get c o x hx n j hj)
  rw [e] at e1
  injection e1 with e1
  exact ⟨g, e1, h4, h3⟩
theorem OwnM.setG {m : Nat} {w : World} {g n c : Nat} {cs : List Value} (h : OwnM m w (.slice (some ⟨g, 0, none⟩) n c) n cs) {j : Nat} (hj : j < cs.length) (u : Value) :
    OwnM m (w.setCell ⟨g, j, none⟩ u) (.slice (some ⟨g, 0, none⟩) n c) n (cs.set j u) ∧ (∃ y, w.cell? ⟨g, j, none⟩ = some y) ∧ w.frozen? ⟨g, j, none⟩ = false := by
  rcases h with ⟨h, _⟩ | ⟨g', cap', h, h2, h3, h0, h4, h5, h6⟩
  · cases h
  injection h with e1 e2 e3
  injection e1 with e1
  injection e1 with e1
  subst e1 e3
  have ht := h5 j (by have := Nat.mul_le_mul_right m h2; omega)
  rw [Nat.zero_add] at ht
  obtain ⟨y, hy⟩ := Option.isSome_iff_exists.1 ht.1
  refine ⟨.inr ⟨g, c, rfl, h2, h3, by rw [List.length_set]; exact h0, ?_, ?_, by simpa [World.setCell] using h6⟩, ⟨y, hy⟩, ht.2⟩
  · intro k u' hk
    rw [List.getElem?_set] at hk
    rw [Nat.zero_add]
    split at hk
    · next e =>
      subst e
      (try split at hk) <;> first | (rw [World.cell?_setCell_same _ _ _ (by rw [hy]; try rfl)]; exact hk) | cases hk
    · next e =>
      rw [World.cell?_setCell_other _ _ _ _ (by simp; try exact fun e' => e e'.symm)]
      have := h4 k u' hk
      rwa [Nat.zero_add] at this
  · intro k hk
    have := h5 k hk
    rw [World.frozen?_setCell]
    refine ⟨?_, this.2⟩
    by_cases e : j = 0 + k
    · rw [← e, World.cell?_setCell_same _ _ _ (by rw [hy]; try rfl)]; rfl
    · rw [World.cell?_setCell_other _ _ _ _ (by simp; try exact fun e' => e (by omega))]; exact this.1
def rx (ρ : Nat → Nat) (w : World) (r : Nat) : Nat → Nat := fun k => if k < w.heap.size then ρ k else r
theorem rx_old {ρ : Nat → Nat} {w : World} {r k : Nat} (h : k < w.heap.size) : rx ρ w r k = ρ k := if_pos h
theorem rx_new {ρ : Nat → Nat} {w : World} {r k : Nat} (h : w.heap.size ≤ k) : rx ρ w r k = r := if_neg (by omega)
structure Pm (m : Nat) (mc : Nat → List Value) (vs : List Value) (w0 : World) (ρ : Nat → Nat) (w : World) (p : Nat) : Prop where
  kp : Keep (fun k => ρ k ≠ 0) w0 w
  own : ∀ j v, vs[j]? = some v → ∃ n cs, n ≤ 1000000 ∧ OwnM m w v n cs ∧ (j < p → cs = rep n (mc j)) ∧ ∀ k, v.ownBlock = some k → ρ k = 2 + j
structure Pn (m : Nat) (mc : Nat → List Value) (vs : List Value) (w0 : World) (ρ : Nat → Nat) (w : World) (p : Nat) (v : Value) (n i : Nat) (cs : List Value) : Prop where
  kp : Keep (fun k => ρ k ≠ 0) w0 w
  own : ∀ j v, j ≠ p → vs[j]? = some v → ∃ n cs, n ≤ 1000000 ∧ OwnM m w v n cs ∧ (j < p → cs = rep n (mc j)) ∧ ∀ k, v.ownBlock = some k → ρ k = 2 + j
  cur : OwnM m w v n (rep i (mc p) ++ cs.drop (i * m))
  len : cs.length = n * m
  vp : vs[p]? = some v
  rv : ∀ k, v.ownBlock = some k → ρ k = 2 + p
  le : n ≤ 1000000
theorem Pm.open {m : Nat} {mc : Nat → List Value} {vs : List Value} {w0 w : World} {ρ : Nat → Nat} {p : Nat} (h : Pm m mc vs w0 ρ w p) {v : Value} (hv : vs[p]? = some v) : ∃ n cs, Pn m mc vs w0 ρ w p v n 0 cs := by
  obtain ⟨n, cs, h1, h2, h3, h4⟩ := h.own p v hv
  exact ⟨n, cs, h.kp, fun j v _ e => h.own j v e, by rw [rep_zero, List.nil_append, Nat.zero_mul]; exact h2, h2.len, hv, h4, h1⟩
theorem Pn.shut {m : Nat} {mc : Nat → List Value} {vs : List Value} {w0 w : World} {ρ : Nat → Nat} {p : Nat} {v : Value} {n : Nat} {cs : List Value} (h : Pn m mc vs w0 ρ w p v n n cs) : Pm m mc vs w0 ρ w (p + 1) := by
  refine ⟨h.kp, fun j u e => ?_⟩
  by_cases hj : j = p
  · subst hj
    obtain rfl : v = u := Option.some.inj (h.vp.symm.trans e)
    refine ⟨n, rep n (mc j), h.le, ?_, fun _ => rfl, h.rv⟩
    have := h.cur
    rwa [List.drop_of_length_le (by rw [h.len]; exact Nat.le_refl _), List.append_nil] at this
  · obtain ⟨n', cs', h1, h2, h3, h4⟩ := h.own j u hj e
    exact ⟨n', cs', h1, h2, fun hlt => h3 (by omega), h4⟩
theorem Pn.put {m : Nat} {mc : Nat → List Value} {vs : List Value} {w0 w w' : World} {ρ : Nat → Nat} {p : Nat} {v : Value} {n i : Nat} {cs : List Value} (h : Pn m mc vs w0 ρ w p v n i cs)
    (hb : Keep (fun k => v.ownBlock = some k) w w') (hc : OwnM m w' v n (rep (i + 1) (mc p) ++ cs.drop ((i + 1) * m))) : Pn m mc vs w0 ρ w' p v n (i + 1) cs :=
  ⟨h.kp.trans hb fun k _ e => (by rw [h.rv k e]; omega), fun j u hj e => by
    obtain ⟨n', cs', h1, h2, h3, h4⟩ := h.own j u hj e
    exact ⟨n', cs', h1, h2.keep hb (fun k hk e => by have a := h4 k hk; have b := h.rv k e; omega), h3, h4⟩, hc, h.len, h.vp, h.rv, h.le⟩
theorem rep_drop (c cs : List Value) (m i : Nat) : (rep (i + 1) c ++ cs.drop ((i + 1) * m)) = rep i c ++ (c ++ (cs.drop (i * m)).drop m) := by
  rw [rep_succ, List.append_assoc, List.drop_drop, Nat.succ_mul]
structure Pg (m o : Nat) (mk : Nat → Value) (mc : Nat → List Value) (vs : List Value) (w0 : World) (ρ : Nat → Nat) (w : World) (p : Nat) (va : Value) (ls : List Value) : Prop where
  kp : Keep (fun k => ρ k ≠ 0) w0 w
  own : ∀ j v, p ≤ j → vs[j]? = some v → ∃ n, n ≤ 1000000 ∧ OwnM m w v n (rep n (mc j)) ∧ ∀ k, v.ownBlock = some k → ρ k = 2 + j
  ol : OwnM 1 w va ls.length ls
  rl : ∀ k, va.ownBlock = some k → ρ k = 1
  mrk : ∀ t v, ls[t]? = some v → MkR m o w v (mk (t / 20)) ∧ ∀ k, v.ownBlock = some k → k < w.heap.size ∧ ρ k = 2 + t / 20
structure Pu (m o : Nat) (mk : Nat → Value) (mc : Nat → List Value) (vs : List Value) (w0 : World) (ρ : Nat → Nat) (w : World) (p : Nat) (va : Value) (ls : List Value) (x : Value) (nx : Nat) : Prop where
  g : Pg m o mk mc vs w0 ρ w (p + 1) va ls
  cur : OwnM m w x nx (rep nx (mc p))
  rc : ∀ k, x.ownBlock = some k → ρ k = 2 + p
  sh : ∀ (t : Nat) (a : Option Addr) (n c k : Nat), ls[t]? = some (Value.slice a n c) → (Value.slice a n c).ownBlock = some k → x.ownBlock = some k → n ≤ nx
theorem Pm.grow {m o : Nat} {mk : Nat → Value} {mc : Nat → List Value} {vs : List Value} {w0 w : World} {ρ : Nat → Nat} {p : Nat} (h : Pm m mc vs w0 ρ w p) (hp : vs.length ≤ p) : Pg m o mk mc vs w0 ρ w 0 (.slice none 0 0) [] :=
  ⟨h.kp, fun j v _ e => by
    obtain ⟨n, cs, h1, h2, h3, h4⟩ := h.own j v e
    have := (List.getElem?_eq_some_iff.1 e).1
    rw [h3 (by omega)] at h2
    exact ⟨n, h1, h2, h4⟩, OwnM.nil 1 w, fun k hk => (by cases hk), fun t v e => (by simp at e)⟩
theorem Pg.open {m o : Nat} {mk : Nat → Value} {mc : Nat → List Value} {vs : List Value} {w0 w : World} {ρ : Nat → Nat} {p : Nat} {va : Value} {ls : List Value} (h : Pg m o mk mc vs w0 ρ w p va ls) (hl : ls.length = 20 * p) {v : Value} (hv : vs[p]? = some v) : ∃ n, n ≤ 1000000 ∧ Pu m o mk mc vs w0 ρ w p va ls v n := by
  obtain ⟨n, h1, h2, h3⟩ := h.own p v (Nat.le_refl _) hv
  refine ⟨n, h1, ⟨h.kp, fun j u hj e => h.own j u (by omega) e, h.ol, h.rl, h.mrk⟩, h2, h3, fun t a n c k e e1 e2 => ?_⟩
  have a1 := ((h.mrk t _ e).2 k e1).2
  have a2 := h3 k e2
  have a3 := (List.getElem?_eq_some_iff.1 e).1
  omega
theorem Pu.shut {m o : Nat} {mk : Nat → Value} {mc : Nat → List Value} {vs : List Value} {w0 w : World} {ρ : Nat → Nat} {p : Nat} {va : Value} {ls : List Value} {x : Value} {nx : Nat} (h : Pu m o mk mc vs w0 ρ w p va ls x nx) : Pg m o mk mc vs w0 ρ w (p + 1) va ls := h.g
theorem Pu.growX {m o : Nat} {mk : Nat → Value} {mc : Nat → List Value} {vs : List Value} {w0 w w' : World} {ρ : Nat → Nat} {p : Nat} {va : Value} {ls : List Value} {x x' : Value} {nx : Nat} (h : Pu m o mk mc vs w0 ρ w p va ls x nx) (hlen : (mc p).length = m) (hmk : (mc p)[o]? = some (mk p))
    (hg : Grow w w' x x') (ho : OwnM m w' x' (nx + 1) (rep (nx + 1) (mc p))) : Pu m o mk mc vs w0 (rx ρ w (2 + p)) w' p va ls x' (nx + 1) := by
  have hs0 := h.g.kp.size
  have old : ∀ k, k < w.heap.size → ρ k ≠ 2 + p → w'.heap[k]? = w.heap[k]? := fun k hk hr => hg.old k hk (fun e => hr (h.rc k e))
  refine ⟨⟨⟨hg.os.trans h.g.kp.os, hg.tape.trans h.g.kp.tape, hg.output.trans h.g.kp.output, Nat.le_trans hs0 hg.size, fun k hk hr => ?_⟩, fun j v hj e => ?_, ?_, fun k hk => ?_, fun t v e => ?_⟩, ho, fun k hk => ?_, fun t a n c k e e1 e2 => ?_⟩
  · rw [rx_old (by omega)] at hr
    have hr0 : ρ k = 0 := by omega
    exact (old k (by omega) (by omega)).trans (h.g.kp.block k hk hr)
  · obtain ⟨n, h1, h2, h3⟩ := h.g.own j v hj e
    exact ⟨n, h1, h2.kept hg.size (fun k hk => old k (h2.lt k hk) (by rw [h3 k hk]; omega)), fun k hk => by rw [rx_old (h2.lt k hk)]; exact h3 k hk⟩
  · exact h.g.ol.kept hg.size (fun k hk => old k (h.g.ol.lt k hk) (by rw [h.g.rl k hk]; omega))
  · rw [rx_old (h.g.ol.lt k hk)]; exact h.g.rl k hk
  · obtain ⟨m1, m2⟩ := h.g.mrk t v e
    refine ⟨?_, fun k hk => ⟨Nat.lt_of_lt_of_le (m2 k hk).1 hg.size, by rw [rx_old (m2 k hk).1]; exact (m2 k hk).2⟩⟩
    obtain ⟨a, n, c, rfl, hn, hc⟩ := m1
    refine ⟨a, n, c, rfl, hn, fun j hj => ?_⟩
    obtain ⟨g, ea, h3, h4⟩ := hc j hj
    have hvg : (Value.slice a n c).ownBlock = some g := by rw [ea]; rfl
    have stay : w'.heap[g]? = w.heap[g]? → ∃ g', a = some ⟨g', 0, none⟩ ∧ g' < w'.heap.size ∧ w'.cell? ⟨g', j * m + o, none⟩ = some (mk (t / 20)) := fun e' =>
      ⟨g, ea, Nat.lt_of_lt_of_le h3 hg.size, (World.cell?_of_block (a := ⟨g, j * m + o, none⟩) e').trans h4⟩
    by_cases hx : x.ownBlock = some g
    · rcases hg.alt with e4 | ⟨_, e4⟩
      · have hle := h.sh t a n c g e hvg hx
        have r1 := (m2 g hvg).2
        have r2 := h.rc g hx
        have ht : t / 20 = p := by omega
        obtain ⟨g1, c1, f1, f2, f3⟩ := ho.cell (j := j * m + o) (by rw [← hlen]; exact rep_get (mc p) o (mk p) hmk (nx + 1) j (by omega))
        have hg1 : g1 = g := by
          rw [hx, f1] at e4
          injection e4
        subst hg1
        rw [ht]
        exact ⟨_, ea, f3, f2⟩
      · exact stay (e4 g h3)
    · exact stay (hg.old g h3 hx)
  · rcases hg.alt with e4 | ⟨e4, _⟩
    · rw [e4] at hk
      rw [rx_old (h.cur.lt k hk)]; exact h.rc k hk
    · exact rx_new (e4 k hk)
  · rcases hg.alt with e4 | ⟨e4, _⟩
    · have := h.sh t a n c k e e1 (e4 ▸ e2); omega
    · have a1 := e4 k e2
      have a2 := ((h.g.mrk t _ e).2 k e1).1
      omega
theorem Pu.growA {m o : Nat} {mk : Nat → Value} {mc : Nat → List Value} {vs : List Value} {w0 w w' : World} {ρ : Nat → Nat} {p : Nat} {va va' : Value} {ls : List Value} {x : Value} {nx : Nat} (h : Pu m o mk mc vs w0 ρ w p va ls x nx) (hlen : (mc p).length = m) (hmk : (mc p)[o]? = some (mk p)) (hl : ls.length / 20 = p)
    (hg : Grow w w' va va') (ho : OwnM 1 w' va' (ls.length + 1) (ls ++ [x])) : Pu m o mk mc vs w0 (rx ρ w 1) w' p va' (ls ++ [x]) x nx := by
  have hs0 := h.g.kp.size
  have old : ∀ k, k < w.heap.size → ρ k ≠ 1 → w'.heap[k]? = w.heap[k]? := fun k hk hr => hg.old k hk (fun e => hr (h.g.rl k e))
  have cur : OwnM m w' x nx (rep nx (mc p)) := h.cur.kept hg.size (fun k hk => old k (h.cur.lt k hk) (by rw [h.rc k hk]; omega))
  refine ⟨⟨⟨hg.os.trans h.g.kp.os, hg.tape.trans h.g.kp.tape, hg.output.trans h.g.kp.output, Nat.le_trans hs0 hg.size, fun k hk hr => ?_⟩, fun j v hj e => ?_, by rw [List.length_append]; exact ho, fun k hk => ?_, fun t v e => ?_⟩, cur, fun k hk => ?_, fun t a n c k e e1 e2 => ?_⟩
  · rw [rx_old (by omega)] at hr
    have hr0 : ρ k = 0 := by omega
    exact (old k (by omega) (by omega)).trans (h.g.kp.block k hk hr)
  · obtain ⟨n, h1, h2, h3⟩ := h.g.own j v hj e
    exact ⟨n, h1, h2.kept hg.size (fun k hk => old k (h2.lt k hk) (by rw [h3 k hk]; omega)), fun k hk => by rw [rx_old (h2.lt k hk)]; exact h3 k hk⟩
  · rcases hg.alt with e4 | ⟨e4, _⟩
    · rw [e4] at hk
      rw [rx_old (h.g.ol.lt k hk)]; exact h.g.rl k hk
    · exact rx_new (e4 k hk)
  · rw [List.getElem?_append] at e
    split at e
    · obtain ⟨m1, m2⟩ := h.g.mrk t v e
      exact ⟨m1.kept hg.size (fun k hk hlt => old k hlt (by rw [(m2 k hk).2]; omega)), fun k hk => ⟨Nat.lt_of_lt_of_le (m2 k hk).1 hg.size, by rw [rx_old (m2 k hk).1]; exact (m2 k hk).2⟩⟩
    · next hlt =>
      obtain rfl : t = ls.length := by
        have := (List.getElem?_eq_some_iff.1 e).1
        simp at this
        omega
      rw [Nat.sub_self] at e
      obtain rfl : x = v := Option.some.inj e
      rw [hl]
      exact ⟨OwnM.mkR hlen hmk cur, fun k hk => ⟨cur.lt k hk, by rw [rx_old (h.cur.lt k hk)]; exact h.rc k hk⟩⟩
  · rw [rx_old (h.cur.lt k hk)]; exact h.rc k hk
  · rw [List.getElem?_append] at e
    split at e
    · exact h.sh t a n c k e e1 e2
    · next hlt =>
      obtain rfl : t = ls.length := by
        have := (List.getElem?_eq_some_iff.1 e).1
        simp at this
        omega
      rw [Nat.sub_self] at e
      obtain rfl : x = Value.slice a n c := Option.some.inj e
      obtain ⟨a', c', e', _, _⟩ := h.cur.shape
      injection e' with _ e' _
      omega
end Msg
end Go.Proofs.YtmhgdcfmfcjagaaGreatDoor
