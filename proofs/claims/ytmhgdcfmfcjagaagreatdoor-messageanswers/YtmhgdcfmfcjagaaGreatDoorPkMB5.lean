import Derived.Test.YtmhgdcfmfcjagaaGreatDoorPkMB4A
import Derived.Test.YtmhgdcfmfcjagaaGreatDoorPkMT6
import Derived.Deep.RegionLaw
import Derived.Deep.DeepCutAuto
import Derived.Test.YtmhgdcfmfcjagaaGreatDoorPkMTE
import Derived.Test.YtmhgdcfmfcjagaaGreatDoorPkMX2
import Derived.Test.YtmhgdcfmfcjagaaGreatDoorPkMW10
import Derived.Test.YtmhgdcfmfcjagaaGreatDoorPkG4N
namespace Go.Proofs.YtmhgdcfmfcjagaaGreatDoor
open Go.RowKit Cod
namespace Msg
theorem step_append17 {P : Program} {ops : Array Oper} {o : Oper} {a : Act} {w : World} {K : Act → World → Prop} {Q : Exit → Act → World → Prop} {E : Prop}
    (hg : o.guard = none) (s x : Operand) (t : TypeId) (hop : o.op = Op.call { callee := Callee.builtin Builtin.append, args := #[s, x], argTypes := #[t, t] })
    (v1 v2 v' : Value) (w' : World) (hs : a.eval s = v1) (hx : a.eval x = v2) (hrun : (Builtin.append_ #[t, t] o.type #[v1, v2]).run P w = .ok v' w') (hK : K (a.put o.dst v') w') :
    if Region.wanted o (yielded ops a.tmps) = true then Oper.wp P o a w K Q else E := by
  have hw : Region.wanted o (yielded ops a.tmps) = true := by simp [Region.wanted, hg]
  rw [if_pos hw]
  unfold Oper.wp
  simp [execOp, hop, resolve, invoke, builtin, hs, hx, hrun, Result.andThen]
  exact hK
theorem m0 (a b c : Value) : a ∈ [a, b, c] := List.mem_cons_self
theorem m1 (a b c : Value) : b ∈ [a, b, c] := List.mem_cons_of_mem _ List.mem_cons_self
theorem m2 (a b c : Value) : c ∈ [a, b, c] := List.mem_cons_of_mem _ (List.mem_cons_of_mem _ List.mem_cons_self)
end Msg
end Go.Proofs.YtmhgdcfmfcjagaaGreatDoor

namespace Go.Proofs.YtmhgdcfmfcjagaaGreatDoor
open Go.RowKit Cod
namespace Msg
def IsSl (v : Value) : Prop := ∃ a n c, v = .slice a n c
end Msg
end Go.Proofs.YtmhgdcfmfcjagaaGreatDoor

namespace Go.Proofs.YtmhgdcfmfcjagaaGreatDoor
open Go.RowKit Cod
namespace Msg
structure Ep where
  x : Part
  h : Value
  e : Value
  p : Value
def epc (m : Ep) : List Value := [.int .i64 m.x.status, .int .i64 m.x.size, .int .i64 m.x.a, .int .i64 m.x.b, sv m.x.root, m.h, m.e, m.p]
def epcs (E : List Ep) : List Value := (E.map epc).flatten
theorem epcs_at : ∀ (E : List Ep) (j : Nat) (m : Ep) (i : Nat), E[j]? = some m → i < 8 → (epcs E)[j * 8 + i]? = (epc m)[i]?
  | [], j, m, i, h, _ => by simp at h
  | n :: E, 0, m, i, h, hi => by
    obtain rfl := Option.some.inj (by simpa using h)
    rw [epcs, List.map_cons, List.flatten_cons, List.getElem?_append_left (by simp [epc]; omega)]
    simp
  | n :: E, j + 1, m, i, h, hi => by
    rw [epcs, List.map_cons, List.flatten_cons, List.getElem?_append_right (by simp [epc]; omega), ← epcs]
    rw [show (j + 1) * 8 + i - (epc n).length = j * 8 + i from by simp [epc]; omega]
    exact epcs_at E j m i (by simpa using h) hi
theorem epcs_snoc (E : List Ep) (m : Ep) : epcs (E ++ [m]) = epcs E ++ epc m := by simp [epcs]
def eps (E : List Ep) : List Value := E.flatMap fun m => [m.h, m.e]
theorem mem_eps {E : List Ep} {v : Value} : v ∈ eps E ↔ ∃ m, m ∈ E ∧ (v = m.h ∨ v = m.e) := by simp [eps]
theorem eps_snoc (E : List Ep) (m : Ep) : eps (E ++ [m]) = eps E ++ [m.h, m.e] := by simp [eps]
structure EpO (w : World) (B : Nat) (m : Ep) : Prop where
  o1 : Own w B m.h (svs m.x.hs)
  o2 : Own w B m.e (svs m.x.ent)
  o3 : m.p = .slice none 0 0
structure PsO (w : World) (B : Nat) (ta : Value) (l : List Part) (E : List Ep) : Prop where
  own : OwnM 8 w ta E.length (epcs E)
  ge : ∀ k, ta.ownBlock = some k → B ≤ k
  el : ∀ m ∈ E, EpO w B m
  eq : E.map (·.x) = l
  z : l = [] → ta = .slice none 0 0
  nd : (bks (ta :: eps E)).Nodup
def RpO (w : World) (B : Nat) (p : Part × List Part) (tl te ta : Value) : Prop :=
  ∃ E, Own w B tl (svs p.1.hs) ∧ Own w B te (svs p.1.ent) ∧ PsO w B ta p.2 E ∧ (bks (tl :: te :: ta :: eps E)).Nodup
theorem EpO.keep {S : Nat → Prop} {w w' : World} {B : Nat} {m : Ep} (h : EpO w B m) (hb : Keep S w w') (hS : ∀ k, B ≤ k → k < w.heap.size → ¬ S k) : EpO w' B m := ⟨own_keepK h.o1 hb hS, own_keepK h.o2 hb hS, h.o3⟩
theorem EpO.lower {w : World} {B B' : Nat} {m : Ep} (h : EpO w B m) (hb : B' ≤ B) : EpO w B' m := ⟨h.o1.mono hb, h.o2.mono hb, h.o3⟩
theorem PsO.keep {S : Nat → Prop} {w w' : World} {B : Nat} {ta : Value} {l : List Part} {E : List Ep} (h : PsO w B ta l E) (hb : Keep S w w') (hS : ∀ k, B ≤ k → k < w.heap.size → ¬ S k) : PsO w' B ta l E :=
  ⟨h.own.keep hb (fun k hk => hS k (h.ge k hk) (h.own.lt k hk)), h.ge, fun m hm => (h.el m hm).keep hb hS, h.eq, h.z, h.nd⟩
theorem PsO.lower {w : World} {B B' : Nat} {ta : Value} {l : List Part} {E : List Ep} (h : PsO w B ta l E) (hb : B' ≤ B) : PsO w B' ta l E :=
  ⟨h.own, fun k hk => Nat.le_trans hb (h.ge k hk), fun m hm => (h.el m hm).lower hb, h.eq, h.z, h.nd⟩
theorem RpO.keep {S : Nat → Prop} {w w' : World} {B : Nat} {p : Part × List Part} {tl te ta : Value} (h : RpO w B p tl te ta) (hb : Keep S w w') (hS : ∀ k, B ≤ k → k < w.heap.size → ¬ S k) : RpO w' B p tl te ta := by
  obtain ⟨E, h1, h2, h3, h4⟩ := h
  exact ⟨E, own_keepK h1 hb hS, own_keepK h2 hb hS, h3.keep hb hS, h4⟩
theorem RpO.lower {w : World} {B B' : Nat} {p : Part × List Part} {tl te ta : Value} (h : RpO w B p tl te ta) (hb : B' ≤ B) : RpO w B' p tl te ta := by
  obtain ⟨E, h1, h2, h3, h4⟩ := h
  exact ⟨E, h1.mono hb, h2.mono hb, h3.lower hb, h4⟩
theorem RpO.nil (w : World) (B : Nat) (p : Part × List Part) (h1 : p.1.hs = []) (h2 : p.1.ent = []) (h3 : p.2 = []) : RpO w B p (.slice none 0 0) (.slice none 0 0) (.slice none 0 0) := by
  refine ⟨[], ?_, ?_, ?_, ?_⟩
  · rw [h1]; exact Own.nil _ _
  · rw [h2]; exact Own.nil _ _
  · rw [h3]; exact ⟨OwnM.nil 8 w, fun k hk => (by cases hk), fun m hm => (by cases hm), rfl, fun _ => rfl, (List.nodup_nil : ([] : List Nat).Nodup)⟩
  · exact (List.nodup_nil : ([] : List Nat).Nodup)
theorem PsO.in {w : World} {B : Nat} {ta : Value} {l : List Part} {E : List Ep} (h : PsO w B ta l E) : ∀ k, k ∈ bks (ta :: eps E) → B ≤ k ∧ k < w.heap.size := fun k hk => by
  obtain ⟨v, hv, hb⟩ := mem_bks.1 hk
  rcases List.mem_cons.1 hv with rfl | hv
  · exact ⟨h.ge k hb, h.own.lt k hb⟩
  · obtain ⟨m, hm, rfl | rfl⟩ := mem_eps.1 hv
    · exact ⟨(h.el m hm).o1.ge k hb, own_lt (h.el m hm).o1 k hb⟩
    · exact ⟨(h.el m hm).o2.ge k hb, own_lt (h.el m hm).o2 k hb⟩
theorem RpO.setH {S : Nat → Prop} {w w2 : World} {B : Nat} {p : Part × List Part} {tl te ta v : Value} {l : List (List UInt8)} (h : RpO w B p tl te ta) (hk : Keep S w w2) (hS : ∀ k, B ≤ k → k < w.heap.size → ¬ S k) (hB : B ≤ w.heap.size) (ho : Own w2 w.heap.size v (svs l)) {p' : Part × List Part} (h1 : p'.1.hs = l) (h2 : p'.1.ent = p.1.ent) (h3 : p'.2 = p.2) : RpO w2 B p' v te ta := by
  obtain ⟨E, e1, e2, e3, e4⟩ := h
  refine ⟨E, by rw [h1]; exact ho.mono hB, by rw [h2]; exact own_keepK e2 hk hS, by rw [h3]; exact e3.keep hk hS, ?_⟩
  refine nd_cons.2 ⟨(nd_cons.1 e4).1, fun k hk hm => ?_⟩
  have g1 := ho.ge k hk
  have g2 : k < w.heap.size := by
    rw [bks_cons, List.mem_append] at hm
    rcases hm with hm | hm
    · obtain ⟨u, hu, hb⟩ := mem_bks.1 hm
      rw [List.mem_singleton] at hu
      subst hu
      exact own_lt e2 k hb
    · exact (e3.in k hm).2
  omega
theorem RpO.setE {S : Nat → Prop} {w w2 : World} {B : Nat} {p : Part × List Part} {tl te ta v : Value} {l : List (List UInt8)} (h : RpO w B p tl te ta) (hk : Keep S w w2) (hS : ∀ k, B ≤ k → k < w.heap.size → ¬ S k) (hB : B ≤ w.heap.size) (ho : Own w2 w.heap.size v (svs l)) {p' : Part × List Part} (h1 : p'.1.ent = l) (h2 : p'.1.hs = p.1.hs) (h3 : p'.2 = p.2) : RpO w2 B p' tl v ta := by
  obtain ⟨E, e1, e2, e3, e4⟩ := h
  refine ⟨E, by rw [h2]; exact own_keepK e1 hk hS, by rw [h1]; exact ho.mono hB, by rw [h3]; exact e3.keep hk hS, ?_⟩
  obtain ⟨f1, f2⟩ := nd_cons.1 e4
  obtain ⟨f3, f4⟩ := nd_cons.1 f1
  refine nd_cons.2 ⟨nd_cons.2 ⟨f3, fun k hk hm => ?_⟩, fun k hk hm => ?_⟩
  · have g1 := ho.ge k hk
    have g2 := (e3.in k hm).2
    omega
  · rw [bks_cons, List.mem_append] at hm
    rcases hm with hm | hm
    · obtain ⟨u, hu, hb⟩ := mem_bks.1 hm
      rw [List.mem_singleton] at hu
      subst hu
      have g1 := ho.ge k hb
      have g2 := own_lt e1 k hk
      omega
    · exact f2 k hk (by rw [bks_cons, List.mem_append]; exact .inr hm)
theorem RpO.setP {S : Nat → Prop} {w w2 : World} {B : Nat} {p : Part × List Part} {tl te ta v : Value} {l : List Part} {E : List Ep} (h : RpO w B p tl te ta) (hk : Keep S w w2) (hS : ∀ k, B ≤ k → k < w.heap.size → ¬ S k) (hB : B ≤ w.heap.size) (ho : PsO w2 w.heap.size v l E) {p' : Part × List Part} (h1 : p'.1.ent = p.1.ent) (h2 : p'.1.hs = p.1.hs) (h3 : p'.2 = l) : RpO w2 B p' tl te v := by
  obtain ⟨E0, e1, e2, e3, e4⟩ := h
  refine ⟨E, by rw [h2]; exact own_keepK e1 hk hS, by rw [h1]; exact own_keepK e2 hk hS, by rw [h3]; exact ho.lower hB, ?_⟩
  obtain ⟨f1, f2⟩ := nd_cons.1 e4
  refine nd_cons.2 ⟨nd_cons.2 ⟨ho.nd, fun k hk hm => ?_⟩, fun k hk hm => ?_⟩
  · have g1 := own_lt e2 k hk
    have g2 := (ho.in k hm).1
    omega
  · rw [bks_cons, List.mem_append] at hm
    rcases hm with hm | hm
    · exact f2 k hk (by rw [bks_cons, List.mem_append]; exact .inl hm)
    · have g1 := own_lt e1 k hk
      have g2 := (ho.in k hm).1
      omega
end Msg
end Go.Proofs.YtmhgdcfmfcjagaaGreatDoor

namespace Go.Proofs.YtmhgdcfmfcjagaaGreatDoor
open Go.RowKit Cod
namespace Msg
theorem append_kM {m : Nat} (t e : TypeId) (z : Value) (by_ : Nat) (hb64 : by_ ≤ 128) (hu : Tryz.prog.underlying t = some (.slice e)) (hinfo : (Tryz.prog.info? e).map (fun i => (i.zero, i.size, i.bytes)) = some (some z, m, by_)) (hzs : z.cells.size = m)
    (w : World) (v : Value) (n0 : Nat) (cs : List Value) (k : Nat) (hk0 : 0 < k) (hk8 : k ≤ 8) (xs : List Value) (hm : xs.length = k * m) (h1 : ∀ u ∈ xs, u.oneCell' = true) (hown : OwnM m w v n0 cs) (hlen : n0 ≤ 2000000) :
    ∃ v' w', (Builtin.append_ #[t, t] t #[v, .slice (some ⟨w.heap.size, 0, none⟩) k k]).run Tryz.prog (w.alloc (.cells xs.toArray e)) = .ok v' w' ∧ OwnM m w' v' (n0 + k) (cs ++ xs) ∧ Grow w w' v v' := by
  obtain ⟨i0, hi, hz0, hz1, hz2⟩ := info_parts hinfo
  have hsrc : Src Tryz.prog m t (.slice (some ⟨w.heap.size, 0, none⟩) k k) k xs (w.alloc (.cells xs.toArray e)) :=
    Src.ofSlice _ hu ⟨w.heap.size, 0, none⟩ k k xs hm (fun j u hj => by
      rw [Addr.add_mid, cell_of_row _ _ _ _ _ _ (heap_alloc_new w _), Nat.zero_add]; simpa using hj) h1
  obtain ⟨v', w', a1, a2, a3⟩ := run_append_M (P := Tryz.prog) (w.alloc (.cells xs.toArray e)) t t t e i0 z hu hi hz0 hz1 hzs v n0 cs (hown.alloc _) _ k xs hsrc
    (by rw [hz2]; exact Nat.le_trans (Nat.mul_le_mul (show n0 + k ≤ 2000008 by omega) hb64) (by decide)) (by rw [maxLen]; omega) (fun _ => hk0)
  have hs := a3.size
  rw [size_alloc] at hs
  refine ⟨v', w', a1, a2, ⟨a3.os, a3.tape, a3.output, by omega, fun k hk hne => (a3.old k (by rw [size_alloc]; omega) hne).trans (Below.heap_alloc w _ k hk), ?_⟩⟩
  rcases a3.alt with h4 | ⟨h4, h5⟩
  · exact .inl h4
  · refine .inr ⟨fun k hk => ?_, fun k hk => (h5 k (by rw [size_alloc]; omega)).trans (Below.heap_alloc w _ k hk)⟩
    have := h4 k hk
    rw [size_alloc] at this
    omega
structure Bh (w : World) (W X : Nat) (vt vr : Value) (Lt Lr : List Value) : Prop where
  row : w.heap[X]? = some (.cells #[.slice none 0 0, vt, .slice none 0 0, vr] 34 (0, 0))
  ot : OwnM 1 w vt Lt.length Lt
  oa : OwnM 1 w vr Lr.length Lr
  XW : X < W
  ge : ∀ k, k ∈ bks [vt, vr] → W ≤ k
  nd : (bks [vt, vr]).Nodup
structure Gtr (w w' : World) (X : Nat) (vt vr vt' vr' : Value) : Prop where
  kp : Keep (fun k => k = X ∨ k ∈ bks [vt, vr]) w w'
  fr : ∀ k, k ∈ bks [vt', vr'] → k ∈ bks [vt, vr] ∨ w.heap.size ≤ k
theorem Gtr.below {w w' : World} {X : Nat} {vt vr : Value} (h : Below w.heap.size w w') : Gtr w w' X vt vr vt vr := ⟨Keep.ofBelow h, fun _ hk => .inl hk⟩
theorem Gtr.trans {w w1 w2 : World} {X : Nat} {vt vr vt1 vr1 vt2 vr2 : Value} (h : Gtr w w1 X vt vr vt1 vr1) (k : Gtr w1 w2 X vt1 vr1 vt2 vr2) : Gtr w w2 X vt vr vt2 vr2 :=
  ⟨h.kp.trans k.kp fun j hj e => by
    rcases e with e | e
    · exact .inl e
    · rcases h.fr j e with e | e
      · exact .inr e
      · omega, fun j hj => by
    rcases k.fr j hj with e | e
    · exact h.fr j e
    · exact .inr (Nat.le_trans h.kp.size e)⟩
theorem Bh.below {w w' : World} {W X : Nat} {vt vr : Value} {Lt Lr : List Value} (h : Bh w W X vt vr Lt Lr) (hb : Below w.heap.size w w') : Bh w' W X vt vr Lt Lr :=
  ⟨(hb.block X (lt_of_heap h.row)).trans h.row, h.ot.below hb, h.oa.below hb, h.XW, h.ge, h.nd⟩
theorem n0 (a b : Value) : a ∈ [a, b] := List.mem_cons_self
theorem n1 (a b : Value) : b ∈ [a, b] := List.mem_cons_of_mem _ List.mem_cons_self
theorem Bh.lt {w : World} {W X : Nat} {vt vr : Value} {Lt Lr : List Value} (h : Bh w W X vt vr Lt Lr) : ∀ k, k ∈ bks [vt, vr] → k < w.heap.size := fun k hk => by
  obtain ⟨u, hu, hb⟩ := mem_bks.1 hk
  simp only [List.mem_cons, List.not_mem_nil, or_false] at hu
  rcases hu with rfl | rfl
  · exact h.ot.lt k hb
  · exact h.oa.lt k hb
theorem nd_two {a b : Value} (h1 : ∀ k, a.ownBlock = some k → b.ownBlock ≠ some k) : (bks [a, b]).Nodup := by
  refine nd_cons.2 ⟨nd_cons.2 ⟨(List.nodup_nil : ([] : List Nat).Nodup), fun k _ hm => by obtain ⟨x, hx, _⟩ := mem_bks.1 hm; cases hx⟩, fun k hk hm => ?_⟩
  obtain ⟨x, hx, hb⟩ := mem_bks.1 hm
  rw [List.mem_singleton] at hx
  subst hx
  exact h1 k hk hb
theorem Bh.push1 {w : World} {W X : Nat} {vt vr : Value} {Lt Lr : List Value} (h : Bh w W X vt vr Lt Lr) (hW : W ≤ w.heap.size) (hl : Lt.length ≤ 1000000) (u1 : Value) (u2 : Value) (hu1 : u1.oneCell' = true) (hu2 : u2.oneCell' = true) :
    ∃ v' w', (Builtin.append_ #[30, 30] 30 #[vt, .slice (some ⟨w.heap.size, 0, none⟩) 2 2]).run Tryz.prog (w.alloc (.cells #[u1, u2] 23)) = .ok v' w' ∧ (∃ a n c, v' = .slice a n c) ∧ w'.cell? ⟨X, 1, none⟩ = some vt ∧ w'.frozen? ⟨X, 1, none⟩ = false ∧ (∀ k, k < w.heap.size → k ∉ bks [vt, vr] → w'.heap[k]? = w.heap[k]?) ∧ w.heap.size ≤ w'.heap.size ∧ Bh (w'.setCell ⟨X, 1, none⟩ v') W X v' vr (Lt ++ [u1, u2]) Lr ∧ Gtr w (w'.setCell ⟨X, 1, none⟩ v') X vt vr v' vr := by
  obtain ⟨v', w', r1, o1, r3⟩ := append_kM 30 23 (.slice none 0 0) 24 (by decide) Tryz.underlying30 infoLT17 rfl w vt Lt.length Lt 2 (by omega) (by omega) [u1, u2] rfl (fun x hx => by simp only [List.mem_cons, List.not_mem_nil, or_false] at hx; rcases hx with rfl | rfl <;> assumption) h.ot (by omega)
  have hXn : X ∉ bks [vt, vr] := fun e => by have := h.ge X e; have := h.XW; omega
  have hXl := lt_of_heap h.row
  have hXv : vt.ownBlock ≠ some X := fun e => hXn (mem_bks.2 ⟨_, n0 _ _, e⟩)
  have row1 := (r3.old X hXl hXv).trans h.row
  have hset : ∀ k, k ≠ X → (w'.setCell ⟨X, 1, none⟩ v').heap[k]? = w'.heap[k]? := fun k hk => heap_setCell_other w' ⟨X, 1, none⟩ k v' hk
  have hsz : (w'.setCell ⟨X, 1, none⟩ v').heap.size = w'.heap.size := by simp [World.setCell]
  have fr1 : ∀ k, v'.ownBlock = some k → vt.ownBlock = some k ∨ w.heap.size ≤ k := fun k hk => by
    rcases r3.alt with e | ⟨e, _⟩
    · exact .inl (e ▸ hk)
    · exact .inr (e k hk)
  have hX' : v'.ownBlock ≠ some X := fun e => by
    rcases fr1 X e with e | e
    · exact hXv e
    · omega
  have ap1 : ∀ k, vt.ownBlock = some k → vr.ownBlock ≠ some k := fun k e1 e2 => absurd (nd_apart h.nd (i := 0) (j := 1) (u := vt) (v := vr) (k := k) rfl rfl e1 e2) (by omega)
  have frr : ∀ k, k ∈ bks [v', vr] → k ∈ bks [vt, vr] ∨ w.heap.size ≤ k := fun k hk => by
    obtain ⟨x, hx, hb⟩ := mem_bks.1 hk
    simp only [List.mem_cons, List.not_mem_nil, or_false] at hx
    rcases hx with rfl | rfl
    · rcases fr1 k hb with e | e
      · exact .inl (mem_bks.2 ⟨_, n0 _ _, e⟩)
      · exact .inr e
    · exact .inl (mem_bks.2 ⟨_, n1 _ _, hb⟩)
  have kp : Keep (fun k => k = X ∨ k ∈ bks [vt, vr]) w (w'.setCell ⟨X, 1, none⟩ v') :=
    ⟨r3.os, r3.tape, r3.output, by rw [hsz]; exact r3.size, fun k hk hne => (hset k (fun e => hne (.inl e))).trans (r3.old k hk (fun e => hne (.inr (mem_bks.2 ⟨_, n0 _ _, e⟩))))⟩
  obtain ⟨a, c, e, _, _⟩ := o1.shape
  have on : OwnM 1 (w'.setCell ⟨X, 1, none⟩ v') v' (Lt ++ [u1, u2]).length (Lt ++ [u1, u2]) := by rw [List.length_append]; exact (o1.kept (Nat.le_of_eq hsz.symm) (fun k hk => hset k (fun e => (hX' (by rw [← e]; exact hk)))))
  have oo := (h.oa.kept r3.size (fun k hk => r3.old k (h.oa.lt k hk) (fun e => ap1 k e hk))).kept (Nat.le_of_eq hsz.symm) (fun k hk => hset k (fun e => hXn (by rw [← e]; exact mem_bks.2 ⟨_, n1 _ _, hk⟩)))
  refine ⟨v', w', r1, ⟨a, _, c, e⟩, by rw [cell_of_row _ _ _ _ _ _ row1]; rfl, frozen_of_row _ _ _ _ _ row1, fun k hk hne => r3.old k hk (fun e => hne (mem_bks.2 ⟨_, n0 _ _, e⟩)), r3.size, ⟨?_, on, oo, h.XW, fun k hk => ?_, ?_⟩, ⟨kp, frr⟩⟩
  · rw [setCell_eq_setRow w' X 1 _ 34 (0, 0) v' row1, setRow_heap _ _ _ _ _ _ row1]; rfl
  · rcases frr k hk with e | e
    · exact h.ge k e
    · omega
  · refine nd_two (fun k e1 e2 => ?_)
    skip
    rcases fr1 k e1 with e | e
    · exact ap1 k e e2
    · have := h.oa.lt k e2; omega
theorem Bh.push3 {w : World} {W X : Nat} {vt vr : Value} {Lt Lr : List Value} (h : Bh w W X vt vr Lt Lr) (hW : W ≤ w.heap.size) (hl : Lr.length ≤ 1000000) (u1 : Value) (hu1 : u1.oneCell' = true) :
    ∃ v' w', (Builtin.append_ #[32, 32] 32 #[vr, .slice (some ⟨w.heap.size, 0, none⟩) 1 1]).run Tryz.prog (w.alloc (.cells #[u1] 43)) = .ok v' w' ∧ (∃ a n c, v' = .slice a n c) ∧ w'.cell? ⟨X, 3, none⟩ = some vr ∧ w'.frozen? ⟨X, 3, none⟩ = false ∧ (∀ k, k < w.heap.size → k ∉ bks [vt, vr] → w'.heap[k]? = w.heap[k]?) ∧ w.heap.size ≤ w'.heap.size ∧ Bh (w'.setCell ⟨X, 3, none⟩ v') W X vt v' Lt (Lr ++ [u1]) ∧ Gtr w (w'.setCell ⟨X, 3, none⟩ v') X vt vr vt v' := by
  obtain ⟨v', w', r1, o1, r3⟩ := append_kM 32 43 (.slice none 0 0) 24 (by decide) Tryz.underlying32 infoLR17 rfl w vr Lr.length Lr 1 (by omega) (by omega) [u1] rfl (fun x hx => by simp only [List.mem_cons, List.not_mem_nil, or_false] at hx; rcases hx with rfl <;> assumption) h.oa (by omega)
  have hXn : X ∉ bks [vt, vr] := fun e => by have := h.ge X e; have := h.XW; omega
  have hXl := lt_of_heap h.row
  have hXv : vr.ownBlock ≠ some X := fun e => hXn (mem_bks.2 ⟨_, n1 _ _, e⟩)
  have row1 := (r3.old X hXl hXv).trans h.row
  have hset : ∀ k, k ≠ X → (w'.setCell ⟨X, 3, none⟩ v').heap[k]? = w'.heap[k]? := fun k hk => heap_setCell_other w' ⟨X, 3, none⟩ k v' hk
  have hsz : (w'.setCell ⟨X, 3, none⟩ v').heap.size = w'.heap.size := by simp [World.setCell]
  have fr1 : ∀ k, v'.ownBlock = some k → vr.ownBlock = some k ∨ w.heap.size ≤ k := fun k hk => by
    rcases r3.alt with e | ⟨e, _⟩
    · exact .inl (e ▸ hk)
    · exact .inr (e k hk)
  have hX' : v'.ownBlock ≠ some X := fun e => by
    rcases fr1 X e with e | e
    · exact hXv e
    · omega
  have ap1 : ∀ k, vr.ownBlock = some k → vt.ownBlock ≠ some k := fun k e1 e2 => absurd (nd_apart h.nd (i := 1) (j := 0) (u := vr) (v := vt) (k := k) rfl rfl e1 e2) (by omega)
  have frr : ∀ k, k ∈ bks [vt, v'] → k ∈ bks [vt, vr] ∨ w.heap.size ≤ k := fun k hk => by
    obtain ⟨x, hx, hb⟩ := mem_bks.1 hk
    simp only [List.mem_cons, List.not_mem_nil, or_false] at hx
    rcases hx with rfl | rfl
    · exact .inl (mem_bks.2 ⟨_, n0 _ _, hb⟩)
    · rcases fr1 k hb with e | e
      · exact .inl (mem_bks.2 ⟨_, n1 _ _, e⟩)
      · exact .inr e
  have kp : Keep (fun k => k = X ∨ k ∈ bks [vt, vr]) w (w'.setCell ⟨X, 3, none⟩ v') :=
    ⟨r3.os, r3.tape, r3.output, by rw [hsz]; exact r3.size, fun k hk hne => (hset k (fun e => hne (.inl e))).trans (r3.old k hk (fun e => hne (.inr (mem_bks.2 ⟨_, n1 _ _, e⟩))))⟩
  obtain ⟨a, c, e, _, _⟩ := o1.shape
  have on : OwnM 1 (w'.setCell ⟨X, 3, none⟩ v') v' (Lr ++ [u1]).length (Lr ++ [u1]) := by rw [List.length_append]; exact (o1.kept (Nat.le_of_eq hsz.symm) (fun k hk => hset k (fun e => (hX' (by rw [← e]; exact hk)))))
  have oo := (h.ot.kept r3.size (fun k hk => r3.old k (h.ot.lt k hk) (fun e => ap1 k e hk))).kept (Nat.le_of_eq hsz.symm) (fun k hk => hset k (fun e => hXn (by rw [← e]; exact mem_bks.2 ⟨_, n0 _ _, hk⟩)))
  refine ⟨v', w', r1, ⟨a, _, c, e⟩, by rw [cell_of_row _ _ _ _ _ _ row1]; rfl, frozen_of_row _ _ _ _ _ row1, fun k hk hne => r3.old k hk (fun e => hne (mem_bks.2 ⟨_, n1 _ _, e⟩)), r3.size, ⟨?_, oo, on, h.XW, fun k hk => ?_, ?_⟩, ⟨kp, frr⟩⟩
  · rw [setCell_eq_setRow w' X 3 _ 34 (0, 0) v' row1, setRow_heap _ _ _ _ _ _ row1]; rfl
  · rcases frr k hk with e | e
    · exact h.ge k e
    · omega
  · refine nd_two (fun k e2 e1 => ?_)
    rcases fr1 k e1 with e | e
    · exact ap1 k e e2
    · have := h.ot.lt k e2; omega
end Msg
end Go.Proofs.YtmhgdcfmfcjagaaGreatDoor

namespace Go.Proofs.YtmhgdcfmfcjagaaGreatDoor
open Go.RowKit Cod
namespace Msg
def rpArr (y : Value) (x : Part) (uh ue up : Value) (t : Part) (th te tp : Value) : Array Value :=
  #[y, .int .i64 x.status, .int .i64 x.size, .int .i64 x.a, .int .i64 x.b, sv x.root, uh, ue, up, .int .i64 t.status, .int .i64 t.size, .int .i64 t.a, .int .i64 t.b, sv t.root, th, te, tp]
structure Pa (w : World) (base b c d : Nat) (v : Value) (s : LS) (x : Part) (uh ue up : Value) (t : Part) (th te tp : Value) : Prop where
  ly : Ly w base b c v s
  row : w.heap[d]? = some (.cells (rpArr (lay c) x uh ue up t th te tp) 114 (0, 0))
  dn : ¬ LSet b c v d
  ge : base ≤ d
  l1 : Lw base uh
  l2 : Lw base ue
  s1 : Slc w uh x.hs
  s2 : Slc w ue x.ent
  s3 : ∃ p q, up = .slice p x.n q
  t1 : ∃ p q, th = .slice p t.hs.length q
  t2 : ∃ p q, te = .slice p t.ent.length q
  t3 : ∃ p q, tp = .slice p t.n q
def GPost (w : World) (base b c d : Nat) (v : Value) (s : LS) (x : Part) (uh ue up : Value) (t : Part) (w' : World) : Prop :=
  ∃ v' th te tp, Pa w' base b c d v' s x uh ue up t th te tp ∧ Keep (QSet b c d v) w w' ∧ From w v v'
theorem Pa.lt {w : World} {base b c d : Nat} {v : Value} {s : LS} {x : Part} {uh ue up : Value} {t : Part} {th te tp : Value} (h : Pa w base b c d v s x uh ue up t th te tp) : d < w.heap.size := lt_of_heap h.row
theorem Pa.row2 {w w2 : World} {base b c d : Nat} {v : Value} {s s' : LS} {x : Part} {uh ue up : Value} {t : Part} {th te tp : Value} (h : Pa w base b c d v s x uh ue up t th te tp) (hl : Lo w base b c v s' w2) : w2.heap[d]? = some (.cells (rpArr (lay c) x uh ue up t th te tp) 114 (0, 0)) := by
  obtain ⟨v', h1, h2, h3⟩ := hl
  exact (h2.block d h.lt h.dn).trans h.row
theorem Pa.put {w w2 : World} {base b c d : Nat} {v : Value} {s s' : LS} {x : Part} {uh ue up : Value} {t : Part} {th te tp : Value} (h : Pa w base b c d v s x uh ue up t th te tp) (hl : Lo w base b c v s' w2)
    (o : Nat) (u : Value) (t' : Part) (th' te' tp' : Value) (hr : (rpArr (lay c) x uh ue up t th te tp).setIfInBounds o u = rpArr (lay c) x uh ue up t' th' te' tp')
    (t1 : ∃ p q, th' = .slice p t'.hs.length q) (t2 : ∃ p q, te' = .slice p t'.ent.length q) (t3 : ∃ p q, tp' = .slice p t'.n q) :
    GPost w base b c d v s' x uh ue up t' (w2.setCell ⟨d, o, none⟩ u) := by
  have hrow := h.row2 hl
  obtain ⟨v', h1, h2, h3⟩ := hl
  have hd := h.lt
  have hdn : ¬ LSet b c v' d := fun e => by
    rcases e with e | e | e
    · exact h.dn (.inl e)
    · exact h.dn (.inr (.inl e))
    · rcases h3 d e with g | g
      · exact h.dn (.inr (.inr g))
      · omega
  have k2 : Keep (fun k => k = d) w2 (w2.setCell ⟨d, o, none⟩ u) := Keep.ofBut ((But.refl d w2).setCell o u) rfl
  have kk : Keep (QSet b c d v) w (w2.setCell ⟨d, o, none⟩ u) := (h2.mono (T := QSet b c d v) fun _ _ e => .inr e).setCell d o u (.inl rfl)
  have bl : Below base w (w2.setCell ⟨d, o, none⟩ u) := kk.below h.ly.base fun k hk e => by
    rcases e with e | e
    · have := h.ge; omega
    · have := (h.ly.ge' k e).1; omega
  exact ⟨v', th', te', tp', ⟨h1.set k2 (fun k hk e => hdn (e ▸ hk)), row_set o u hrow hr, hdn, h.ge, h.l1, h.l2, h.l1.slc h.s1 bl, h.l2.slc h.s2 bl, h.s3, t1, t2, t3⟩, kk, h3⟩
structure PFit (x : Part) : Prop where
  k2 : -9223372036854775808 ≤ x.size ∧ x.size ≤ 9223372036854775807
  k3 : -9223372036854775808 ≤ x.a ∧ x.a ≤ 9223372036854775807
  hl : x.hs.length ≤ maxLen
  el : x.ent.length ≤ maxLen
set_option maxRecDepth 100000 in
set_option maxHeartbeats 2000000 in
theorem g_size {w : World} {base b c d : Nat} {v : Value} {s : LS} {x : Part} {uh ue up : Value} {t : Part} {th te tp : Value} (h : Pa w base b c d v s x uh ue up t th te tp) (hf : PFit x) (hm : Sm s 140600000000000) (da : LS → LS) :
    Calls Tryz.prog 117 #[.pointer (some ⟨d, 0, none⟩)] w fun e w' => e = .returned (.tuple #[]) ∧ GPost w base b c d v (lFr x da .size s) x uh ue up (setR x .size t) w' := by
  have c0 : w.cell? ⟨d, 0, none⟩ = some (lay c) := by rw [cell_of_row _ _ _ _ _ _ h.row]; rfl
  have c4 : w.cell? ⟨d, 2, none⟩ = some (.int .i64 x.size) := by rw [cell_of_row _ _ _ _ _ _ h.row]; rfl
  have i1 := laySize_any x.size hf.k2.1 hf.k2.2 w.drew h.ly.drew (hm.mono (by omega))
  rw [lay] at c0
  have mm := m_laying_size ⟨c, 0, none⟩
  have HQ := hid h
  clear h hf hm
  go_enter Tryz.func117, Tryz.ntmps117
  go_region_held3 (fun w' => w'.cell? ⟨d, 0, none⟩ = some (.iface 96 (.pointer (some ⟨c, 0, none⟩))) ∧ w'.cell? ⟨d, 2, none⟩ = some (.int .i64 x.size)) (first | exact ⟨c0, c4⟩ | exact S2 | exact S3) (first | (go_at_call 155; (with_reducible refine i1.mono ?_); rintro e w2 ⟨rfl, hl⟩; have hl := hl.drew; have hrow := HQ.out.row2 hl; have g0 : w2.frozen? ⟨d, 10, none⟩ = false := frozen_of_row _ _ _ _ _ hrow; have e0 : w2.cell? ⟨d, 10, none⟩ = some (.int .i64 t.size) := (by rw [cell_of_row _ _ _ _ _ _ hrow]; rfl); have S2 : w2.cell? ⟨d, 0, none⟩ = some (lay c) ∧ w2.cell? ⟨d, 2, none⟩ = some (.int .i64 x.size) := ⟨by rw [cell_of_row _ _ _ _ _ _ hrow]; rfl, by rw [cell_of_row _ _ _ _ _ _ hrow]; rfl⟩; have hrow3 := row_set 10 (.int .i64 x.size) hrow rfl; have S3 : (w2.setCell ⟨d, 10, none⟩ (.int .i64 x.size)).cell? ⟨d, 0, none⟩ = some (lay c) ∧ (w2.setCell ⟨d, 10, none⟩ (.int .i64 x.size)).cell? ⟨d, 2, none⟩ = some (.int .i64 x.size) := ⟨by rw [cell_of_row _ _ _ _ _ _ hrow3]; rfl, by rw [cell_of_row _ _ _ _ _ _ hrow3]; rfl⟩; rw [lay] at S2 S3; have HL := hid hl; clear hl hrow hrow3))
  go_end0
  exact ⟨rfl, HQ.out.put HL.out 10 _ _ _ _ _ rfl HQ.out.t1 HQ.out.t2 HQ.out.t3⟩
set_option maxRecDepth 100000 in
set_option maxHeartbeats 2000000 in
theorem g_a {w : World} {base b c d : Nat} {v : Value} {s : LS} {x : Part} {uh ue up : Value} {t : Part} {th te tp : Value} (h : Pa w base b c d v s x uh ue up t th te tp) (hf : PFit x) (hm : Sm s 140600000000000) (da : LS → LS) :
    Calls Tryz.prog 118 #[.pointer (some ⟨d, 0, none⟩)] w fun e w' => e = .returned (.tuple #[]) ∧ GPost w base b c d v (lFr x da .a s) x uh ue up (setR x .a t) w' := by
  have c0 : w.cell? ⟨d, 0, none⟩ = some (lay c) := by rw [cell_of_row _ _ _ _ _ _ h.row]; rfl
  have c4 : w.cell? ⟨d, 3, none⟩ = some (.int .i64 x.a) := by rw [cell_of_row _ _ _ _ _ _ h.row]; rfl
  have i1 := laySize_any x.a hf.k3.1 hf.k3.2 w.drew h.ly.drew (hm.mono (by omega))
  rw [lay] at c0
  have mm := m_laying_size ⟨c, 0, none⟩
  have HQ := hid h
  clear h hf hm
  go_enter Tryz.func118, Tryz.ntmps118
  go_region_held3 (fun w' => w'.cell? ⟨d, 0, none⟩ = some (.iface 96 (.pointer (some ⟨c, 0, none⟩))) ∧ w'.cell? ⟨d, 3, none⟩ = some (.int .i64 x.a)) (first | exact ⟨c0, c4⟩ | exact S2 | exact S3) (first | (go_at_call 155; (with_reducible refine i1.mono ?_); rintro e w2 ⟨rfl, hl⟩; have hl := hl.drew; have hrow := HQ.out.row2 hl; have g0 : w2.frozen? ⟨d, 11, none⟩ = false := frozen_of_row _ _ _ _ _ hrow; have e0 : w2.cell? ⟨d, 11, none⟩ = some (.int .i64 t.a) := (by rw [cell_of_row _ _ _ _ _ _ hrow]; rfl); have S2 : w2.cell? ⟨d, 0, none⟩ = some (lay c) ∧ w2.cell? ⟨d, 3, none⟩ = some (.int .i64 x.a) := ⟨by rw [cell_of_row _ _ _ _ _ _ hrow]; rfl, by rw [cell_of_row _ _ _ _ _ _ hrow]; rfl⟩; have hrow3 := row_set 11 (.int .i64 x.a) hrow rfl; have S3 : (w2.setCell ⟨d, 11, none⟩ (.int .i64 x.a)).cell? ⟨d, 0, none⟩ = some (lay c) ∧ (w2.setCell ⟨d, 11, none⟩ (.int .i64 x.a)).cell? ⟨d, 3, none⟩ = some (.int .i64 x.a) := ⟨by rw [cell_of_row _ _ _ _ _ _ hrow3]; rfl, by rw [cell_of_row _ _ _ _ _ _ hrow3]; rfl⟩; rw [lay] at S2 S3; have HL := hid hl; clear hl hrow hrow3))
  go_end0
  exact ⟨rfl, HQ.out.put HL.out 11 _ _ _ _ _ rfl HQ.out.t1 HQ.out.t2 HQ.out.t3⟩
set_option maxRecDepth 100000 in
set_option maxHeartbeats 2000000 in
theorem g_over {w : World} {base b c d : Nat} {v : Value} {s : LS} {x : Part} {uh ue up : Value} {t : Part} {th te tp : Value} (h : Pa w base b c d v s x uh ue up t th te tp) (_hf : PFit x) (hm : Sm s 140600000000000) (da : LS → LS) :
    Calls Tryz.prog 119 #[.pointer (some ⟨d, 0, none⟩)] w fun e w' => e = .returned (.tuple #[]) ∧ GPost w base b c d v (lFr x da .over s) x uh ue up (setR x .over t) w' := by
  have c0 : w.cell? ⟨d, 0, none⟩ = some (lay c) := by rw [cell_of_row _ _ _ _ _ _ h.row]; rfl
  have c4 : w.cell? ⟨d, 4, none⟩ = some (.int .i64 x.b) := by rw [cell_of_row _ _ _ _ _ _ h.row]; rfl
  have i1 := layMark_any x.b 0 1 w.drew h.ly.drew (hm.mono (by omega))
  obtain ⟨z, hz⟩ : ∃ z, Hid ((if wi x.b 0 1 = true then x.b else 0) = z) := ⟨_, rfl⟩
  rw [hz.out] at i1
  rw [lay] at c0
  have mm := m_laying_mark ⟨c, 0, none⟩
  have HQ := hid h
  clear h _hf hm
  go_enter Tryz.func119, Tryz.ntmps119
  go_region_held3 (fun w' => w'.cell? ⟨d, 0, none⟩ = some (.iface 96 (.pointer (some ⟨c, 0, none⟩))) ∧ w'.cell? ⟨d, 4, none⟩ = some (.int .i64 x.b)) (first | exact ⟨c0, c4⟩ | exact S2 | exact S3) (first | (go_at_call 152; (with_reducible refine i1.mono ?_); rintro e w2 ⟨rfl, hl⟩; have hl := hl.drew; have hrow := HQ.out.row2 hl; have g0 : w2.frozen? ⟨d, 12, none⟩ = false := frozen_of_row _ _ _ _ _ hrow; have e0 : w2.cell? ⟨d, 12, none⟩ = some (.int .i64 t.b) := (by rw [cell_of_row _ _ _ _ _ _ hrow]; rfl); have S2 : w2.cell? ⟨d, 0, none⟩ = some (lay c) ∧ w2.cell? ⟨d, 4, none⟩ = some (.int .i64 x.b) := ⟨by rw [cell_of_row _ _ _ _ _ _ hrow]; rfl, by rw [cell_of_row _ _ _ _ _ _ hrow]; rfl⟩; have hrow3 := row_set 12 (.int .i64 z) hrow rfl; have S3 : (w2.setCell ⟨d, 12, none⟩ (.int .i64 z)).cell? ⟨d, 0, none⟩ = some (lay c) ∧ (w2.setCell ⟨d, 12, none⟩ (.int .i64 z)).cell? ⟨d, 4, none⟩ = some (.int .i64 x.b) := ⟨by rw [cell_of_row _ _ _ _ _ _ hrow3]; rfl, by rw [cell_of_row _ _ _ _ _ _ hrow3]; rfl⟩; rw [lay] at S2 S3; have HL := hid hl; clear hl hrow hrow3))
  go_end0
  exact ⟨rfl, HQ.out.put HL.out 12 _ _ _ _ _ (by rw [setR, hz.out]; rfl) HQ.out.t1 HQ.out.t2 HQ.out.t3⟩
set_option maxRecDepth 100000 in
set_option maxHeartbeats 2000000 in
theorem g_root {w : World} {base b c d : Nat} {v : Value} {s : LS} {x : Part} {uh ue up : Value} {t : Part} {th te tp : Value} (h : Pa w base b c d v s x uh ue up t th te tp) (_hf : PFit x) (hm : Sm s 140600000000000) (da : LS → LS) :
    Calls Tryz.prog 121 #[.pointer (some ⟨d, 0, none⟩)] w fun e w' => e = .returned (.tuple #[]) ∧ GPost w base b c d v (lFr x da .root s) x uh ue up (setR x .root t) w' := by
  have c0 : w.cell? ⟨d, 0, none⟩ = some (lay c) := by rw [cell_of_row _ _ _ _ _ _ h.row]; rfl
  have c4 : w.cell? ⟨d, 5, none⟩ = some (.string ⟨x.root.toArray⟩) := by rw [cell_of_row _ _ _ _ _ _ h.row]; rfl
  have i1 := layRoot_any ⟨x.root.toArray⟩ w.drew h.ly.drew (hm.mono (by omega))
  rw [lay] at c0
  have mm := m_laying_root ⟨c, 0, none⟩
  have HQ := hid h
  clear h _hf hm
  go_enter Tryz.func121, Tryz.ntmps121
  go_region_held3 (fun w' => w'.cell? ⟨d, 0, none⟩ = some (.iface 96 (.pointer (some ⟨c, 0, none⟩))) ∧ w'.cell? ⟨d, 5, none⟩ = some (.string ⟨x.root.toArray⟩)) (first | exact ⟨c0, c4⟩ | exact S2 | exact S3) (first | (go_at_call 154; (with_reducible refine i1.mono ?_); rintro e w2 ⟨rfl, hl⟩; rw [sv_data] at hl; have hl := hl.drew; have hrow := HQ.out.row2 hl; have g0 : w2.frozen? ⟨d, 13, none⟩ = false := frozen_of_row _ _ _ _ _ hrow; have e0 : w2.cell? ⟨d, 13, none⟩ = some (sv t.root) := (by rw [cell_of_row _ _ _ _ _ _ hrow]; rfl); have S2 : w2.cell? ⟨d, 0, none⟩ = some (lay c) ∧ w2.cell? ⟨d, 5, none⟩ = some (.string ⟨x.root.toArray⟩) := ⟨by rw [cell_of_row _ _ _ _ _ _ hrow]; rfl, by rw [cell_of_row _ _ _ _ _ _ hrow]; rfl⟩; have hrow3 := row_set 13 (.string ⟨x.root.toArray⟩) hrow rfl; have S3 : (w2.setCell ⟨d, 13, none⟩ (.string ⟨x.root.toArray⟩)).cell? ⟨d, 0, none⟩ = some (lay c) ∧ (w2.setCell ⟨d, 13, none⟩ (.string ⟨x.root.toArray⟩)).cell? ⟨d, 5, none⟩ = some (.string ⟨x.root.toArray⟩) := ⟨by rw [cell_of_row _ _ _ _ _ _ hrow3]; rfl, by rw [cell_of_row _ _ _ _ _ _ hrow3]; rfl⟩; rw [lay] at S2 S3; have HL := hid hl; clear hl hrow hrow3))
  go_end0
  exact ⟨rfl, HQ.out.put HL.out 13 _ _ _ _ _ rfl HQ.out.t1 HQ.out.t2 HQ.out.t3⟩
set_option maxRecDepth 100000 in
set_option maxHeartbeats 2000000 in
theorem g_hashes {w : World} {base b c d : Nat} {v : Value} {s : LS} {x : Part} {uh ue up : Value} {t : Part} {th te tp : Value} (h : Pa w base b c d v s x uh ue up t th te tp) (hf : PFit x) (hm : Sm s 140600000000000) (da : LS → LS) :
    Calls Tryz.prog 123 #[.pointer (some ⟨d, 0, none⟩)] w fun e w' => e = .returned (.tuple #[]) ∧ GPost w base b c d v (lFr x da .hashes s) x uh ue up (setR x .hashes t) w' := by
  obtain ⟨p1, q1, rfl, _⟩ := id h.s1
  have c0 : w.cell? ⟨d, 0, none⟩ = some (lay c) := by rw [cell_of_row _ _ _ _ _ _ h.row]; rfl
  have c4 : w.cell? ⟨d, 6, none⟩ = some (.slice p1 x.hs.length q1) := by rw [cell_of_row _ _ _ _ _ _ h.row]; rfl
  have i1 := layHashes_all _ x.hs hf.hl w.drew (Slc.drew h.s1) h.l1 h.ly.drew (fun e0 bs e => by have := hm bs e; have := hashes_fit e0; omega)
  rw [lay] at c0
  have mm := m_laying_hashes ⟨c, 0, none⟩
  have HQ := hid h
  clear h hf hm
  go_enter Tryz.func123, Tryz.ntmps123
  go_region_held3 (fun w' => w'.cell? ⟨d, 0, none⟩ = some (.iface 96 (.pointer (some ⟨c, 0, none⟩))) ∧ w'.cell? ⟨d, 6, none⟩ = some (.slice p1 x.hs.length q1)) (first | exact ⟨c0, c4⟩ | exact S2 | exact S3) (first | (go_at_call 151; (with_reducible refine i1.mono ?_); rintro e w2 ⟨rfl, hl⟩; have hl := hl.drew; have hrow := HQ.out.row2 hl; have g0 : w2.frozen? ⟨d, 14, none⟩ = false := frozen_of_row _ _ _ _ _ hrow; have e0 : w2.cell? ⟨d, 14, none⟩ = some (th) := (by rw [cell_of_row _ _ _ _ _ _ hrow]; rfl); have S2 : w2.cell? ⟨d, 0, none⟩ = some (lay c) ∧ w2.cell? ⟨d, 6, none⟩ = some (.slice p1 x.hs.length q1) := ⟨by rw [cell_of_row _ _ _ _ _ _ hrow]; rfl, by rw [cell_of_row _ _ _ _ _ _ hrow]; rfl⟩; have hrow3 := row_set 14 (.slice p1 x.hs.length q1) hrow rfl; have S3 : (w2.setCell ⟨d, 14, none⟩ (.slice p1 x.hs.length q1)).cell? ⟨d, 0, none⟩ = some (lay c) ∧ (w2.setCell ⟨d, 14, none⟩ (.slice p1 x.hs.length q1)).cell? ⟨d, 6, none⟩ = some (.slice p1 x.hs.length q1) := ⟨by rw [cell_of_row _ _ _ _ _ _ hrow3]; rfl, by rw [cell_of_row _ _ _ _ _ _ hrow3]; rfl⟩; rw [lay] at S2 S3; have HL := hid hl; clear hl hrow hrow3))
  go_end0
  exact ⟨rfl, HQ.out.put HL.out 14 _ _ _ _ _ rfl ⟨_, _, rfl⟩ HQ.out.t2 HQ.out.t3⟩
set_option maxRecDepth 100000 in
set_option maxHeartbeats 2000000 in
theorem g_entries {w : World} {base b c d : Nat} {v : Value} {s : LS} {x : Part} {uh ue up : Value} {t : Part} {th te tp : Value} (h : Pa w base b c d v s x uh ue up t th te tp) (hf : PFit x) (hm : Sm s 140600000000000) (da : LS → LS) :
    Calls Tryz.prog 122 #[.pointer (some ⟨d, 0, none⟩)] w fun e w' => e = .returned (.tuple #[]) ∧ GPost w base b c d v (lFr x da .entries s) x uh ue up (setR x .entries t) w' := by
  obtain ⟨p1, q1, rfl, _⟩ := id h.s2
  have c0 : w.cell? ⟨d, 0, none⟩ = some (lay c) := by rw [cell_of_row _ _ _ _ _ _ h.row]; rfl
  have c4 : w.cell? ⟨d, 7, none⟩ = some (.slice p1 x.ent.length q1) := by rw [cell_of_row _ _ _ _ _ _ h.row]; rfl
  have i1 := layTexts_all _ x.ent 0 4096 1000 hf.el w.drew (Slc.drew h.s2) h.l2 h.ly.drew (fun e0 bs e => by have := hm bs e; have := texts_fit e0 (by omega) (by omega); omega)
  rw [lay] at c0
  have mm := m_laying_texts ⟨c, 0, none⟩
  have HQ := hid h
  clear h hf hm
  go_enter Tryz.func122, Tryz.ntmps122
  go_region_held3 (fun w' => w'.cell? ⟨d, 0, none⟩ = some (.iface 96 (.pointer (some ⟨c, 0, none⟩))) ∧ w'.cell? ⟨d, 7, none⟩ = some (.slice p1 x.ent.length q1)) (first | exact ⟨c0, c4⟩ | exact S2 | exact S3) (first | (go_at_call 157; (with_reducible refine i1.mono ?_); rintro e w2 ⟨rfl, hl⟩; have hl := hl.drew; have hrow := HQ.out.row2 hl; have g0 : w2.frozen? ⟨d, 15, none⟩ = false := frozen_of_row _ _ _ _ _ hrow; have e0 : w2.cell? ⟨d, 15, none⟩ = some (te) := (by rw [cell_of_row _ _ _ _ _ _ hrow]; rfl); have S2 : w2.cell? ⟨d, 0, none⟩ = some (lay c) ∧ w2.cell? ⟨d, 7, none⟩ = some (.slice p1 x.ent.length q1) := ⟨by rw [cell_of_row _ _ _ _ _ _ hrow]; rfl, by rw [cell_of_row _ _ _ _ _ _ hrow]; rfl⟩; have hrow3 := row_set 15 (.slice p1 x.ent.length q1) hrow rfl; have S3 : (w2.setCell ⟨d, 15, none⟩ (.slice p1 x.ent.length q1)).cell? ⟨d, 0, none⟩ = some (lay c) ∧ (w2.setCell ⟨d, 15, none⟩ (.slice p1 x.ent.length q1)).cell? ⟨d, 7, none⟩ = some (.slice p1 x.ent.length q1) := ⟨by rw [cell_of_row _ _ _ _ _ _ hrow3]; rfl, by rw [cell_of_row _ _ _ _ _ _ hrow3]; rfl⟩; rw [lay] at S2 S3; have HL := hid hl; clear hl hrow hrow3))
  go_end0
  exact ⟨rfl, HQ.out.put HL.out 15 _ _ _ _ _ rfl HQ.out.t1 ⟨_, _, rfl⟩ HQ.out.t3⟩
end Msg
end Go.Proofs.YtmhgdcfmfcjagaaGreatDoor
