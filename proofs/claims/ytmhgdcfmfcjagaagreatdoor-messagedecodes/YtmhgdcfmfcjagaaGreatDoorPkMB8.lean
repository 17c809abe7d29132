import Derived.Test.YtmhgdcfmfcjagaaGreatDoorPkME21
import Derived.Test.YtmhgdcfmfcjagaaGreatDoorPkMZ2
namespace Go.Proofs.YtmhgdcfmfcjagaaGreatDoor
open Go.RowKit Cod
namespace Msg

theorem fl_len (f : Kt → List Value) (b : Nat) : ∀ (T : List Kt), (∀ t ∈ T, (f t).length ≤ b) → (T.flatMap f).length ≤ T.length * b
  | [], _ => by simp
  | t :: T, h => by
    have a := h t List.mem_cons_self
    have c := fl_len f b T fun u hu => h u (List.mem_cons_of_mem _ hu)
    rw [List.flatMap_cons, List.length_append, List.length_cons, Nat.succ_mul]
    omega
theorem bl_mk {m : Nat} {w : World} {B : Nat} {T : List Kt} {X : Nat} {vi : Value} (h : Trs w B T) (f : Kt → List Value) (ho : OwnM 1 w vi (T.flatMap f).length (T.flatMap f))
    (hf : ∀ t ∈ T, (bks (f t)).Nodup ∧ (∀ k, k ∈ bks (f t) → t.lo ≤ k ∧ k < t.hi) ∧ (∀ v ∈ f t, ∃ n cs, n ≤ 1000000 ∧ OwnM m w v n cs) ∧ (f t).length ≤ 66) (hX : X < B)
    (hW : ∀ k, vi.ownBlock = some k → ∀ t ∈ T, t.hi ≤ k) (hl : T.length ≤ 4) : Bl m w X vi (T.flatMap f) := by
  refine ⟨ho, fun j v hj => ?_, fl_nd f T h.pw (fun t ht => ⟨(hf t ht).1, (hf t ht).2.1⟩), fun hk => ?_, fun k hk hm => ?_, ?_⟩
  · obtain ⟨t, ht, hv⟩ := List.mem_flatMap.1 (List.mem_of_getElem? hj)
    exact (hf t ht).2.2.1 v hv
  · obtain ⟨t, ht, hk⟩ := mem_fl hk
    have a := ((hf t ht).2.1 X hk).1
    have b := (h.el t ht).2.2.1
    omega
  · obtain ⟨t, ht, hm⟩ := mem_fl hm
    have a := ((hf t ht).2.1 k hm).2
    have b := hW k hk t ht
    omega
  · have := fl_len f 66 T (fun t ht => (hf t ht).2.2.2)
    omega
theorem Trs.bls {w : World} {B : Nat} {T : List Kt} {W X : Nat} {vi vt va : Value} (h : Trs w B T) (g : Bg w W X vi vt va (T.flatMap f1) (T.flatMap f2) (T.flatMap f3)) (hX : X < B) (hW : ∀ t ∈ T, t.hi ≤ W) (hl : T.length ≤ 4) :
    Bl 1 w X vi (T.flatMap f1) ∧ Bl 1 w X vt (T.flatMap f2) ∧ Bl 7 w X va (T.flatMap f3) := by
  refine ⟨bl_mk h f1 g.oi (fun t ht => ?_) hX (fun k hk t ht => Nat.le_trans (hW t ht) (g.ge k (mem_bks.2 ⟨vi, m0 _ _ _, hk⟩))) hl, bl_mk h f2 g.ot (fun t ht => ?_) hX (fun k hk t ht => Nat.le_trans (hW t ht) (g.ge k (mem_bks.2 ⟨vt, m1 _ _ _, hk⟩))) hl,
    bl_mk h f3 g.oa (fun t ht => ?_) hX (fun k hk t ht => Nat.le_trans (hW t ht) (g.ge k (mem_bks.2 ⟨va, m2 _ _ _, hk⟩))) hl⟩
  · obtain ⟨q, _⟩ := h.el t ht
    obtain ⟨⟨a1, _, _⟩, _, b1, _, _⟩ := q.apart
    refine ⟨a1, b1, fun v hv => ?_, by rw [f1, List.length_cons, List.length_map]; have := q.hE; omega⟩
    rcases List.mem_cons.1 hv with rfl | hv
    · exact q.o1
    · obtain ⟨y, hy, rfl⟩ := List.mem_map.1 hv
      exact (q.el y hy).1
  · obtain ⟨q, _⟩ := h.el t ht
    obtain ⟨⟨_, a1, _⟩, _, _, b1, _⟩ := q.apart
    refine ⟨a1, b1, fun v hv => ?_, by rw [f2, List.length_cons, List.length_map]; have := q.hE; omega⟩
    rcases List.mem_cons.1 hv with rfl | hv
    · exact q.o2
    · obtain ⟨y, hy, rfl⟩ := List.mem_map.1 hv
      exact (q.el y hy).2.1
  · obtain ⟨q, _⟩ := h.el t ht
    obtain ⟨⟨_, _, a1⟩, _, _, _, b1⟩ := q.apart
    refine ⟨a1, b1, fun v hv => ?_, by rw [f3, List.length_cons, List.length_map]; have := q.hE; omega⟩
    rcases List.mem_cons.1 hv with rfl | hv
    · exact ⟨_, _, by have := q.hE; omega, q.o3⟩
    · obtain ⟨y, hy, rfl⟩ := List.mem_map.1 hv
      rw [(q.el y hy).2.2]
      exact ⟨0, [], by omega, OwnM.nil 7 w⟩
theorem Trs.djs {w : World} {B : Nat} {T : List Kt} (h : Trs w B T) :
    (∀ k, k ∈ bks (T.flatMap f1) → k ∉ bks (T.flatMap f2)) ∧ (∀ k, k ∈ bks (T.flatMap f1) → k ∉ bks (T.flatMap f3)) ∧ (∀ k, k ∈ bks (T.flatMap f2) → k ∉ bks (T.flatMap f3)) ∧
      ∀ k, (k ∈ bks (T.flatMap f1) ∨ k ∈ bks (T.flatMap f2) ∨ k ∈ bks (T.flatMap f3)) → B ≤ k ∧ ∃ t ∈ T, k < t.hi := by
  refine ⟨fl_dj f1 f2 T h.pw fun t ht => ?_, fl_dj f1 f3 T h.pw fun t ht => ?_, fl_dj f2 f3 T h.pw fun t ht => ?_, fun k hk => ?_⟩
  · obtain ⟨_, ⟨a, _, _⟩, b, c, _⟩ := (h.el t ht).1.apart
    exact ⟨a, b, c⟩
  · obtain ⟨_, ⟨_, a, _⟩, b, _, c⟩ := (h.el t ht).1.apart
    exact ⟨a, b, c⟩
  · obtain ⟨_, ⟨_, _, a⟩, _, b, c⟩ := (h.el t ht).1.apart
    exact ⟨a, b, c⟩
  · have key : ∃ t ∈ T, t.lo ≤ k ∧ k < t.hi := by
      rcases hk with hk | hk | hk
      · obtain ⟨t, ht, hk⟩ := mem_fl hk
        exact ⟨t, ht, (h.el t ht).1.apart.2.2.1 k hk⟩
      · obtain ⟨t, ht, hk⟩ := mem_fl hk
        exact ⟨t, ht, (h.el t ht).1.apart.2.2.2.1 k hk⟩
      · obtain ⟨t, ht, hk⟩ := mem_fl hk
        exact ⟨t, ht, (h.el t ht).1.apart.2.2.2.2 k hk⟩
    obtain ⟨t, ht, a, b⟩ := key
    exact ⟨Nat.le_trans (h.el t ht).2.2.1 a, t, ht, b⟩
set_option maxRecDepth 100000 in
set_option maxHeartbeats 2000000 in
theorem owned17_any {w : World} {B : Nat} {T : List Kt} {W X : Nat} {vi vt va : Value} (h : Trs w B T) (g : Bg w W X vi vt va (T.flatMap f1) (T.flatMap f2) (T.flatMap f3)) (hX : X < B) (hB : B ≤ w.heap.size) (hW : ∀ t ∈ T, t.hi ≤ W) (hl : T.length ≤ 4) :
    Calls Tryz.prog 22 #[.pointer (some ⟨X, 0, none⟩)] w fun e w' => e = .returned (.bool true) ∧ Below B w w' := by
  obtain ⟨L1, L2, L3⟩ := h.bls g hX hW hl
  obtain ⟨d1, d2, d3, d4⟩ := h.djs
  have i1 := numbers17_any g.row L1
  have nb : ∀ v, v ∈ [vi, vt, va] → ∀ k, v.ownBlock = some k → ¬ (k ∈ bks (T.flatMap f1) ∨ k ∈ bks (T.flatMap f2) ∨ k ∈ bks (T.flatMap f3)) := fun v hv k hk e => by
    have a := g.ge k (mem_bks.2 ⟨v, hv, hk⟩)
    obtain ⟨_, t, ht, b⟩ := d4 k e
    have := hW t ht
    omega
  have nX : ¬ (X ∈ bks (T.flatMap f1) ∨ X ∈ bks (T.flatMap f2) ∨ X ∈ bks (T.flatMap f3)) := fun e => by have := (d4 X e).1; omega
  have hXl := lt_of_heap g.row
  have I2 : Hid (∀ w1, Keep (fun k => k ∈ bks (T.flatMap f1)) w w1 → Calls Tryz.prog 54 #[.pointer (some ⟨X, 0, none⟩)] w1 fun e w' => e = .returned (.bool true) ∧ Keep (fun k => k ∈ bks (T.flatMap f2)) w1 w') := fun w1 k1 =>
    words17_any ((k1.block X hXl (fun e => nX (.inl e))).trans g.row) (L2.keep k1 (fun k hk e => nb vt (m1 _ _ _) k hk (.inl e)) (fun k hk e => d1 k e hk))
  have I3 : Hid (∀ w1 w2, Keep (fun k => k ∈ bks (T.flatMap f1)) w w1 → Keep (fun k => k ∈ bks (T.flatMap f2)) w1 w2 → Calls Tryz.prog 55 #[.pointer (some ⟨X, 0, none⟩)] w2 fun e w' => e = .returned (.bool true) ∧ Keep (fun k => k ∈ bks (T.flatMap f3)) w2 w') := fun w1 w2 k1 k2 =>
    outerA17_any ((k2.block X (Nat.lt_of_lt_of_le hXl k1.size) (fun e => nX (.inr (.inl e)))).trans ((k1.block X hXl (fun e => nX (.inl e))).trans g.row)) ((L3.keep k1 (fun k hk e => nb va (m2 _ _ _) k hk (.inl e)) (fun k hk e => d2 k e hk)).keep k2 (fun k hk e => nb va (m2 _ _ _) k hk (.inr (.inl e))) (fun k hk e => d3 k e hk)) ⟨none, 0, rfl⟩
  have BB : Hid (∀ w1 w2 w3, Keep (fun k => k ∈ bks (T.flatMap f1)) w w1 → Keep (fun k => k ∈ bks (T.flatMap f2)) w1 w2 → Keep (fun k => k ∈ bks (T.flatMap f3)) w2 w3 → Below B w w3) := fun w1 w2 w3 k1 k2 k3 =>
    ((k1.below hB (fun k hk e => by have := (d4 k (.inl e)).1; omega)).trans (k2.below (Nat.le_trans hB k1.size) (fun k hk e => by have := (d4 k (.inr (.inl e))).1; omega))).trans (k3.below (Nat.le_trans hB (Nat.le_trans k1.size k2.size)) (fun k hk e => by have := (d4 k (.inr (.inr e))).1; omega))
  clear L1 L2 L3 d1 d2 d3 d4 nb nX hXl h g hW hl hX hB
  go_enter Tryz.func22, Tryz.ntmps22
  go_wp2_with (first
    | (go_at_call 53; refine i1.mono ?_; rintro e w1 ⟨rfl, k1⟩; have K1 := hid k1; have i2 := I2.out w1 k1; clear k1)
    | (go_at_call 54; refine i2.mono ?_; rintro e w2 ⟨rfl, k2⟩; have K2 := hid k2; have i3 := I3.out w1 w2 K1.out k2; clear k2)
    | (go_at_call 55; refine i3.mono ?_; rintro e w3 ⟨rfl, k3⟩; have K3 := hid (BB.out w1 w2 w3 K1.out K2.out k3); clear k3))
  go_ret
  exact ⟨rfl, K3.out⟩
end Msg
end Go.Proofs.YtmhgdcfmfcjagaaGreatDoor

namespace Go.Proofs.YtmhgdcfmfcjagaaGreatDoor
open Go.RowKit Cod
namespace Msg

theorem owd_got {w w' : World} {x : Ask} {ul ue ua r z : Value} (h : Owd w w' (.returned (.tuple #[akV x ul ue ua, r, z]))) : ∃ x' l', RaO w' w.heap.size (x', l') ul ue ua := by
  obtain ⟨x', l', ul', ue', ua', rest, er, e, ra⟩ := h
  simp only [akV, Ending.returned.injEq, Value.tuple.injEq, Array.mk.injEq, List.cons.injEq, Value.agg.injEq, and_true] at e
  obtain ⟨⟨_, _, _, _, rfl, rfl, rfl⟩, _, _⟩ := e
  exact ⟨x', l', ra⟩
/-- what stands while texts are asked for: the list of what was told, and the texts -/
structure Lc (w0 w : World) (X A : Nat) (S : List ByteArray) (B : Nat) (vl : Value) (T : List Kt) : Prop where
  bl : Below w0.heap.size w0 w
  ask : ∀ j b, S[j]? = some b → w.cell? ⟨A, j, none⟩ = some (.string b)
  trs : Trs w B T
  own : OwnM 7 w vl T.length (emcs (T.map (·.m)))
  vb : ∀ k, vl.ownBlock = some k → B ≤ k ∧ ∀ t ∈ T, ¬ (t.lo ≤ k ∧ k < t.hi)
  eq : ∀ (j : Nat) t, T[j]? = some t → ∃ b, S[j]? = some b ∧ (t.x, t.l) = dQ b.data.toList
  hX : X < B
  hA : A < X
  hB : B ≤ w.heap.size
  h0 : w0.heap.size ≤ A
theorem Lc.up {w0 w w' : World} {X A : Nat} {S : List ByteArray} {B : Nat} {vl : Value} {T : List Kt} (h : Lc w0 w X A S B vl T) (hb : Below w.heap.size w w') : Lc w0 w' X A S B vl T :=
  ⟨h.bl.trans (hb.mono h.bl.size), fun j b hj => (hb.cell (p := ⟨A, j, none⟩) (by show A < _; have := h.hA; have := h.hX; have := h.hB; omega)).trans (h.ask j b hj), h.trs.below hb, h.own.below hb, h.vb, h.eq, h.hX, h.hA, Nat.le_trans h.hB hb.size, h.h0⟩
theorem Lc.nil {w0 w : World} {X A : Nat} {S : List ByteArray} {B : Nat} (hb : Below w0.heap.size w0 w) (ask : ∀ j b, S[j]? = some b → w.cell? ⟨A, j, none⟩ = some (.string b)) (hX : X < B) (hA : A < X) (hB : B ≤ w.heap.size) (h0 : w0.heap.size ≤ A) : Lc w0 w X A S B (.slice none 0 0) [] :=
  ⟨hb, ask, Trs.nil w B, OwnM.nil 7 w, fun k hk => (by cases hk), fun j t hj => (by simp at hj), hX, hA, hB, h0⟩
/-- one more is told, and kept -/
theorem Lc.push {w0 w w5 : World} {X A : Nat} {S : List ByteArray} {B : Nat} {vl : Value} {T : List Kt} (h : Lc w0 w X A S B vl T) (hb : Below w.heap.size w w5) (t : Kt) (ht : Kq w5 t.lo t.hi t.x t.l t.m t.E) (hq : QOk t.x t.l) (h1 : w.heap.size ≤ t.lo) (h2 : t.hi ≤ w5.heap.size)
    {b : ByteArray} (hj : S[T.length]? = some b) (he : (t.x, t.l) = dQ b.data.toList) (hT : T.length ≤ 1000) :
    ∃ v' w', (Builtin.append_ #[24, 24] 24 #[vl, .slice (some ⟨w5.heap.size, 0, none⟩) 1 1]).run Tryz.prog (w5.alloc (.cells #[.int .i64 t.x.kind, .int .i64 t.x.a, .int .i64 t.x.b, .int .i64 t.x.size, t.m.l, t.m.e, t.m.a] 26)) = .ok v' w' ∧
      Lc w0 w' X A S B v' (T ++ [t]) ∧ Grow w5 w' vl v' := by
  obtain ⟨p1, q1, e1, _⟩ := id ht.s1
  obtain ⟨p2, q2, e2, _⟩ := id ht.s2
  obtain ⟨p3, q3, e3⟩ := id ht.asq.shape
  have h5 := h.up hb
  have t5 := h.trs.push hb t ht hq h1 h2 h.hB
  obtain ⟨v', w', r1, r2, r3⟩ := append_oneM 24 26 (.agg #[.int .i64 0, .int .i64 0, .int .i64 0, .int .i64 0, .slice none 0 0, .slice none 0 0, .slice none 0 0]) 104 (by omega) (by kernel_rfl) infoRq rfl w5 vl T.length (emcs (T.map (·.m))) (emc t.m) rfl (fun u hu => by
    simp only [emc, List.mem_cons, List.not_mem_nil, or_false] at hu
    rcases hu with rfl | rfl | rfl | rfl | rfl | rfl | rfl
    · rfl
    · rfl
    · rfl
    · rfl
    · rw [e1]; rfl
    · rw [e2]; rfl
    · rw [e3]; rfl) h5.own (by omega)
  have hX := h.hX
  have hA := h.hA
  have hB := h5.hB
  have h00 := h.h0
  refine ⟨v', w', by rw [emc, ht.mx] at r1; exact r1, ⟨?_, fun j b hj => ?_, t5.keep r3.keepG (fun u hu k a c e => ?_), ?_, fun k hk => ?_, fun j u hu => ?_, hX, hA, Nat.le_trans hB r3.size, h00⟩, r3⟩
  · refine h5.bl.trans ?_
    exact r3.keepG.below h5.bl.size (fun k hk e => by have := (h.vb k e).1; omega)
  · rw [World.cell?_of_block (w := w5) (a := ⟨A, j, none⟩) (r3.old A (by omega) (fun e => by have := (h.vb A e).1; omega))]
    exact h5.ask j b hj
  · have e : vl.ownBlock = some k := e
    rcases List.mem_append.1 hu with hu | hu
    · exact (h.vb k e).2 u hu ⟨a, c⟩
    · rw [List.mem_singleton.1 hu] at a
      have := h.own.lt k e
      omega
  · rw [List.length_append, List.map_append, List.map_cons, List.map_nil, emcs_snoc]
    exact r2
  · rcases r3.alt with g | ⟨g, _⟩
    · rw [g] at hk
      refine ⟨(h.vb k hk).1, fun u hu hc => ?_⟩
      rcases List.mem_append.1 hu with hu | hu
      · exact (h.vb k hk).2 u hu hc
      · rw [List.mem_singleton.1 hu] at hc
        have := h.own.lt k hk
        omega
    · have := g k hk
      refine ⟨by omega, fun u hu hc => ?_⟩
      have := (t5.el u hu).2.2.2
      omega
  · rw [List.getElem?_append] at hu
    split at hu
    · exact h.eq j u hu
    · next hlt =>
      obtain rfl : j = T.length := by
        have := (List.getElem?_eq_some_iff.1 hu).1
        simp at this
        omega
      rw [Nat.sub_self] at hu
      obtain rfl : t = u := Option.some.inj hu
      exact ⟨b, hj, he⟩
/-- and while they are gathered -/
structure Lg (w0 w : World) (W X A : Nat) (S : List ByteArray) (B : Nat) (vl : Value) (T : List Kt) (p : Nat) (vi vt va : Value) : Prop where
  c : Lc w0 w X A S B vl T
  g : Bg w W X vi vt va ((T.take p).flatMap f1) ((T.take p).flatMap f2) ((T.take p).flatMap f3)
  BW : B ≤ W
  hW : W ≤ w.heap.size
  hi : ∀ t ∈ T, t.hi ≤ W
  vW : ∀ k, vl.ownBlock = some k → k < W
theorem Lg.up {w0 w w' : World} {W X A : Nat} {S : List ByteArray} {B : Nat} {vl : Value} {T : List Kt} {p : Nat} {vi vt va : Value} (h : Lg w0 w W X A S B vl T p vi vt va) (hb : Below w.heap.size w w') : Lg w0 w' W X A S B vl T p vi vt va :=
  ⟨h.c.up hb, h.g.below hb, h.BW, Nat.le_trans h.hW hb.size, h.hi, h.vW⟩
theorem Lg.start {w0 w : World} {X A : Nat} {S : List ByteArray} {B : Nat} {vl : Value} {T : List Kt} (h : Lc w0 w X A S B vl T) (row : w.heap[X]? = some (.cells #[.slice none 0 0, .slice none 0 0, .slice none 0 0, .slice none 0 0] 34 (0, 0))) :
    Lg w0 w w.heap.size X A S B vl T 0 (.slice none 0 0) (.slice none 0 0) (.slice none 0 0) :=
  ⟨h, ⟨row, OwnM.nil 1 w, OwnM.nil 1 w, OwnM.nil 1 w, lt_of_heap row, fun k hk => (by cases hk), (List.nodup_nil : ([] : List Nat).Nodup)⟩, h.hB, Nat.le_refl _, fun t ht => (h.trs.el t ht).2.2.2, fun k hk => h.own.lt k hk⟩
/-- one more is gathered -/
theorem Lg.next {w0 w : World} {W X A : Nat} {S : List ByteArray} {B : Nat} {vl : Value} {T : List Kt} {p : Nat} {vi vt va : Value} (h : Lg w0 w W X A S B vl T p vi vt va) (hT : T.length ≤ 4) {t : Kt} (ht : T[p]? = some t) :
    Calls Tryz.prog 21 #[.pointer (some ⟨X, 0, none⟩), akV t.x t.m.l t.m.e t.m.a] w fun e w' => e = .returned (.tuple #[]) ∧ ∃ vi' vt' va', Lg w0 w' W X A S B vl T (p + 1) vi' vt' va' := by
  have hm := List.mem_of_getElem? ht
  obtain ⟨q, hq, hlo, hhi⟩ := h.c.trs.el t hm
  have hX := h.c.hX
  have hA := h.c.hA
  have h00 := h.c.h0
  have hBW := h.BW
  obtain ⟨p1, q1, e1, _⟩ := id q.s1
  obtain ⟨p2, q2, e2, _⟩ := id q.s2
  have l1 : ∀ f : Kt → List Value, (∀ u ∈ T, (f u).length ≤ 66) → ((T.take p).flatMap f).length ≤ 800 := fun f hf => by
    have a := fl_len f 66 (T.take p) (fun u hu => hf u (List.mem_of_mem_take hu))
    have b : (T.take p).length ≤ 4 := by rw [List.length_take]; omega
    omega
  have i1 := gather_any h.g h.hW ⟨l1 f1 fun u hu => (by rw [f1, List.length_cons, List.length_map]; have := (h.c.trs.el u hu).1.hE; omega), l1 f2 fun u hu => (by rw [f2, List.length_cons, List.length_map]; have := (h.c.trs.el u hu).1.hE; omega), l1 f3 fun u hu => (by rw [f3, List.length_cons, List.length_map]; have := (h.c.trs.el u hu).1.hE; omega)⟩
    t.x t.m.l t.m.e t.m.a ⟨_, _, _, e1⟩ ⟨_, _, _, e2⟩ t.E q.o3 (fun k hk => by
      have a := q.inn k (mem_bks.2 ⟨_, by simp, hk⟩)
      have b := h.hi t hm
      exact ⟨by omega, by omega⟩) (by have := q.hE; omega) (fun y hy => by
      obtain ⟨⟨n, cs, _, a⟩, ⟨n', cs', _, b⟩, c⟩ := q.el y hy
      obtain ⟨x1, x2, x3, _⟩ := a.shape
      obtain ⟨y1, y2, y3, _⟩ := b.shape
      exact ⟨⟨_, _, _, x3⟩, ⟨_, _, _, y3⟩, c⟩)
  refine i1.mono ?_
  rintro e w' ⟨rfl, vi', vt', va', g', G⟩
  have nk : ∀ k, (k = X ∨ k ∈ bks [vi, vt, va]) → k = X ∨ W ≤ k := fun k e => by
    rcases e with e | e
    · exact .inl e
    · exact .inr (h.g.ge k e)
  refine ⟨rfl, vi', vt', va', ⟨⟨?_, fun j b hj => ?_, h.c.trs.keep G.kp (fun u hu k a c e => ?_), h.c.own.keep G.kp (fun k hk e => ?_), h.c.vb, h.c.eq, hX, hA, Nat.le_trans h.c.hB G.kp.size, h00⟩, ?_, hBW, Nat.le_trans h.hW G.kp.size, h.hi, h.vW⟩⟩
  · refine h.c.bl.trans (G.kp.below h.c.bl.size (fun k hk e => ?_))
    rcases nk k e with e | e <;> omega
  · rw [World.cell?_of_block (w := w) (a := ⟨A, j, none⟩) (G.kp.block A (by have := h.hW; omega) (fun e => by rcases nk A e with e | e <;> omega))]
    exact h.c.ask j b hj
  · have a1 := (h.c.trs.el u hu).2.2.1
    have a2 := h.hi u hu
    rcases nk k e with e | e <;> omega
  · have a1 := (h.c.vb k hk).1
    have a2 := h.vW k hk
    rcases nk k e with e | e <;> omega
  · have ex : ∀ f : Kt → List Value, (T.take (p + 1)).flatMap f = (T.take p).flatMap f ++ f t := fun f => by
      rw [List.take_add_one, ht]
      simp
    rw [ex, ex, ex]
    exact g'
end Msg
end Go.Proofs.YtmhgdcfmfcjagaaGreatDoor
