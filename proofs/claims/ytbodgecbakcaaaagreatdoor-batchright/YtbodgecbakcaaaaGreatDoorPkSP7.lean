import Derived.Test.YtbodgecbakcaaaaGreatDoorPkFS1
import Derived.Test.YtbodgecbakcaaaaGreatDoorPkRX1
import Derived.Deep.RegionHeld3
namespace Go.Proofs.YtbodgecbakcaaaaGreatDoor
open Go.RowKit Go.Shelf
def Tnd (L M : List (Nat × Nat)) (i : Nat) : Prop := M.length = L.length ∧ ∀ k, k < L.length → M[k]? = if k < i ∨ L.length ≤ k + i then L[L.length - 1 - k]? else L[k]?
theorem Tnd.start (L : List (Nat × Nat)) : Tnd L L 0 := ⟨rfl, fun k hk => by rw [if_neg (by omega)]⟩
theorem Tnd.done {L M : List (Nat × Nat)} {i : Nat} (h : Tnd L M i) (hi : L.length ≤ 2 * i + 1) : M = L.reverse := by
  refine List.ext_getElem? fun k => ?_
  by_cases hk : k < L.length
  · rw [h.2 k hk, List.getElem?_reverse hk]
    by_cases h2 : k < i ∨ L.length ≤ k + i
    · rw [if_pos h2]
    · rw [if_neg h2, show L.length - 1 - k = k by omega]
  · rw [List.getElem?_eq_none (by rw [h.1]; omega), List.getElem?_eq_none (by rw [List.length_reverse]; omega)]
theorem Tnd.step {L M : List (Nat × Nat)} {i : Nat} (h : Tnd L M i) (hi : 2 * i + 1 < L.length) {p q : Nat × Nat} (hp : M[i]? = some p) (hq : M[L.length - 1 - i]? = some q) : Tnd L ((M.set i q).set (L.length - 1 - i) p) (i + 1) := by
  have h1 := h.2 i (by omega)
  have h2 := h.2 (L.length - 1 - i) (by omega)
  rw [if_neg (by omega), hp] at h1
  rw [if_neg (by omega), hq] at h2
  refine ⟨by rw [List.length_set, List.length_set, h.1], fun k hk => ?_⟩
  by_cases e1 : k = L.length - 1 - i
  · rw [if_pos (by omega), e1, List.getElem?_set_self (by rw [List.length_set, h.1]; omega), h1, show L.length - 1 - (L.length - 1 - i) = i by omega]
  · rw [List.getElem?_set_ne (by omega)]
    by_cases e2 : k = i
    · rw [if_pos (by omega), e2, List.getElem?_set_self (by rw [h.1]; omega), h2]
    · rw [List.getElem?_set_ne (by omega), h.2 k hk]
      by_cases e3 : k < i ∨ L.length ≤ k + i
      · rw [if_pos e3, if_pos (by omega)]
      · rw [if_neg e3, if_neg (by omega)]
theorem prs_set : ∀ (l : List (Nat × Nat)) (j : Nat) (x y : Nat), prs (l.set j (x, y)) = ((prs l).set (j * 2) (.int .i64 (x : Int))).set (j * 2 + 1) (.int .i64 (y : Int))
  | [], j, x, y => by simp [prs]
  | a :: l, 0, x, y => rfl
  | a :: l, j + 1, x, y => by
    have ih := prs_set l j x y
    rw [show (j + 1) * 2 = j * 2 + 1 + 1 from by omega]
    show _ :: _ :: prs (l.set j (x, y)) = _
    rw [ih]; rfl
theorem OwnM.setC {w : World} {g n c m : Nat} {cs : List Value} (h : OwnM m w (.slice (some ⟨g, 0, none⟩) n c) n cs) (j : Nat) (v : Value) (hj : j < cs.length) : OwnM m (w.setCell ⟨g, j, none⟩ v) (.slice (some ⟨g, 0, none⟩) n c) n (cs.set j v) := by
  rcases h with ⟨h, _⟩ | ⟨g', cap', h, h2, h3, h0, h4, h5, h6⟩
  · cases h
  · injection h with e1 e2 e3
    injection e1 with e1
    injection e1 with e1
    subst e1 e3
    refine .inr ⟨g, c, rfl, h2, h3, by rw [List.length_set]; exact h0, fun k u hk => ?_, fun k hk => ?_, by rw [show (w.setCell ⟨g, j, none⟩ v).heap.size = w.heap.size from by simp [World.setCell]]; exact h6⟩
    · rw [Nat.zero_add]
      by_cases e : k = j
      · subst e
        rw [List.getElem?_set_self hj] at hk
        injection hk with hk
        subst hk
        have := h4 k (cs[k]'hj) (by simp)
        rw [Nat.zero_add] at this
        exact World.cell?_setCell_same' _ _ _ (by rw [this]; rfl)
      · rw [List.getElem?_set_ne (by omega)] at hk
        have := h4 k u hk
        rw [Nat.zero_add] at this
        rw [World.cell?_setCell_other w _ _ _ (fun q => e (by injection q with _ q; exact q.symm))]
        exact this
    · have := h5 k hk
      refine ⟨?_, ?_⟩
      · by_cases e : 0 + k = j
        · rw [e] at this ⊢
          rw [World.cell?_setCell_same' w ⟨g, j, none⟩ v this.1]; rfl
        · rw [World.cell?_setCell_other w _ _ _ (fun q => e (by injection q with _ q; exact q.symm))]
          exact this.1
      · rw [World.frozen?_setCell]; exact this.2
end Go.Proofs.YtbodgecbakcaaaaGreatDoor

namespace Go.Proofs.YtbodgecbakcaaaaGreatDoor
open Go.RowKit Go.Shelf
theorem getD_of {l : List (Nat × Nat)} {k : Nat} (h : k < l.length) : ∃ x y, l[k]? = some (x, y) := ⟨(l[k]'h).1, (l[k]'h).2, by rw [List.getElem?_eq_getElem h]⟩
set_option maxRecDepth 100000 in
set_option maxHeartbeats 8000000 in
theorem rev_any (L : List (Nat × Nat)) (v : Value) (w : World) (h : OwnP w v L) (hl : L.length ≤ 1099511627776) :
    Calls Tryz.prog 78 #[v] w fun r w' => r = .returned (.tuple #[]) ∧ OwnP w' v L.reverse ∧ Keep (fun k => v.ownBlock = some k) w w' := by
  obtain ⟨a, c, rfl, hc1, hc2⟩ := h.shape
  obtain ⟨n, hn⟩ : ∃ n, Hid (L.length = n) := ⟨_, rfl⟩
  rw [hn.out] at hc1 hl
  have hO := hid h
  unfold Hid OwnP at hO
  rw [hn.out] at hO ⊢
  have hO : Hid (OwnM 2 w (.slice a n c) n (prs L)) := hO
  clear h
  go_enter Tryz.func78, Tryz.ntmps78
  go_wp2
  go_loopw [2, 3] (fun vi vj wr => ∃ (i : Nat) (M : List (Nat × Nat)), vi = .int .i64 (i : Int) ∧ vj = .int .i64 ((n : Int) - 1 - (i : Int)) ∧ (i : Int) ≤ (n : Int) ∧ Hid (Tnd L M i) ∧ Hid (OwnM 2 wr (.slice a n c) n (prs M)) ∧ Hid (Keep (fun k => (Value.slice a n c).ownBlock = some k) w wr)) (fun vi _ _ => n - (intOf vi).toNat)
  case atStart =>
    exact ⟨0, L, rfl, by go_num, by omega, Tnd.start L, hO, Keep.refl _ _⟩
  case round =>
    clear hO
    obtain ⟨i, M, rfl, rfl, hi, hT, hO, hK⟩ := hrel
    by_cases hij : (i : Int) < (n : Int) - 1 - (i : Int)
    · have hT1 := hT.out.1
      rw [hn.out] at hT1
      obtain ⟨j, hj⟩ : ∃ j : Nat, (n : Int) - 1 - (i : Int) = (j : Int) := ⟨n - 1 - i, by omega⟩
      rw [hj] at hij ⊢
      obtain ⟨p1, p2, hp⟩ := getD_of (l := M) (k := i) (by omega)
      obtain ⟨q1, q2, hq⟩ := getD_of (l := M) (k := j) (by omega)
      obtain ⟨g, c', e1, ci0, _⟩ := hO.out.cell (prs_get hp).1
      injection e1 with e1 _ e3
      subst e1 e3
      have cellOf : ∀ {k : Nat} {u : Value}, (prs M)[k]? = some u → wr.cell? ⟨g, k, none⟩ = some u ∧ wr.frozen? ⟨g, k, none⟩ = false := fun {k u} hk => by
        rcases hO.out with ⟨h, _⟩ | ⟨g', cap', h, h2, h3, h0, h4, h5, h6⟩
        · cases h
        · injection h with e1 e2 e3
          injection e1 with e1
          injection e1 with e1
          subst e1 e3
          have a1 := h4 k u hk
          have a2 := h5 k (by have := (List.getElem?_eq_some_iff.1 hk).1; omega)
          rw [Nat.zero_add] at a1 a2
          exact ⟨a1, a2.2⟩
      have x0 := (cellOf (prs_get hp).1).1
      have x1 := (cellOf (prs_get hp).2).1
      have y0 := (cellOf (prs_get hq).1).1
      have y1 := (cellOf (prs_get hq).2).1
      have fx0 := (cellOf (prs_get hp).1).2
      have fx1 := (cellOf (prs_get hp).2).2
      have fy0 := (cellOf (prs_get hq).1).2
      have fy1 := (cellOf (prs_get hq).2).2
      have x0d : wr.drew.cell? ⟨g, i * 2, none⟩ = _ := x0
      have x1d : wr.drew.cell? ⟨g, i * 2 + 1, none⟩ = _ := x1
      have y0d : wr.drew.cell? ⟨g, j * 2, none⟩ = _ := y0
      have y1d : wr.drew.cell? ⟨g, j * 2 + 1, none⟩ = _ := y1
      have i0 : (0 : Int) ≤ (i : Int) := by omega
      have i1 : (i : Int) < (n : Int) := by omega
      have j0 : (0 : Int) ≤ (j : Int) := by omega
      have j1 : (j : Int) < (n : Int) := by omega
      have nij : ¬ i = j := by omega
      have nji : ¬ j = i := by omega
      clear cellOf hT1
      go_wp2
      go_region
      have O2 : Hid (OwnM 2 (((((wr.setCell ⟨g, i * 2, none⟩ (.int .i64 (q1 : Int))).setCell ⟨g, i * 2 + 1, none⟩ (.int .i64 (q2 : Int))).setCell ⟨g, j * 2, none⟩ (.int .i64 (p1 : Int))).setCell ⟨g, j * 2 + 1, none⟩ (.int .i64 (p2 : Int))).drew) (.slice (some ⟨g, 0, none⟩) n c) n (prs ((M.set i (q1, q2)).set j (p1, p2)))) := by
        have hpl : (prs M).length = n * 2 := by have := hO.out.len; exact this
        unfold Hid
        rw [prs_set, prs_set]
        exact ((((hO.out.setC (i * 2) _ (by omega)).setC (i * 2 + 1) _ (by rw [List.length_set]; omega)).setC (j * 2) _ (by rw [List.length_set, List.length_set]; omega)).setC (j * 2 + 1) _ (by rw [List.length_set, List.length_set, List.length_set]; omega))
      have K2 : Hid (Keep (fun k => (Value.slice (some ⟨g, 0, none⟩) n c).ownBlock = some k) w (((((wr.setCell ⟨g, i * 2, none⟩ (.int .i64 (q1 : Int))).setCell ⟨g, i * 2 + 1, none⟩ (.int .i64 (q2 : Int))).setCell ⟨g, j * 2, none⟩ (.int .i64 (p1 : Int))).setCell ⟨g, j * 2 + 1, none⟩ (.int .i64 (p2 : Int))).drew)) := by
        have k1 : ∀ (W : World) (o : Nat) (u : Value), Keep (fun k => (Value.slice (some ⟨g, 0, none⟩) n c).ownBlock = some k) W (W.setCell ⟨g, o, none⟩ u) := fun W o u => Keep.ofSet W g o u rfl
        have k2 := (((hK.out.trans (k1 _ (i * 2) (.int .i64 (q1 : Int))) fun _ _ h => h).trans (k1 _ (i * 2 + 1) (.int .i64 (q2 : Int))) fun _ _ h => h).trans (k1 _ (j * 2) (.int .i64 (p1 : Int))) fun _ _ h => h).trans (k1 _ (j * 2 + 1) (.int .i64 (p2 : Int))) fun _ _ h => h
        exact ⟨k2.os, k2.tape, k2.output, k2.size, k2.block⟩
      have T2 : Hid (Tnd L ((M.set i (q1, q2)).set j (p1, p2)) (i + 1)) := by
        have e : L.length - 1 - i = j := by rw [hn.out]; omega
        have := hT.out.step (p := (p1, p2)) (q := (q1, q2)) (by rw [hn.out]; omega) hp (by rw [e]; exact hq)
        rw [e] at this
        exact this
      clear x0 x1 y0 y1 fx0 fx1 fy0 fy1 x0d x1d y0d y1d ci0 hO hT hK
      generalize ((((wr.setCell ⟨g, i * 2, none⟩ (.int .i64 (q1 : Int))).setCell ⟨g, i * 2 + 1, none⟩ (.int .i64 (q2 : Int))).setCell ⟨g, j * 2, none⟩ (.int .i64 (p1 : Int))).setCell ⟨g, j * 2 + 1, none⟩ (.int .i64 (p2 : Int))).drew = w2 at *
      go_wp2
      exact ⟨⟨i + 1, _, by go_num, by go_num, by omega, T2, O2, K2⟩, by simp [intOf]; omega⟩
    · go_wp2
      go_end0
      have e := hT.out.done (by rw [hn.out]; omega)
      subst e
      refine ⟨rfl, ?_, hK.out⟩
      unfold OwnP
      rw [List.length_reverse, hn.out]
      exact hO.out
end Go.Proofs.YtbodgecbakcaaaaGreatDoor

namespace Go.Proofs.YtbodgecbakcaaaaGreatDoor
open Go.RowKit
def OnlyN (Q : Exit → Act → World → Prop) : Exit → Act → World → Prop
  | .normal, a, w => Q .normal a w
  | _, _, _ => False
theorem OnlyN.out {Q : Exit → Act → World → Prop} : ¬ LetsOut (OnlyN Q) := fun ⟨_, _, h⟩ => h
theorem oper_in {l n : Nat} {P : Program} {o : Oper} {a : Act} {w : World} {K : Act → World → Prop} {Q : Exit → Act → World → Prop} (hd : ∀ c, o.op ≠ .defer c)
    (h : o.wp P a w K (OnlyN Q)) : o.wpIn (Fence.wide.inRound l) n P a w K Q := by
  refine ⟨fun _ _ => trivial, ?_⟩
  have e : o.semAt (Fence.wide.inRound l).round a.eval = execOp a.eval o := Oper.semAt_eq _ _ _ hd
  rw [e]
  unfold Oper.wp at h
  generalize (execOp a.eval o).run P w = r at *
  cases r with
  | ok x w' =>
    cases x <;> simp only [Oper.upon, Oper.uponIn] at h ⊢
    case value v => exact h
    case skip => exact h
    case defer d => exact h
    case enter f args =>
      refine ⟨fun h => (by cases h), CallsIn.inRound l ((callsIn_wide.2 h).mono fun e w'' he => ?_)⟩
      cases e with
      | returned v => exact he
      | panicked c => exact he.elim
      | outgrown => exact (OnlyN.out he).elim
    case row row args =>
      refine ⟨fun h => (by cases h), fun c cs _ => ?_⟩
      obtain ⟨v, w'', hv, hs⟩ := h c cs
      exact ⟨v, w'', hv, stepsIn_wide.2 hs⟩
  | halt x w' =>
    cases x <;> simp only [Oper.upon, Oper.uponIn] at h ⊢
    exact h.elim
theorem wpOp_in {l n : Nat} {P : Program} {ops : Array Oper} {i : Nat} {a : Act} {w : World} {K : Act → World → Prop} {Q : Exit → Act → World → Prop} (hd : ∀ (j : Nat) (o : Oper) c, ops[j]? = some o → o.op ≠ .defer c)
    (h : wpOp P ops (OnlyN Q) i K a w) : wpOpIn (Fence.wide.inRound l) n P ops Q i K a w := by
  unfold wpOp at h
  unfold wpOpIn
  cases ho : ops[i]? with
  | none => rw [ho] at h; exact h
  | some o =>
    simp only [ho] at h ⊢
    split
    · rename_i hw
      simp only [hw, if_true] at h
      rcases h with h | ⟨_, h⟩
      · exact oper_in (fun c => hd i o c ho) h
      · exact (OnlyN.out h).elim
    · rename_i hw
      simp only [hw] at h
      exact ⟨fun _ _ => trivial, h⟩
theorem wpAny_in {l n : Nat} {P : Program} {ops : Array Oper} {md : Region.Mode} {Q : Exit → Act → World → Prop} (hd : ∀ (j : Nat) (o : Oper) c, ops[j]? = some o → o.op ≠ .defer c) :
    ∀ (fuel : Nat) (listed : Array Bool) (a : Act) (w : World), wpAny P md ops (OnlyN Q) fuel listed a w → wpAnyIn (Fence.wide.inRound l) n P md ops Q fuel listed a w
  | 0, _, _, _, h => h
  | fuel + 1, _, _, _, h => ⟨h.1, fun i hi => wpOp_in hd (wpOp_mono (fun a w h => wpAny_in hd fuel _ a w h) (h.2 i hi))⟩
theorem round_held {l n id : Nat} {P : Program} {ops : Array Oper} {Q : Exit → Act → World → Prop} {S : World → Prop} {a : Act} {w : World} (hm : P.follows .mixedOrders = true)
    (hd : ∀ (j : Nat) (o : Oper) c, ops[j]? = some o → o.op ≠ .defer c) (hS : S w.drew)
    (h : S w.drew → wpAnyH P .any ops (OnlyN Q) S ops.size (Array.replicate ops.size false) a w.drew) : (Code.region id ops true).wpIn (Fence.wide.inRound l) n P Q a w :=
  wpIn_region_any hm (wpAny_in hd _ _ _ _ (wpAny_of_held _ _ _ _ (h hS)))
theorem noDefer {ops : Array Oper} (h : (ops.toList.all fun o => match o.op with | .defer _ => false | _ => true) = true) : ∀ (j : Nat) (o : Oper) c, ops[j]? = some o → o.op ≠ .defer c := fun j o c hj he => by
  have hm : o ∈ ops.toList := by
    rw [Array.mem_toList_iff]
    exact Array.mem_of_getElem? hj
  have := List.all_eq_true.1 h o hm
  rw [he] at this
  cases this
theorem wpListIn_append_run {F : Fence} {n : Nat} {P : Program} {ops : Array Oper} {rest : List Oper} {o : Oper} {a : Act} {w : World} {Q : Exit → Act → World → Prop}
    (hg : o.guard = none) (s x : Operand) (t : TypeId) (hop : o.op = Op.call { callee := Callee.builtin Builtin.append, args := #[s, x], argTypes := #[t, t] })
    (v1 v2 v' : Value) (w' : World) (hs : a.eval s = v1) (hx : a.eval x = v2) (hrun : (Builtin.append_ #[t, t] o.type #[v1, v2]).run P w = .ok v' w') (hK : wpListIn F n P ops Q rest (a.put o.dst v') w') :
    wpListIn F n P ops Q (o :: rest) a w := by
  refine wpListIn_plain hg fun K hK' => ?_
  unfold Oper.wpIn
  refine ⟨?_, ?_⟩
  · simp [Oper.about, hop, resolve, Target.leads, Sem.run_pure]
  · rw [Oper.semAt_plain F _ _ (by rw [hop]; intro c hc'; cases hc')]
    simp [execOp, hop, resolve, invoke, builtin, hs, hx, hrun, Result.andThen]
    exact hK' _ _ hK
end Go.Proofs.YtbodgecbakcaaaaGreatDoor

namespace Go.Proofs.YtbodgecbakcaaaaGreatDoor
open Go.RowKit Go.Shelf
attribute [local go_sem] Oper.semAt_some
theorem ownM_sl {m : Nat} {w : World} {v : Value} {n : Nat} {cs : List Value} (h : OwnM m w v n cs) : ∃ a k c, v = .slice a k c := by
  obtain ⟨a, c, rfl, _⟩ := h.shape
  exact ⟨a, n, c, rfl⟩
def SpP (w : World) (c : Int) (L : List (Nat × Nat)) (r : Ending) (w' : World) : Prop :=
  Below w.heap.size w w' ∧ ∃ v, r = .returned (.tuple #[v, .int .i64 c]) ∧ OwnP w' v L ∧ ∀ k, v.ownBlock = some k → w.heap.size ≤ k
def pathE (n i : Int) : Int := if 1 ≤ n ∧ n ≤ 1099511627776 then (if 0 ≤ i ∧ i < n then 0 else 80) else 81
def pathL (n i : Int) : List (Nat × Nat) := if pathE n i = 0 then Tree.pthF n.toNat 0 n.toNat i.toNat else []
structure PthI (gi gb : Nat) (i : Int) (F : Nat → Prop) (L : List (Nat × Nat)) (v : Value) (W : World) : Prop where
  F : F = fun k => k = gi ∨ Col.F gb v k
  bi : Boxed W gi 3 (.int .i64 i)
  col : Col W gb 30 v L
  ne : v.ownBlock ≠ some gi
theorem PthI.keep {gi gb : Nat} {i : Int} {F : Nat → Prop} {L : List (Nat × Nat)} {v : Value} {W W' : World} {S : Nat → Prop} (h : PthI gi gb i F L v W) (hk : Keep S W W') (hs : ∀ k, F k → ¬ S k) : PthI gi gb i F L v W' := by
  have hF := h.F
  subst hF
  exact ⟨rfl, h.bi.keepF hk (hs _ (.inl rfl)), h.col.keep hk fun k e => hs k (.inr e), h.ne⟩
theorem PthI.below {gi gb : Nat} {i : Int} {F : Nat → Prop} {L : List (Nat × Nat)} {v : Value} {W W' : World} (h : PthI gi gb i F L v W) (hk : Below W.heap.size W W') : PthI gi gb i F L v W' := h.keep (Keep.ofBelow (S := fun _ => False) hk) fun _ _ e => e
theorem PthI.lt {gi gb : Nat} {i : Int} {F : Nat → Prop} {L : List (Nat × Nat)} {v : Value} {W : World} (h : PthI gi gb i F L v W) : ∀ k, F k → k < W.heap.size := by
  have hF := h.F
  subst hF
  rintro k (rfl | e)
  · exact h.bi.lt
  · exact h.col.lt k e
theorem PthI.push {gi gb : Nat} {i : Int} {F : Nat → Prop} {L L' : List (Nat × Nat)} {v v' : Value} {W w' : World} (h : PthI gi gb i F L v W) (hgb : gi ≠ gb) (h1 : OwnP w' v' L') (g : Grow W w' v v') :
    Boxed w' gb 30 v ∧ PthI gi gb i (fun k => k = gi ∨ Col.F gb v' k) L' v' (w'.setCell ⟨gb, 0, none⟩ v') ∧ Mvs F W (w'.setCell ⟨gb, 0, none⟩ v') (fun k => k = gi ∨ Col.F gb v' k) := by
  obtain ⟨b1, c1, m1⟩ := h.col.push h1 g
  have hne : v'.ownBlock ≠ some gi := fun e => by
    rcases m1.new gi (.inr e) with (q | q) | q
    · exact hgb q
    · exact h.ne q
    · have := h.bi.lt; omega
  have hF := h.F
  subst hF
  refine ⟨b1, ⟨rfl, ?_, c1, hne⟩, m1.keep.mono fun k _ e => .inr e, ?_⟩
  · refine h.bi.keepF m1.keep fun e => ?_
    rcases e with e | e
    · exact hgb e
    · exact h.ne e
  · rintro k (e | e)
    · exact .inl (.inl e)
    · rcases m1.new k e with q | q
      · exact .inl (.inr q)
      · exact .inr q
set_option maxRecDepth 100000 in
set_option maxHeartbeats 8000000 in
theorem path8_any (n i : Int) (w : World) : Calls Tryz.prog 58 #[.int .i64 n, .int .i64 i] w (SpP w (pathE n i) (pathL n i)) := by
  refine (callsIn_wide (n := 9)).1 ?_
  have c0 := (Boxed.new w 3 (.int .i64 i)).cell
  refine callsIn_of_wp_marks Tryz.func58 rfl trivial ?_ rfl
  simp only [Tryz.ntmps58, List.size_toArray, List.length_cons, List.length_nil, Nat.reduceAdd, Nat.reduceSub, Array.replicate_succ, Array.replicate_zero, List.push_toArray, List.append_toArray, List.nil_append, List.cons_append]
  by_cases hn : 1 ≤ n ∧ n ≤ 1099511627776
  · have i1 := fun w' => isSize_is n true (by simpa using hn) w'
    by_cases hb : 0 ≤ i ∧ i < n
    · have i2 := fun w' => isLeaf8_is n i true (by simpa using hb) w'
      have eE : pathE n i = 0 := by unfold pathE; rw [if_pos hn, if_pos hb]
      have eL : Hid (pathL n i = Tree.pthF n.toNat 0 n.toNat i.toNat) := by unfold Hid pathL; rw [if_pos eE]
      rw [eE, eL.out]
      clear eE eL
      obtain ⟨n, rfl⟩ := Int.eq_ofNat_of_zero_le (show 0 ≤ n by omega)
      obtain ⟨i, rfl⟩ := Int.eq_ofNat_of_zero_le hb.1
      rw [Int.toNat_natCast, Int.toNat_natCast]
      gi_wp2
      refine ⟨trivial, (callsIn_wide.2 (i1 _)).mono ?_⟩
      rintro r w1 ⟨rfl, h1⟩
      have h1 := h1.symm
      subst h1
      gi_wp2
      refine ⟨trivial, (callsIn_wide.2 (i2 _)).mono ?_⟩
      rintro r w1 ⟨rfl, h1⟩
      have h1 := h1.symm
      subst h1
      gi_wp2
      refine ⟨trivial, (callsIn_wide.2 (way_any _ _ _)).mono ?_⟩
      rintro r w1 ⟨rfl, h1⟩
      have h1 := h1.symm
      subst h1
      gi_wp2
      clear i1 i2 c0
      obtain ⟨W4, hW4⟩ : ∃ W4, Hid (((((w.alloc (.cells #[.int .i64 (i : Int)] 3)).alloc (.cells #[.slice none 0 0] 30)).alloc (.cells #[.int .i64 (n : Int)] 3)).alloc (.cells #[.int .i64 (i : Int)] 3)) = W4) := ⟨_, rfl⟩
      rw [hW4.out]
      have z4 : W4.heap.size = w.heap.size + 4 := by rw [← hW4.out]; simp
      have B4 : Below w.heap.size w W4 := by rw [← hW4.out]; exact ((((Below.refl _ w).alloc (Nat.le_refl _) _).alloc (by rw [size_alloc]; omega) _).alloc (by rw [size_alloc, size_alloc]; omega) _).alloc (by rw [size_alloc, size_alloc, size_alloc]; omega) _
      have R0 : Boxed W4 w.heap.size 3 (.int .i64 (i : Int)) := by rw [← hW4.out]; exact (((Boxed.new w 3 (.int .i64 (i : Int))).alloc _).alloc _).alloc _
      have R1 : Boxed W4 (w.heap.size + 1) 30 (.slice none 0 0) := by
        rw [← hW4.out]
        have := Boxed.new (w.alloc (.cells #[.int .i64 (i : Int)] 3)) 30 (.slice none 0 0)
        rw [size_alloc] at this
        exact (this.alloc _).alloc _
      have R2 : Boxed W4 (w.heap.size + 1 + 1) 3 (.int .i64 (n : Int)) := by
        rw [← hW4.out]
        have := Boxed.new ((w.alloc (.cells #[.int .i64 (i : Int)] 3)).alloc (.cells #[.slice none 0 0] 30)) 3 (.int .i64 (n : Int))
        rw [size_alloc, size_alloc] at this
        exact this.alloc _
      have R3 : Boxed W4 (w.heap.size + 1 + 1 + 1) 3 (.int .i64 (i : Int)) := by
        rw [← hW4.out]
        have := Boxed.new (((w.alloc (.cells #[.int .i64 (i : Int)] 3)).alloc (.cells #[.slice none 0 0] 30)).alloc (.cells #[.int .i64 (n : Int)] 3)) 3 (.int .i64 (i : Int))
        rw [size_alloc, size_alloc, size_alloc] at this
        exact this
      clear hW4
      have hway := Tree.wayF_has n 0 n i (Nat.le_refl _) (by omega) (by omega)
      have hwl := Tree.wayF_len n 0 n i (Nat.le_refl _) (by omega)
      have P0 : PthI w.heap.size (w.heap.size + 1) (i : Int) (fun k => k = w.heap.size ∨ Col.F (w.heap.size + 1) (.slice none 0 0) k) [] (.slice none 0 0) W4 := ⟨rfl, R0, ⟨R1, OwnM.nil 2 W4, fun h => by cases h⟩, fun h => by cases h⟩
      refine range_foot (n := 9) (gf := 92) (lb := #[.pointer (some ⟨w.heap.size + 1 + 1, 0, none⟩), .pointer (some ⟨w.heap.size + 1 + 1 + 1, 0, none⟩)]) rfl (enters_of Tryz.func92 (by kernel_rfl) rfl)
        (way_iter n i _ _ (by omega) (by omega) (by omega) W4 R2.cell R3.cell) (fun _ => rfl)
        (fun F pre W => ∃ v, PthI w.heap.size (w.heap.size + 1) (i : Int) F (Tree.pcol i pre) v W)
        (fun _ _ _ _ => False)
        ⟨fun F pre W W' S ⟨v, h⟩ hk hs => ⟨v, h.keep hk hs⟩, fun F pre W ⟨v, h⟩ => h.lt⟩ (fun c => ⟨fun _ _ _ _ _ h _ _ => h, fun _ _ _ h => h.elim⟩)
        (fun k => k = w.heap.size ∨ Col.F (w.heap.size + 1) (.slice none 0 0) k) ⟨_, P0⟩ ?dis ?cl
        (fun F pre x a W => ∃ v go F1, PthI w.heap.size (w.heap.size + 1) (i : Int) F1 (Tree.pcol i pre) v W ∧ F = (fun k => F1 k ∨ k = go) ∧ ¬ F1 go ∧ SpI W go x.1 x.2 ∧ a = { tmps := #[.int .i64 (n : Int), .int .i64 (i : Int), undef, .pointer (some ⟨w.heap.size, 0, none⟩), .slice none 0 0, .int .i64 0, .pointer (some ⟨w.heap.size + 1, 0, none⟩), .pointer (some ⟨go, 0, none⟩), .bool false, .int .i64 (n : Int), .bool true, .bool false, .bool false, .int .i64 (n : Int), .int .i64 (i : Int), .bool true, .bool false, .int .i64 (n : Int), .int .i64 (i : Int), .func (.func 92) #[] #[.pointer (some ⟨w.heap.size + 1 + 1, 0, none⟩), .pointer (some ⟨w.heap.size + 1 + 1 + 1, 0, none⟩)], sg x.1 x.2, undef, undef, undef, undef, undef, undef, undef, undef, undef, undef, undef, undef], defers := [] })
        ?fA ?assign ?body ?done ?stop
      case dis =>
        rintro k (rfl | rfl | e) (h | h)
        · omega
        · omega
        · omega
        · omega
        · cases e
        · cases e
      case cl => rintro k (rfl | rfl) <;> omega
      case fA =>
        rintro x a
        refine ⟨?_, ?_⟩
        · rintro F pre W W' S ⟨v, go, F1, h1, rfl, h2, h3, h4⟩ hk hs
          exact ⟨v, go, F1, h1.keep hk fun k e => hs k (.inl e), rfl, h2, h3.keep hk (hs _ (.inr rfl)), h4⟩
        · rintro F pre W ⟨v, go, F1, h1, rfl, h2, h3, h4⟩ k (e | rfl)
          · exact h1.lt k e
          · exact lt_of_heap h3
      case assign =>
        rintro l F pre x rest W ⟨v, h1⟩ hx
        gi_wp2
        have hb := (Below.refl _ W).alloc (Nat.le_refl _) (.cells #[.int .i64 (x.1 : Int), .int .i64 (x.2 : Int)] 62)
        exact ⟨_, Mvs.alloc F W _, v, W.heap.size, F, h1.below hb, rfl, fun h => by have := h1.lt _ h; omega, SpI.new W x.1 x.2, rfl⟩
      case body =>
        rintro l F pre x rest a W ⟨v, go, F1, h1, rfl, h2, h3, rfl⟩ hx
        obtain ⟨x, y⟩ := x
        have hxy := hway (x, y) (by rw [hx]; exact List.mem_append.2 (.inr List.mem_cons_self))
        have hpl : pre.length ≤ 1099511627776 := by
          have := congrArg List.length hx
          rw [List.length_append] at this
          omega
        have c0 := h3.c0
        have c1 := h3.c1
        have hen := hxy.2.2.2
        gi_wp2
        refine ⟨trivial, (CallsIn.inRound l (callsIn_wide.2 (slen_nat x y (by omega) (by omega) _))).mono ?_⟩
        rintro r W1 ⟨rfl, hb1⟩
        clear c0 c1
        have P1 := h1.below hb1
        have s1 := h3.below hb1
        have hFe := P1.F
        have hgo : ¬ v.ownBlock = some go := fun e => h2 (by rw [hFe]; exact .inr (.inr e))
        have hgb : go ≠ w.heap.size + 1 := fun e => h2 (by rw [hFe]; exact .inr (.inl e))
        have hcl : (Tree.pcol i pre).length ≤ 1099511627776 := Nat.le_trans (Tree.pcol_len i pre) hpl
        have hMv : Mvs (fun k => F1 k ∨ k = go) W W1 F1 := ⟨Keep.ofBelow hb1, fun k hk => .inl (.inl hk)⟩
        clear hFe
        by_cases hd : 1 < y - x
        · have hd' : (1 : Int) < ((y - x : Nat) : Int) := by omega
          obtain ⟨va, vc, hv, _, _⟩ := P1.col.own.shape
          obtain ⟨vn, hvn⟩ : ∃ vn, (Tree.pcol i pre).length = vn := ⟨_, rfl⟩
          rw [hvn] at hv
          subst hv
          clear hvn
          gi_wp2
          clear hd'
          refine round_held (S := (fun w' => w'.cell? ⟨go, 0, none⟩ = some (.int .i64 (x : Int)) ∧ w'.cell? ⟨go, 1, none⟩ = some (.int .i64 (y : Int)) ∧ w'.cell? ⟨w.heap.size, 0, none⟩ = some (.int .i64 (i : Int)))) (by kernel_rfl) (noDefer (by kernel_rfl)) ⟨s1.c0, s1.c1, P1.bi.cell⟩ (fun hHeld => ?_)
          refine wpAnyH_take (i := 1) (v := sg x y) rfl (by kernel_rfl) (by kernel_rfl) (by kernel_rfl) (fun _ _ _ h => h) (Or.inl ⟨by rfl, ?_⟩) hHeld ?_
          · intro w' hw'
            obtain ⟨y0, y1, y2⟩ := hw'
            simp [go_sem, y0, y1]
          dsimp only [Act.put]
          refine wpAnyH_take (i := 2) (v := .int .i64 (i : Int)) rfl (by kernel_rfl) (by kernel_rfl) (by kernel_rfl) (fun _ _ _ h => h) (Or.inl ⟨by rfl, ?_⟩) hHeld ?_
          · intro w' hw'
            obtain ⟨y0, y1, y2⟩ := hw'
            simp [go_sem, y2]
          dsimp only [Act.put]
          refine wpAnyH_ready (rs := [0, 3]) (by kernel_rfl) (by decide) (AllReadyH.cons rfl (fun K' hK => ?_) (AllReadyH.cons rfl (fun K' hK => ?_) AllReadyH.nil))
          · rw [if_pos (by rfl)]
            have b0 : W1.drew.cell? ⟨w.heap.size + 1, 0, none⟩ = some (.slice va vn vc) := P1.col.box.cell
            go_wp2
            refine hK.out _ _ ⟨s1.c0, s1.c1, P1.bi.cell⟩ (fun hHeld => ?_)
            refine wpAnyH_ready (rs := [3]) (by kernel_rfl) (by decide) (AllReadyH.cons rfl (fun K' hK => ?_) AllReadyH.nil)
            rw [if_pos (by rfl)]
            go_wp2_with (go_at_call 77; fail)
            refine (beside_any x y i (by omega) (by omega) _).mono ?_
            rintro r W2 ⟨rfl, hb2⟩
            have hb2 := drewBelow8 hb2
            have P2 := P1.below hb2
            have s2 := s1.below hb2
            obtain ⟨v', w3, hap, O3, G3⟩ := append_pair W2 (.slice va vn vc) (Tree.pcol i pre) (Tree.osd i (x, y)).1 (Tree.osd i (x, y)).2 P2.col.own hcl
            obtain ⟨bx3, P3, M3⟩ := P2.push (by omega) O3 G3
            refine hK.out _ _ ⟨s2.c0, s2.c1, P2.bi.cell⟩ (fun hHeld => ?_)
            refine wpAnyH_ready (rs := [4]) (by kernel_rfl) (by decide) (AllReadyH.cons rfl (fun K' hK => ?_) AllReadyH.nil)
            rw [if_pos (by rfl)]
            go_wp2
            have hbB := (Below.refl _ W2).alloc (Nat.le_refl _) (.cells #[.int .i64 ((Tree.osd i (x, y)).1 : Int), .int .i64 ((Tree.osd i (x, y)).2 : Int)] 62)
            refine hK.out _ _ ⟨(s2.below hbB).c0, (s2.below hbB).c1, (P2.below hbB).bi.cell⟩ (fun hHeld => ?_)
            refine wpAnyH_ready (rs := [5]) (by kernel_rfl) (by decide) (AllReadyH.cons rfl (fun K' hK => ?_) AllReadyH.nil)
            refine step_append_run rfl _ _ 30 rfl (.slice va vn vc) _ v' w3 rfl rfl hap ?_
            have kA := (Mvs.alloc (fun _ => False) W2 (.cells #[.int .i64 ((Tree.osd i (x, y)).1 : Int), .int .i64 ((Tree.osd i (x, y)).2 : Int)] 62)).keep
            have s3 : SpI w3 go x y := s2.keep G3.keep hgo
            have bi3 : Boxed w3 (w.heap.size) 3 (.int .i64 (i : Int)) := P2.bi.keepF G3.keep P2.ne
            refine hK.out _ _ ⟨s3.c0, s3.c1, bi3.cell⟩ (fun hHeld => ?_)
            refine wpAnyH_ready (rs := [6]) (by kernel_rfl) (by decide) (AllReadyH.cons rfl (fun K' hK => ?_) AllReadyH.nil)
            rw [if_pos (by rfl)]
            have c3 := bx3.cell
            have f3 := bx3.frozen
            obtain ⟨va', vn', vc', rfl⟩ := ownM_sl O3
            go_wp2
            have s4 := s3.far (w.heap.size + 1) 0 (.slice va' vn' vc') hgb
            refine hK.out _ _ ⟨s4.c0, s4.c1, P3.bi.cell⟩ (fun _ => wpAnyH_done (by kernel_rfl) ?_ _)
            have M5 : Mvs F1 W1 W2 F1 := ⟨Keep.ofBelow hb2, fun k hk => .inl hk⟩
            have M6 := (hMv.trans M5).trans M3
            refine ⟨_, M6, .slice va' vn' vc', ?_⟩
            rw [Tree.pcol_hit hd]
            exact P3
          · rw [if_pos (by rfl)]
            go_wp2_with (go_at_call 77; fail)
            refine (beside_any x y i (by omega) (by omega) _).mono ?_
            rintro r W2 ⟨rfl, hb2⟩
            have hb2 := drewBelow8 hb2
            have P2 := P1.below hb2
            have s2 := s1.below hb2
            obtain ⟨v', w3, hap, O3, G3⟩ := append_pair W2 (.slice va vn vc) (Tree.pcol i pre) (Tree.osd i (x, y)).1 (Tree.osd i (x, y)).2 P2.col.own hcl
            obtain ⟨bx3, P3, M3⟩ := P2.push (by omega) O3 G3
            refine hK.out _ _ ⟨s2.c0, s2.c1, P2.bi.cell⟩ (fun hHeld => ?_)
            refine wpAnyH_ready (rs := [0, 4]) (by kernel_rfl) (by decide) (AllReadyH.cons rfl (fun K' hK => ?_) (AllReadyH.cons rfl (fun K' hK => ?_) AllReadyH.nil))
            · rw [if_pos (by rfl)]
              have b0 : W2.cell? ⟨w.heap.size + 1, 0, none⟩ = some (.slice va vn vc) := P2.col.box.cell
              go_wp2
              refine hK.out _ _ ⟨s2.c0, s2.c1, P2.bi.cell⟩ (fun hHeld => ?_)
              refine wpAnyH_ready (rs := [4]) (by kernel_rfl) (by decide) (AllReadyH.cons rfl (fun K' hK => ?_) AllReadyH.nil)
              rw [if_pos (by rfl)]
              go_wp2
              have hbB := (Below.refl _ W2).alloc (Nat.le_refl _) (.cells #[.int .i64 ((Tree.osd i (x, y)).1 : Int), .int .i64 ((Tree.osd i (x, y)).2 : Int)] 62)
              refine hK.out _ _ ⟨(s2.below hbB).c0, (s2.below hbB).c1, (P2.below hbB).bi.cell⟩ (fun hHeld => ?_)
              refine wpAnyH_ready (rs := [5]) (by kernel_rfl) (by decide) (AllReadyH.cons rfl (fun K' hK => ?_) AllReadyH.nil)
              refine step_append_run rfl _ _ 30 rfl (.slice va vn vc) _ v' w3 rfl rfl hap ?_
              have kA := (Mvs.alloc (fun _ => False) W2 (.cells #[.int .i64 ((Tree.osd i (x, y)).1 : Int), .int .i64 ((Tree.osd i (x, y)).2 : Int)] 62)).keep
              have s3 : SpI w3 go x y := s2.keep G3.keep hgo
              have bi3 : Boxed w3 (w.heap.size) 3 (.int .i64 (i : Int)) := P2.bi.keepF G3.keep P2.ne
              refine hK.out _ _ ⟨s3.c0, s3.c1, bi3.cell⟩ (fun hHeld => ?_)
              refine wpAnyH_ready (rs := [6]) (by kernel_rfl) (by decide) (AllReadyH.cons rfl (fun K' hK => ?_) AllReadyH.nil)
              rw [if_pos (by rfl)]
              have c3 := bx3.cell
              have f3 := bx3.frozen
              obtain ⟨va', vn', vc', rfl⟩ := ownM_sl O3
              go_wp2
              have s4 := s3.far (w.heap.size + 1) 0 (.slice va' vn' vc') hgb
              refine hK.out _ _ ⟨s4.c0, s4.c1, P3.bi.cell⟩ (fun _ => wpAnyH_done (by kernel_rfl) ?_ _)
              have M5 : Mvs F1 W1 W2 F1 := ⟨Keep.ofBelow hb2, fun k hk => .inl hk⟩
              have M6 := (hMv.trans M5).trans M3
              refine ⟨_, M6, .slice va' vn' vc', ?_⟩
              rw [Tree.pcol_hit hd]
              exact P3
            · rw [if_pos (by rfl)]
              go_wp2
              have hbB := (Below.refl _ W2).alloc (Nat.le_refl _) (.cells #[.int .i64 ((Tree.osd i (x, y)).1 : Int), .int .i64 ((Tree.osd i (x, y)).2 : Int)] 62)
              refine hK.out _ _ ⟨(s2.below hbB).c0, (s2.below hbB).c1, (P2.below hbB).bi.cell⟩ (fun hHeld => ?_)
              refine wpAnyH_ready (rs := [0]) (by kernel_rfl) (by decide) (AllReadyH.cons rfl (fun K' hK => ?_) AllReadyH.nil)
              have PB := P2.below hbB
              rw [if_pos (by rfl)]
              have b0 : (W2.alloc (.cells #[.int .i64 ((Tree.osd i (x, y)).1 : Int), .int .i64 ((Tree.osd i (x, y)).2 : Int)] 62)).cell? ⟨w.heap.size + 1, 0, none⟩ = some (.slice va vn vc) := PB.col.box.cell
              go_wp2
              refine hK.out _ _ ⟨(s2.below hbB).c0, (s2.below hbB).c1, (P2.below hbB).bi.cell⟩ (fun hHeld => ?_)
              refine wpAnyH_ready (rs := [5]) (by kernel_rfl) (by decide) (AllReadyH.cons rfl (fun K' hK => ?_) AllReadyH.nil)
              refine step_append_run rfl _ _ 30 rfl (.slice va vn vc) _ v' w3 rfl rfl hap ?_
              have kA := (Mvs.alloc (fun _ => False) W2 (.cells #[.int .i64 ((Tree.osd i (x, y)).1 : Int), .int .i64 ((Tree.osd i (x, y)).2 : Int)] 62)).keep
              have s3 : SpI w3 go x y := s2.keep G3.keep hgo
              have bi3 : Boxed w3 (w.heap.size) 3 (.int .i64 (i : Int)) := P2.bi.keepF G3.keep P2.ne
              refine hK.out _ _ ⟨s3.c0, s3.c1, bi3.cell⟩ (fun hHeld => ?_)
              refine wpAnyH_ready (rs := [6]) (by kernel_rfl) (by decide) (AllReadyH.cons rfl (fun K' hK => ?_) AllReadyH.nil)
              rw [if_pos (by rfl)]
              have c3 := bx3.cell
              have f3 := bx3.frozen
              obtain ⟨va', vn', vc', rfl⟩ := ownM_sl O3
              go_wp2
              have s4 := s3.far (w.heap.size + 1) 0 (.slice va' vn' vc') hgb
              refine hK.out _ _ ⟨s4.c0, s4.c1, P3.bi.cell⟩ (fun _ => wpAnyH_done (by kernel_rfl) ?_ _)
              have M5 : Mvs F1 W1 W2 F1 := ⟨Keep.ofBelow hb2, fun k hk => .inl hk⟩
              have M6 := (hMv.trans M5).trans M3
              refine ⟨_, M6, .slice va' vn' vc', ?_⟩
              rw [Tree.pcol_hit hd]
              exact P3
        · have hd' : ¬ (1 : Int) < ((y - x : Nat) : Int) := by omega
          gi_wp2
          refine ⟨F1, hMv, v, ?_⟩
          rw [Tree.pcol_miss hd]
          exact P1
      case done =>
        rintro D F W ⟨v, h1⟩ ha
        have hFe := h1.F
        have hvD : v.ownBlock ≠ some D := fun e => ha.out (by rw [hFe]; exact .inr (.inr e))
        have hvB : ∀ k, v.ownBlock = some k → w.heap.size ≤ k := fun k e => by
          rcases ha.new k (by rw [hFe]; exact .inr (.inr e)) with (q | q | q) | q
          · omega
          · omega
          · cases q
          · omega
        have hL : Hid (Tree.pcol i (Tree.wayF n 0 n i) = (Tree.pthF n 0 n i).reverse) := Tree.pcol_way i n 0 n (Nat.le_refl _)
        have O1 := hid h1.col.own
        have hlen : Hid ((Tree.pcol i (Tree.wayF n 0 n i)).length ≤ 1099511627776) := by
          have := Tree.pcol_len i (Tree.wayF n 0 n i)
          unfold Hid; omega
        have i5 := rev_any _ v W h1.col.own hlen.out
        rw [hL.out, List.reverse_reverse] at i5
        have bx := hid h1.col.box
        have hne := h1.col.ne
        obtain ⟨va, vn, vc, rfl⟩ := ownM_sl O1.out
        have c0 := bx.out.cell
        clear hFe h1
        gi_wp2
        refine ⟨trivial, (callsIn_wide.2 i5).mono ?_⟩
        rintro r W5 ⟨rfl, O5, K5⟩
        have b5 := (bx.out.keepF K5 hne)
        have c5 := b5.cell
        clear i5 c0
        gi_wp2
        have hm5 : W5.heap[D]? = some (.deferred (some [])) := (K5.block D (Array.getElem?_eq_some_iff.1 ha.mark).1 hvD).trans ha.mark
        refine ⟨by simp, .inl ⟨_, _, rfl, run_takeDeferred hm5, ?_⟩⟩
        refine ⟨_, results_tmp2 rfl _ _ _, ?_, _, rfl, O5.keep (Keep.ofPut (S := fun k => k = D) _ D (.deferred none) rfl) (fun k hk e => hvD (e ▸ hk)), hvB⟩
        have k1 : Keep (fun k => w.heap.size ≤ k) W4 W := ha.keep.mono fun k _ h => by
          rcases h with (h | h | h) | h
          · omega
          · omega
          · cases h
          · exact h.elim
        have k2 := (k1.trans (K5.mono (T := fun k => w.heap.size ≤ k) fun k _ h => hvB k h) fun _ _ h => h).trans (Keep.ofPut (S := fun k => w.heap.size ≤ k) W5 D (.deferred none) (by have := ha.hi; omega)) fun _ _ h => h
        exact B4.trans (k2.belowOf (by omega) fun _ h => h)
      case stop =>
        rintro D c F pre W hp h ha
        exact h.elim
    · have i2 := fun w' => isLeaf8_is n i false (by simpa using hb) w'
      have eE : pathE n i = 80 := by unfold pathE; rw [if_pos hn, if_neg hb]
      have eL : Hid (pathL n i = []) := by unfold Hid pathL; rw [if_neg (by rw [eE]; omega)]
      rw [eE, eL.out]
      clear eE eL
      gi_wp2
      refine ⟨trivial, (callsIn_wide.2 (i1 _)).mono ?_⟩
      rintro r w1 ⟨rfl, h1⟩
      have h1 := h1.symm
      subst h1
      gi_wp2
      refine ⟨trivial, (callsIn_wide.2 (i2 _)).mono ?_⟩
      rintro r w1 ⟨rfl, h1⟩
      have h1 := h1.symm
      subst h1
      gi_wp2
      refine ⟨_, results_tmp2 rfl _ _ _, (Below.refl _ w).alloc (Nat.le_refl _) _, _, rfl, OwnM.nil 2 _, fun k hk => by cases hk⟩
  · have i1 := fun w' => isSize_is n false (by simpa using hn) w'
    have eE : pathE n i = 81 := by unfold pathE; rw [if_neg hn]
    have eL : Hid (pathL n i = []) := by unfold Hid pathL; rw [if_neg (by rw [eE]; omega)]
    rw [eE, eL.out]
    clear eE eL
    gi_wp2
    refine ⟨trivial, (callsIn_wide.2 (i1 _)).mono ?_⟩
    rintro r w1 ⟨rfl, h1⟩
    have h1 := h1.symm
    subst h1
    gi_wp2
    refine ⟨_, results_tmp2 rfl _ _ _, (Below.refl _ w).alloc (Nat.le_refl _) _, _, rfl, OwnM.nil 2 _, fun k hk => by cases hk⟩
end Go.Proofs.YtbodgecbakcaaaaGreatDoor
