import Derived.Test.YtappjeepajjioaaGreatDoorPkFS1
import Derived.Test.YtappjeepajjioaaGreatDoorPkO27
import Derived.Deep.RegionHeld3
namespace Go.Proofs.YtappjeepajjioaaGreatDoor
open Go.RowKit Go.Shelf
/-- so far turned round: k from each end -/
def Tnd (L M : List (Nat × Nat)) (i : Nat) : Prop := M.length = L.length ∧ ∀ k, k < L.length → M[k]? = if k < i ∨ L.length ≤ k + i then L[L.length - 1 - k]? else L[k]?
theorem Tnd.start (L : List (Nat × Nat)) : Tnd L L 0 := ⟨rfl, fun k hk => by rw [if_neg (by omega)]⟩
theorem Tnd.done {L M : List (Nat × Nat)} {i : Nat} (h : Tnd L M i) (hi : L.length ≤ 2 * i + 1) : M = L.reverse := by
  refine List.ext_getElem? fun k => ?_
  by_cases hk : k < L.length
  · rw [h.2 k hk, List.getElem?_reverse hk]
    by_cases h2 : k < i ∨ L.length ≤ k + i
    · rw [if_pos h2]
    · rw [if_neg h2, show L.length - 1 - k = k by omega]
  · rw [List.getElem?_eq_none (by rw [h.1]; omega), List.getElem?_eq_none (by rw [List.length_reverse]; omega)]
theorem Tnd.step {L M : List (Nat × Nat)} {i : Nat} (h : Tnd L M i) (hi : 2 * i + 1 < L.length) {p q : Nat × Nat} (hp : M[i]? = some p) (hq : M[L.length - 1 - i]? = some q) : Tnd L ((M.set i q).set (L.length - 1 - i) p) (i + 1) := by
  have h1 := h.2 i (by omega)
  have h2 := h.2 (L.length - 1 - i) (by omega)
  rw [if_neg (by omega), hp] at h1
  rw [if_neg (by omega), hq] at h2
  refine ⟨by rw [List.length_set, List.length_set, h.1], fun k hk => ?_⟩
  by_cases e1 : k = L.length - 1 - i
  · rw [if_pos (by omega), e1, List.getElem?_set_self (by rw [List.length_set, h.1]; omega), h1, show L.length - 1 - (L.length - 1 - i) = i by omega]
  · rw [List.getElem?_set_ne (by omega)]
    by_cases e2 : k = i
    · rw [if_pos (by omega), e2, List.getElem?_set_self (by rw [h.1]; omega), h2]
    · rw [List.getElem?_set_ne (by omega), h.2 k hk]
      by_cases e3 : k < i ∨ L.length ≤ k + i
      · rw [if_pos e3, if_pos (by omega)]
      · rw [if_neg e3, if_neg (by omega)]
/-- a pair is written over -/
theorem prs_set : ∀ (l : List (Nat × Nat)) (j : Nat) (x y : Nat), prs (l.set j (x, y)) = ((prs l).set (j * 2) (.int .i64 (x : Int))).set (j * 2 + 1) (.int .i64 (y : Int))
  | [], j, x, y => by simp [prs]
  | a :: l, 0, x, y => rfl
  | a :: l, j + 1, x, y => by
    have ih := prs_set l j x y
    rw [show (j + 1) * 2 = j * 2 + 1 + 1 from by omega]
    show _ :: _ :: prs (l.set j (x, y)) = _
    rw [ih]; rfl
theorem OwnM.setC {w : World} {g n c m : Nat} {cs : List Value} (h : OwnM m w (.slice (some ⟨g, 0, none⟩) n c) n cs) (j : Nat) (v : Value) (hj : j < cs.length) : OwnM m (w.setCell ⟨g, j, none⟩ v) (.slice (some ⟨g, 0, none⟩) n c) n (cs.set j v) := by
  rcases h with ⟨h, _⟩ | ⟨g', cap', h, h2, h3, h0, h4, h5, h6⟩
  · cases h
  · injection h with e1 e2 e3
    injection e1 with e1
    injection e1 with e1
    subst e1 e3
    refine .inr ⟨g, c, rfl, h2, h3, by rw [List.length_set]; exact h0, fun k u hk => ?_, fun k hk => ?_, by rw [show (w.setCell ⟨g, j, none⟩ v).heap.size = w.heap.size from by simp [World.setCell]]; exact h6⟩
    · rw [Nat.zero_add]
      by_cases e : k = j
      · subst e
        rw [List.getElem?_set_self hj] at hk
        injection hk with hk
        subst hk
        have := h4 k (cs[k]'hj) (by simp)
        rw [Nat.zero_add] at this
        exact World.cell?_setCell_same' _ _ _ (by rw [this]; rfl)
      · rw [List.getElem?_set_ne (by omega)] at hk
        have := h4 k u hk
        rw [Nat.zero_add] at this
        rw [World.cell?_setCell_other w _ _ _ (fun q => e (by injection q with _ q; exact q.symm))]
        exact this
    · have := h5 k hk
      refine ⟨?_, ?_⟩
      · by_cases e : 0 + k = j
        · rw [e] at this ⊢
          rw [World.cell?_setCell_same' w ⟨g, j, none⟩ v this.1]; rfl
        · rw [World.cell?_setCell_other w _ _ _ (fun q => e (by injection q with _ q; exact q.symm))]
          exact this.1
      · rw [World.frozen?_setCell]; exact this.2
end Go.Proofs.YtappjeepajjioaaGreatDoor

namespace Go.Proofs.YtappjeepajjioaaGreatDoor
open Go.RowKit Go.Shelf
theorem getD_of {l : List (Nat × Nat)} {k : Nat} (h : k < l.length) : ∃ x y, l[k]? = some (x, y) := ⟨(l[k]'h).1, (l[k]'h).2, by rw [List.getElem?_eq_getElem h]⟩
set_option maxRecDepth 100000 in
set_option maxHeartbeats 8000000 in
theorem rev_any (L : List (Nat × Nat)) (v : Value) (w : World) (h : OwnP w v L) (hl : L.length ≤ 1099511627776) :
    Calls Tryz.prog 96 #[v] w fun r w' => r = .returned (.tuple #[]) ∧ OwnP w' v L.reverse ∧ Keep (fun k => v.ownBlock = some k) w w' := by
  obtain ⟨a, c, rfl, hc1, hc2⟩ := h.shape
  obtain ⟨n, hn⟩ : ∃ n, Hid (L.length = n) := ⟨_, rfl⟩
  rw [hn.out] at hc1 hl
  have hO := hid h
  unfold Hid OwnP at hO
  rw [hn.out] at hO ⊢
  have hO : Hid (OwnM 2 w (.slice a n c) n (prs L)) := hO
  clear h
  go_enter Tryz.func96, Tryz.ntmps96
  go_wp2
  go_loopw [2, 3] (fun vi vj wr => ∃ (i : Nat) (M : List (Nat × Nat)), vi = .int .i64 (i : Int) ∧ vj = .int .i64 ((n : Int) - 1 - (i : Int)) ∧ (i : Int) ≤ (n : Int) ∧ Hid (Tnd L M i) ∧ Hid (OwnM 2 wr (.slice a n c) n (prs M)) ∧ Hid (Keep (fun k => (Value.slice a n c).ownBlock = some k) w wr)) (fun vi _ _ => n - (intOf vi).toNat)
  case atStart =>
    exact ⟨0, L, rfl, by go_num, by omega, Tnd.start L, hO, Keep.refl _ _⟩
  case round =>
    clear hO
    obtain ⟨i, M, rfl, rfl, hi, hT, hO, hK⟩ := hrel
    by_cases hij : (i : Int) < (n : Int) - 1 - (i : Int)
    · have hT1 := hT.out.1
      rw [hn.out] at hT1
      obtain ⟨j, hj⟩ : ∃ j : Nat, (n : Int) - 1 - (i : Int) = (j : Int) := ⟨n - 1 - i, by omega⟩
      rw [hj] at hij ⊢
      obtain ⟨p1, p2, hp⟩ := getD_of (l := M) (k := i) (by omega)
      obtain ⟨q1, q2, hq⟩ := getD_of (l := M) (k := j) (by omega)
      obtain ⟨g, c', e1, ci0, _⟩ := hO.out.cell (prs_get hp).1
      injection e1 with e1 _ e3
      subst e1 e3
      have cellOf : ∀ {k : Nat} {u : Value}, (prs M)[k]? = some u → wr.cell? ⟨g, k, none⟩ = some u ∧ wr.frozen? ⟨g, k, none⟩ = false := fun {k u} hk => by
        rcases hO.out with ⟨h, _⟩ | ⟨g', cap', h, h2, h3, h0, h4, h5, h6⟩
        · cases h
        · injection h with e1 e2 e3
          injection e1 with e1
          injection e1 with e1
          subst e1 e3
          have a1 := h4 k u hk
          have a2 := h5 k (by have := (List.getElem?_eq_some_iff.1 hk).1; omega)
          rw [Nat.zero_add] at a1 a2
          exact ⟨a1, a2.2⟩
      have x0 := (cellOf (prs_get hp).1).1
      have x1 := (cellOf (prs_get hp).2).1
      have y0 := (cellOf (prs_get hq).1).1
      have y1 := (cellOf (prs_get hq).2).1
      have fx0 := (cellOf (prs_get hp).1).2
      have fx1 := (cellOf (prs_get hp).2).2
      have fy0 := (cellOf (prs_get hq).1).2
      have fy1 := (cellOf (prs_get hq).2).2
      have x0d : wr.drew.cell? ⟨g, i * 2, none⟩ = _ := x0
      have x1d : wr.drew.cell? ⟨g, i * 2 + 1, none⟩ = _ := x1
      have y0d : wr.drew.cell? ⟨g, j * 2, none⟩ = _ := y0
      have y1d : wr.drew.cell? ⟨g, j * 2 + 1, none⟩ = _ := y1
      have i0 : (0 : Int) ≤ (i : Int) := by omega
      have i1 : (i : Int) < (n : Int) := by omega
      have j0 : (0 : Int) ≤ (j : Int) := by omega
      have j1 : (j : Int) < (n : Int) := by omega
      have nij : ¬ i = j := by omega
      have nji : ¬ j = i := by omega
      clear cellOf hT1
      go_wp2
      go_region
      have O2 : Hid (OwnM 2 (((((wr.setCell ⟨g, i * 2, none⟩ (.int .i64 (q1 : Int))).setCell ⟨g, i * 2 + 1, none⟩ (.int .i64 (q2 : Int))).setCell ⟨g, j * 2, none⟩ (.int .i64 (p1 : Int))).setCell ⟨g, j * 2 + 1, none⟩ (.int .i64 (p2 : Int))).drew) (.slice (some ⟨g, 0, none⟩) n c) n (prs ((M.set i (q1, q2)).set j (p1, p2)))) := by
        have hpl : (prs M).length = n * 2 := by have := hO.out.len; exact this
        unfold Hid
        rw [prs_set, prs_set]
        exact ((((hO.out.setC (i * 2) _ (by omega)).setC (i * 2 + 1) _ (by rw [List.length_set]; omega)).setC (j * 2) _ (by rw [List.length_set, List.length_set]; omega)).setC (j * 2 + 1) _ (by rw [List.length_set, List.length_set, List.length_set]; omega))
      have K2 : Hid (Keep (fun k => (Value.slice (some ⟨g, 0, none⟩) n c).ownBlock = some k) w (((((wr.setCell ⟨g, i * 2, none⟩ (.int .i64 (q1 : Int))).setCell ⟨g, i * 2 + 1, none⟩ (.int .i64 (q2 : Int))).setCell ⟨g, j * 2, none⟩ (.int .i64 (p1 : Int))).setCell ⟨g, j * 2 + 1, none⟩ (.int .i64 (p2 : Int))).drew)) := by
        have k1 : ∀ (W : World) (o : Nat) (u : Value), Keep (fun k => (Value.slice (some ⟨g, 0, none⟩) n c).ownBlock = some k) W (W.setCell ⟨g, o, none⟩ u) := fun W o u => Keep.ofSet W g o u rfl
        have k2 := (((hK.out.trans (k1 _ (i * 2) (.int .i64 (q1 : Int))) fun _ _ h => h).trans (k1 _ (i * 2 + 1) (.int .i64 (q2 : Int))) fun _ _ h => h).trans (k1 _ (j * 2) (.int .i64 (p1 : Int))) fun _ _ h => h).trans (k1 _ (j * 2 + 1) (.int .i64 (p2 : Int))) fun _ _ h => h
        exact ⟨k2.os, k2.tape, k2.output, k2.size, k2.block⟩
      have T2 : Hid (Tnd L ((M.set i (q1, q2)).set j (p1, p2)) (i + 1)) := by
        have e : L.length - 1 - i = j := by rw [hn.out]; omega
        have := hT.out.step (p := (p1, p2)) (q := (q1, q2)) (by rw [hn.out]; omega) hp (by rw [e]; exact hq)
        rw [e] at this
        exact this
      clear x0 x1 y0 y1 fx0 fx1 fy0 fy1 x0d x1d y0d y1d ci0 hO hT hK
      generalize ((((wr.setCell ⟨g, i * 2, none⟩ (.int .i64 (q1 : Int))).setCell ⟨g, i * 2 + 1, none⟩ (.int .i64 (q2 : Int))).setCell ⟨g, j * 2, none⟩ (.int .i64 (p1 : Int))).setCell ⟨g, j * 2 + 1, none⟩ (.int .i64 (p2 : Int))).drew = w2 at *
      go_wp2
      exact ⟨⟨i + 1, _, by go_num, by go_num, by omega, T2, O2, K2⟩, by simp [intOf]; omega⟩
    · go_wp2
      go_end0
      have e := hT.out.done (by rw [hn.out]; omega)
      subst e
      refine ⟨rfl, ?_, hK.out⟩
      unfold OwnP
      rw [List.length_reverse, hn.out]
      exact hO.out
end Go.Proofs.YtappjeepajjioaaGreatDoor

namespace Go.Proofs.YtappjeepajjioaaGreatDoor
open Go.RowKit
/-- a region in a round is left at its end alone -/
def OnlyN (Q : Exit → Act → World → Prop) : Exit → Act → World → Prop
  | .normal, a, w => Q .normal a w
  | _, _, _ => False
theorem OnlyN.out {Q : Exit → Act → World → Prop} : ¬ LetsOut (OnlyN Q) := fun ⟨_, _, h⟩ => h
theorem oper_in {l n : Nat} {P : Program} {o : Oper} {a : Act} {w : World} {K : Act → World → Prop} {Q : Exit → Act → World → Prop} (hd : ∀ c, o.op ≠ .defer c)
    (h : o.wp P a w K (OnlyN Q)) : o.wpIn (Fence.wide.inRound l) n P a w K Q := by
  refine ⟨fun _ _ => trivial, ?_⟩
  have e : o.semAt (Fence.wide.inRound l).round a.eval = execOp a.eval o := Oper.semAt_eq _ _ _ hd
  rw [e]
  unfold Oper.wp at h
  generalize (execOp a.eval o).run P w = r at *
  cases r with
  | ok x w' =>
    cases x <;> simp only [Oper.upon, Oper.uponIn] at h ⊢
    case value v => exact h
    case skip => exact h
    case defer d => exact h
    case enter f args =>
      refine ⟨fun h => (by cases h), CallsIn.inRound l ((callsIn_wide.2 h).mono fun e w'' he => ?_)⟩
      cases e with
      | returned v => exact he
      | panicked c => exact he.elim
      | outgrown => exact (OnlyN.out he).elim
    case row row args =>
      refine ⟨fun h => (by cases h), fun c cs _ => ?_⟩
      obtain ⟨v, w'', hv, hs⟩ := h c cs
      exact ⟨v, w'', hv, stepsIn_wide.2 hs⟩
  | halt x w' =>
    cases x <;> simp only [Oper.upon, Oper.uponIn] at h ⊢
    exact h.elim
theorem wpOp_in {l n : Nat} {P : Program} {ops : Array Oper} {i : Nat} {a : Act} {w : World} {K : Act → World → Prop} {Q : Exit → Act → World → Prop} (hd : ∀ (j : Nat) (o : Oper) c, ops[j]? = some o → o.op ≠ .defer c)
    (h : wpOp P ops (OnlyN Q) i K a w) : wpOpIn (Fence.wide.inRound l) n P ops Q i K a w := by
  unfold wpOp at h
  unfold wpOpIn
  cases ho : ops[i]? with
  | none => rw [ho] at h; exact h
  | some o =>
    simp only [ho] at h ⊢
    split
    · rename_i hw
      simp only [hw, if_true] at h
      rcases h with h | ⟨_, h⟩
      · exact oper_in (fun c => hd i o c ho) h
      · exact (OnlyN.out h).elim
    · rename_i hw
      simp only [hw] at h
      exact ⟨fun _ _ => trivial, h⟩
theorem wpAny_in {l n : Nat} {P : Program} {ops : Array Oper} {md : Region.Mode} {Q : Exit → Act → World → Prop} (hd : ∀ (j : Nat) (o : Oper) c, ops[j]? = some o → o.op ≠ .defer c) :
    ∀ (fuel : Nat) (listed : Array Bool) (a : Act) (w : World), wpAny P md ops (OnlyN Q) fuel listed a w → wpAnyIn (Fence.wide.inRound l) n P md ops Q fuel listed a w
  | 0, _, _, _, h => h
  | fuel + 1, _, _, _, h => ⟨h.1, fun i hi => wpOp_in hd (wpOp_mono (fun a w h => wpAny_in hd fuel _ a w h) (h.2 i hi))⟩
/-- a region that draws, in a round -/
theorem round_held {l n id : Nat} {P : Program} {ops : Array Oper} {Q : Exit → Act → World → Prop} {S : World → Prop} {a : Act} {w : World} (hm : P.follows .mixedOrders = true)
    (hd : ∀ (j : Nat) (o : Oper) c, ops[j]? = some o → o.op ≠ .defer c) (hS : S w.drew)
    (h : S w.drew → wpAnyH P .any ops (OnlyN Q) S ops.size (Array.replicate ops.size false) a w.drew) : (Code.region id ops true).wpIn (Fence.wide.inRound l) n P Q a w :=
  wpIn_region_any hm (wpAny_in hd _ _ _ _ (wpAny_of_held _ _ _ _ (h hS)))
theorem noDefer {ops : Array Oper} (h : (ops.toList.all fun o => match o.op with | .defer _ => false | _ => true) = true) : ∀ (j : Nat) (o : Oper) c, ops[j]? = some o → o.op ≠ .defer c := fun j o c hj he => by
  have hm : o ∈ ops.toList := by
    rw [Array.mem_toList_iff]
    exact Array.mem_of_getElem? hj
  have := List.all_eq_true.1 h o hm
  rw [he] at this
  cases this
theorem wpListIn_append_run {F : Fence} {n : Nat} {P : Program} {ops : Array Oper} {rest : List Oper} {o : Oper} {a : Act} {w : World} {Q : Exit → Act → World → Prop}
    (hg : o.guard = none) (s x : Operand) (t : TypeId) (hop : o.op = Op.call { callee := Callee.builtin Builtin.append, args := #[s, x], argTypes := #[t, t] })
    (v1 v2 v' : Value) (w' : World) (hs : a.eval s = v1) (hx : a.eval x = v2) (hrun : (Builtin.append_ #[t, t] o.type #[v1, v2]).run P w = .ok v' w') (hK : wpListIn F n P ops Q rest (a.put o.dst v') w') :
    wpListIn F n P ops Q (o :: rest) a w := by
  refine wpListIn_plain hg fun K hK' => ?_
  unfold Oper.wpIn
  refine ⟨?_, ?_⟩
  · simp [Oper.about, hop, resolve, Target.leads, Sem.run_pure]
  · rw [Oper.semAt_plain F _ _ (by rw [hop]; intro c hc'; cases hc')]
    simp [execOp, hop, resolve, invoke, builtin, hs, hx, hrun, Result.andThen]
    exact hK' _ _ hK
end Go.Proofs.YtappjeepajjioaaGreatDoor

namespace Go.Proofs.YtappjeepajjioaaGreatDoor
open Go.RowKit Go.Shelf
attribute [local go_sem] Oper.semAt_some
theorem ownM_sl {m : Nat} {w : World} {v : Value} {n : Nat} {cs : List Value} (h : OwnM m w v n cs) : ∃ a k c, v = .slice a k c := by
  obtain ⟨a, c, rfl, _⟩ := h.shape
  exact ⟨a, n, c, rfl⟩
/-- what a call that makes a list of spans answers: a list of its own, and an error -/
def SpP (w : World) (c : Int) (L : List (Nat × Nat)) (r : Ending) (w' : World) : Prop :=
  Below w.heap.size w w' ∧ ∃ v, r = .returned (.tuple #[v, .int .i64 c]) ∧ OwnP w' v L ∧ ∀ k, v.ownBlock = some k → w.heap.size ≤ k
/-- H2 -/
def pathE (n i : Int) : Int := if 1 ≤ n ∧ n ≤ 1099511627776 then (if 0 ≤ i ∧ i < n then 0 else 80) else 81
def pathL (n i : Int) : List (Nat × Nat) := if pathE n i = 0 then Tree.pthF n.toNat 0 n.toNat i.toNat else []
/-- the world ahead of Path's loop, and what is said between two rounds -/
structure PthI (gi gb : Nat) (i : Int) (F : Nat → Prop) (L : List (Nat × Nat)) (v : Value) (W : World) : Prop where
  F : F = fun k => k = gi ∨ Col.F gb v k
  bi : Boxed W gi 3 (.int .i64 i)
  col : Col W gb 46 v L
  ne : v.ownBlock ≠ some gi
theorem PthI.keep {gi gb : Nat} {i : Int} {F : Nat → Prop} {L : List (Nat × Nat)} {v : Value} {W W' : World} {S : Nat → Prop} (h : PthI gi gb i F L v W) (hk : Keep S W W') (hs : ∀ k, F k → ¬ S k) : PthI gi gb i F L v W' := by
  have hF := h.F
  subst hF
  exact ⟨rfl, h.bi.keepF hk (hs _ (.inl rfl)), h.col.keep hk fun k e => hs k (.inr e), h.ne⟩
theorem PthI.below {gi gb : Nat} {i : Int} {F : Nat → Prop} {L : List (Nat × Nat)} {v : Value} {W W' : World} (h : PthI gi gb i F L v W) (hk : Below W.heap.size W W') : PthI gi gb i F L v W' := h.keep (Keep.ofBelow (S := fun _ => False) hk) fun _ _ e => e
theorem PthI.lt {gi gb : Nat} {i : Int} {F : Nat → Prop} {L : List (Nat × Nat)} {v : Value} {W : World} (h : PthI gi gb i F L v W) : ∀ k, F k → k < W.heap.size := by
  have hF := h.F
  subst hF
  rintro k (rfl | e)
  · exact h.bi.lt
  · exact h.col.lt k e
/-- a span is laid behind -/
theorem PthI.push {gi gb : Nat} {i : Int} {F : Nat → Prop} {L L' : List (Nat × Nat)} {v v' : Value} {W w' : World} (h : PthI gi gb i F L v W) (hgb : gi ≠ gb) (h1 : OwnP w' v' L') (g : Grow W w' v v') :
    Boxed w' gb 46 v ∧ PthI gi gb i (fun k => k = gi ∨ Col.F gb v' k) L' v' (w'.setCell ⟨gb, 0, none⟩ v') ∧ Mvs F W (w'.setCell ⟨gb, 0, none⟩ v') (fun k => k = gi ∨ Col.F gb v' k) := by
  obtain ⟨b1, c1, m1⟩ := h.col.push h1 g
  have hne : v'.ownBlock ≠ some gi := fun e => by
    rcases m1.new gi (.inr e) with (q | q) | q
    · exact hgb q
    · exact h.ne q
    · have := h.bi.lt; omega
  have hF := h.F
  subst hF
  refine ⟨b1, ⟨rfl, ?_, c1, hne⟩, m1.keep.mono fun k _ e => .inr e, ?_⟩
  · refine h.bi.keepF m1.keep fun e => ?_
    rcases e with e | e
    · exact hgb e
    · exact h.ne e
  · rintro k (e | e)
    · exact .inl (.inl e)
    · rcases m1.new k e with q | q
      · exact .inl (.inr q)
      · exact .inr q
end Go.Proofs.YtappjeepajjioaaGreatDoor

namespace Go.Proofs.YtappjeepajjioaaGreatDoor
open Go.RowKit Go.Shelf
namespace Chn
/-- a list grows: where its blocks lie then -/
theorem Grow.alt' {w w' : World} {v v' : Value} (g : Grow w w' v v') : ∀ k, v'.ownBlock = some k → v.ownBlock = some k ∨ w.heap.size ≤ k := fun k hk => by
  rcases g.alt with q | ⟨q, _⟩
  · exact .inl (by rw [← q]; exact hk)
  · exact .inr (q k hk)
set_option maxRecDepth 100000 in
set_option maxHeartbeats 1000000 in
/-- add: a span that is not there -/
theorem addC_any {w : World} {q b : Nat} {v : Value} {K : List (Nat × Nat)} (h : Td w q b v K) {x y : Nat} (hxy : x < y) (hy : y ≤ 1099511627776) (hK : ¬ (x, y) ∈ K) (hl : K.length ≤ 1000000) :
    Calls Tryz.prog 79 #[.pointer (some ⟨q, 0, none⟩), sg x y] w fun r w' => r = .returned (.tuple #[]) ∧ ∃ v', Td w' q b v' (K ++ [(x, y)]) ∧ Keep (Td.F q b v) w w' ∧ (∀ k, v'.ownBlock = some k → v.ownBlock = some k ∨ w.heap.size ≤ k) ∧ (∀ o, o ≠ 0 → w'.cell? ⟨q, o, none⟩ = w.cell? ⟨q, o, none⟩) ∧ ∀ o, w'.frozen? ⟨q, o, none⟩ = w.frozen? ⟨q, o, none⟩ := by
  have S0 := SpI.new w x y
  have b0 := (Below.refl w.heap.size w).alloc (Nat.le_refl _) (.cells #[.int .i64 (x : Int), .int .i64 (y : Int)] 54)
  have T0 := hid (h.below b0)
  have B0 := hid b0
  have i1 := fun w' => ends_any (x : Int) (y : Int) w'
  have HT := hid h
  have HS := hid S0
  obtain ⟨va, vc, hv, hvc1, hvc2⟩ := h.own.shape
  obtain ⟨n, hn⟩ : ∃ n, K.length = n := ⟨_, rfl⟩
  have HN := hid hn
  rw [hn] at hv
  have x0 := And.intro T0.out.c0 (And.intro T0.out.c1 (And.intro S0.c0 S0.c1))
  subst hv
  clear h b0 S0 hn hvc1 hvc2
  go_enter Tryz.func79, Tryz.ntmps79
  go_wp2
  go_region_held3 (fun w' => w'.cell? ⟨q, 0, none⟩ = some (.slice va n vc) ∧ w'.cell? ⟨q, 1, none⟩ = some (.map (some b)) ∧ w'.cell? ⟨w.heap.size, 0, none⟩ = some (.int .i64 (x : Int)) ∧ w'.cell? ⟨w.heap.size, 1, none⟩ = some (.int .i64 (y : Int))) (first | exact x2 | exact x1 | exact x0) (first | (go_at_call 113; refine (i1 _).mono ?_; rintro r w1 ⟨rfl, b1⟩; have b1 := drewBelow8 b1; have B1 := hid (B0.out.trans (b1.mono B0.out.size)); have T1 := hid (T0.out.below b1); have S1 := hid (HS.out.below b1); have x1 := And.intro T1.out.c0 (And.intro T1.out.c1 (And.intro S1.out.c0 S1.out.c1)); obtain ⟨f, hf, hg⟩ := T1.out.mp; obtain ⟨w2, hup, M2, bt2, z2⟩ := hf.put (s := (x, y)) ⟨by show x ≤ _; omega, by show y ≤ _; omega⟩ n; have HG := hid hg; have HM2 := hid M2; have K2 := hid (But.keepC bt2); have q2 := HT.out.lt; have x2 := And.intro ((World.cell?_of_block (w := w1) (K2.out.block q T1.out.lt T1.out.qb)).trans T1.out.c0) (And.intro ((World.cell?_of_block (w := w1) (K2.out.block q T1.out.lt T1.out.qb)).trans T1.out.c1) (And.intro (S1.out.keep K2.out (fun e => by have := HT.out.Flt b (.inr (.inl rfl)); omega)).c0 (S1.out.keep K2.out (fun e => by have := HT.out.Flt b (.inr (.inl rfl)); omega)).c1)); clear b1 hf hg M2 bt2 z2))
  have T2c0 := x2.1
  have O2 := hid (T1.out.own.keep K2.out fun k hk e => T1.out.vb (by rw [hk, e]))
  have f2 := (World.frozen?_of_block (w := w1) (K2.out.block q T1.out.lt T1.out.qb)).trans T1.out.f0
  have s0 := x2.2.2.1
  have s1 := x2.2.2.2
  have KW : Hid (Keep (Td.F q b (.slice va n vc)) w w2) := (Keep.ofBelow (S := Td.F q b (.slice va n vc)) B1.out).trans (K2.out.mono (T := Td.F q b (.slice va n vc)) fun k _ e => .inr (.inl e)) fun _ _ e => e
  have hq2 : q < w2.heap.size := Nat.lt_of_lt_of_le q2 KW.out.size
  obtain ⟨v', w3, hap, O3, G3⟩ := append_pair w2.drew (.slice va n vc) K x y O2.out (by omega)
  have g3 := hid G3.keep
  have ga := hid (Grow.alt' G3)
  have e3 := G3.keep.block q hq2 (fun e => HT.out.vq e)
  have c3 : w3.cell? ⟨q, 0, none⟩ = some (.slice va n vc) := (World.cell?_of_block (w := w2.drew) e3).trans T2c0
  have c3' : w3.cell? ⟨q, 1, none⟩ = some (.map (some b)) := (World.cell?_of_block (w := w2.drew) e3).trans x2.2.1
  have f3 : w3.frozen? ⟨q, 0, none⟩ = false := (World.frozen?_of_block (w := w2.drew) e3).trans f2
  have HC3 := hid c3'
  have HQ : Hid (w3.heap[q]? = w.heap[q]?) := e3.trans ((K2.out.block q T1.out.lt T1.out.qb).trans (B1.out.block q q2))
  have HO3 := hid O3
  obtain ⟨va', vn', vc', rfl⟩ := ownM_sl O3
  have hap : (Builtin.append_ #[46, 46] 46 #[.slice va n vc, .slice (some ⟨w2.heap.size, 0, none⟩) 1 1]).run Tryz.prog (w2.alloc (.cells #[.int .i64 (x : Int), .int .i64 (y : Int)] 54)).drew = .ok (.slice va' vn' vc') w3 := hap
  obtain ⟨v0, hv0⟩ : ∃ v0, Value.slice va n vc = v0 := ⟨_, rfl⟩
  rw [hv0] at hap T2c0 c3
  have HV0 := hid hv0
  clear x0 x1 x2 G3 O3 c3' e3 hv0 hup
  have bA := (Below.refl w2.heap.size w2.drew).alloc (Nat.le_refl _) (.cells #[.int .i64 (x : Int), .int .i64 (y : Int)] 54)
  have S2 : Hid (SpI w2 w.heap.size x y) := S1.out.keep K2.out (fun e => by have := HT.out.Flt b (.inr (.inl rfl)); omega)
  have SA := hid (SpI.below (w := w2.drew) S2.out bA)
  have c2A : (w2.drew.alloc (.cells #[.int .i64 (x : Int), .int .i64 (y : Int)] 54)).cell? ⟨q, 0, none⟩ = some v0 := (bA.cell (p := ⟨q, 0, none⟩) hq2).trans T2c0
  have S3 : Hid (SpI w3 w.heap.size x y) := SpI.keep (w := w2.drew) S2.out g3.out (fun e => by have := HT.out.own.lt _ e; omega)
  have y0 := And.intro S2.out.c0 S2.out.c1
  have y1 := And.intro SA.out.c0 SA.out.c1
  have y2 := And.intro S3.out.c0 S3.out.c1
  have S4 := S3.out.far q 0 (.slice va' vn' vc') (by omega)
  have y3 := And.intro S4.c0 S4.c1
  clear bA S4
  -- by hand
  have HO4 := hid (HO3.out.keep (Keep.ofSet (S := fun k => k = q) w3 q 0 (.slice va' vn' vc') rfl) fun k hk e => by
    rcases ga.out k hk with h1 | h1
    · exact HT.out.vq (by rw [HV0.out, ← e]; rw [HV0.out] at h1; exact h1)
    · have : w2.heap.size ≤ k := h1
      omega)
  have post : Hid (∃ v', Td (w3.setCell ⟨q, 0, none⟩ (.slice va' vn' vc')) q b v' (K ++ [(x, y)]) ∧ Keep (Td.F q b (.slice va n vc)) w (w3.setCell ⟨q, 0, none⟩ (.slice va' vn' vc')) ∧ (∀ k, v'.ownBlock = some k → (Value.slice va n vc).ownBlock = some k ∨ w.heap.size ≤ k) ∧ (∀ o, o ≠ 0 → (w3.setCell ⟨q, 0, none⟩ (.slice va' vn' vc')).cell? ⟨q, o, none⟩ = w.cell? ⟨q, o, none⟩) ∧ ∀ o, (w3.setCell ⟨q, 0, none⟩ (.slice va' vn' vc')).frozen? ⟨q, o, none⟩ = w.frozen? ⟨q, o, none⟩) := by
    have zb := HT.out.Flt b (.inr (.inl rfl))
    have zz := KW.out.size
    have ga' : ∀ k, (Value.slice va' vn' vc').ownBlock = some k → (Value.slice va n vc).ownBlock = some k ∨ w2.heap.size ≤ k := ga.out
    refine ⟨.slice va' vn' vc', ⟨World.cell?_setCell_same' _ _ _ (by rw [c3]; rfl), ?_, ?_, HO4.out, ⟨upd f (x, y) n, ?_, ?_⟩, ?_, HT.out.qb, ?_, ?_, ?_⟩, ?_, ?_, ?_, ?_⟩
    · exact (World.cell?_setCell_other _ _ _ _ (by simp)).trans HC3.out
    · rw [World.frozen?_setCell]; exact f3
    · have m3 := HM2.out.keep (w' := w3) ⟨g3.out.os, g3.out.tape, g3.out.output, g3.out.size, g3.out.block⟩ (fun e => HT.out.vb e)
      exact m3.heap (Below.heap_setCell _ _ _ b (Ne.symm HT.out.qb))
    · intro s j
      unfold upd
      by_cases hs : s = (x, y)
      · subst hs
        rw [if_pos rfl]
        constructor
        · intro e
          obtain rfl : n = j := Option.some.inj e
          rw [← HN.out, List.getElem?_append_right (Nat.le_refl _), Nat.sub_self]
          rfl
        · intro e
          by_cases hj : j < K.length
          · rw [List.getElem?_append_left hj] at e
            exact absurd (List.mem_of_getElem? e) hK
          · have := (List.getElem?_eq_some_iff.1 e).1
            rw [List.length_append, List.length_singleton] at this
            have := HN.out
            exact congrArg some (by omega)
      · rw [if_neg hs, HG.out s j]
        constructor
        · intro e
          rw [List.getElem?_append_left (List.getElem?_eq_some_iff.1 e).1]
          exact e
        · intro e
          by_cases hj : j < K.length
          · rw [List.getElem?_append_left hj] at e
            exact e
          · have h1 := (List.getElem?_eq_some_iff.1 e).1
            rw [List.length_append, List.length_singleton] at h1
            rw [List.getElem?_append_right (by omega), show j - K.length = 0 by omega] at e
            exact absurd (Option.some.inj e).symm hs
    · intro s hs
      rcases List.mem_append.1 hs with hs | hs
      · exact HT.out.lo s hs
      · obtain rfl := List.mem_singleton.1 hs
        exact ⟨hxy, hy⟩
    · intro e
      rcases ga' q e with h1 | h1
      · exact HT.out.vq h1
      · omega
    · intro e
      rcases ga' b e with h1 | h1
      · exact HT.out.vb h1
      · omega
    · have z3 := g3.out.size
      have : (w3.setCell ⟨q, 0, none⟩ (.slice va' vn' vc')).heap.size = w3.heap.size := by simp
      rw [this]
      exact Nat.lt_of_lt_of_le hq2 z3
    · refine (KW.out.trans (⟨g3.out.os, g3.out.tape, g3.out.output, g3.out.size, g3.out.block⟩ : Keep (fun k => (Value.slice va n vc).ownBlock = some k) w2 w3) fun k _ e => .inr (.inr e)).trans (Keep.ofSet (S := fun k => k = q) w3 q 0 (.slice va' vn' vc') rfl) fun k _ e => .inl e
    · intro k hk
      rcases ga' k hk with h1 | h1
      · exact .inl h1
      · exact .inr (by omega)
    · intro o ho
      exact (World.cell?_setCell_other _ _ _ _ (by intro e; injection e with _ e; exact ho e.symm)).trans (World.cell?_of_block (w := w) HQ.out)
    · intro o
      rw [World.frozen?_setCell]
      exact World.frozen?_of_block (w := w) HQ.out
  clear HO4
  have hapS := hap
  rw [← HV0.out] at hapS
  go_wp2
  refine wp_region_held_drew (S := (fun w' => w'.cell? ⟨w.heap.size, 0, none⟩ = some (.int .i64 (x : Int)) ∧ w'.cell? ⟨w.heap.size, 1, none⟩ = some (.int .i64 (y : Int)))) (by kernel_rfl) y0 (fun hHeld => ?_)
  refine wpAnyH_take (i := 0) (oi := ⟨some 15, _, _, _, _, _⟩) (v := .pointer (some ⟨q, 0, none⟩)) rfl (by kernel_rfl) (by kernel_rfl) (by kernel_rfl) (fun _ _ _ h => h) (Or.inl ⟨by rfl, ?_⟩) hHeld ?_
  · intro w' hw'
    simp [go_sem]
  dsimp only [Act.put]
  refine wpAnyH_take (i := 1) (oi := ⟨some 16, _, _, _, _, _⟩) (v := .pointer (some ⟨q, 0, none⟩)) rfl (by kernel_rfl) (by kernel_rfl) (by kernel_rfl) (fun _ _ _ h => h) (Or.inl ⟨by rfl, ?_⟩) hHeld ?_
  · intro w' hw'
    simp [go_sem]
  dsimp only [Act.put]
  refine wpAnyH_take (i := 2) (oi := ⟨some 17, _, _, _, _, _⟩) (v := .pointer (some ⟨q, 0, none⟩)) rfl (by kernel_rfl) (by kernel_rfl) (by kernel_rfl) (fun _ _ _ h => h) (Or.inl ⟨by rfl, ?_⟩) hHeld ?_
  · intro w' hw'
    simp [go_sem]
  dsimp only [Act.put]
  refine wpAnyH_take (i := 3) (oi := ⟨some 18, _, _, _, _, _⟩) (v := .pointer (some ⟨q, 0, none⟩)) rfl (by kernel_rfl) (by kernel_rfl) (by kernel_rfl) (fun _ _ _ h => h) (Or.inl ⟨by rfl, ?_⟩) hHeld ?_
  · intro w' hw'
    simp [go_sem]
  dsimp only [Act.put]
  refine wpAnyH_take (i := 5) (oi := ⟨some 20, _, _, _, _, _⟩) (v := sg x y) rfl (by kernel_rfl) (by kernel_rfl) (by kernel_rfl) (fun _ _ _ h => h) (Or.inl ⟨by rfl, ?_⟩) hHeld ?_
  · intro w' hw'
    obtain ⟨y0, y1⟩ := hw'; simp [go_sem, y0, y1]
  dsimp only [Act.put]
  refine wpAnyH_ready (rs := [4, 6]) (by kernel_rfl) (by decide) (AllReadyH.cons rfl (fun K' hK' => ?_) (AllReadyH.cons rfl (fun K' hK' => ?_) AllReadyH.nil))
  · rw [if_pos (by rfl)]
    have T2c1 : w2.drew.cell? ⟨q, 0, none⟩ = some v0 := T2c0
    go_wp2
    refine hK'.out _ _ y0 (fun hHeld => ?_)
    refine wpAnyH_ready (rs := [6]) (by kernel_rfl) (by decide) (AllReadyH.cons rfl (fun K' hK' => ?_) AllReadyH.nil)
    rw [if_pos (by rfl)]
    go_wp2
    refine hK'.out _ _ y1 (fun hHeld => ?_)
    refine wpAnyH_ready (rs := [7]) (by kernel_rfl) (by decide) (AllReadyH.cons rfl (fun K' hK' => ?_) AllReadyH.nil)
    refine step_append_run rfl _ _ 46 rfl v0 _ (.slice va' vn' vc') w3 rfl rfl hap ?_
    refine hK'.out _ _ y2 (fun hHeld => ?_)
    dsimp only [Act.put]
    refine wpAnyH_take (i := 8) (oi := ⟨some 23, _, _, _, _, _⟩) (v := .pointer (some ⟨q, 0, none⟩)) rfl (by kernel_rfl) (by kernel_rfl) (by kernel_rfl) (fun _ _ _ h => h) (Or.inl ⟨by rfl, ?_⟩) hHeld ?_
    · intro w' hw'
      simp [go_sem]
    dsimp only [Act.put]
    refine wpAnyH_take (i := 9) (oi := ⟨some 24, _, _, _, _, _⟩) (v := .pointer (some ⟨q, 0, none⟩)) rfl (by kernel_rfl) (by kernel_rfl) (by kernel_rfl) (fun _ _ _ h => h) (Or.inl ⟨by rfl, ?_⟩) hHeld ?_
    · intro w' hw'
      simp [go_sem]
    dsimp only [Act.put]
    refine wpAnyH_ready (rs := [10]) (by kernel_rfl) (by decide) (AllReadyH.cons rfl (fun K' hK' => ?_) AllReadyH.nil)
    rw [if_pos (by rfl)]
    go_wp2
    refine hK'.out _ _ y3 (fun _ => wpAnyH_done (by kernel_rfl) ?_ _)
    go_wp2
    go_end0
    exact ⟨rfl, post.out⟩
  · rw [if_pos (by rfl)]
    go_wp2
    refine hK'.out _ _ y1 (fun hHeld => ?_)
    refine wpAnyH_ready (rs := [4]) (by kernel_rfl) (by decide) (AllReadyH.cons rfl (fun K' hK' => ?_) AllReadyH.nil)
    rw [if_pos (by rfl)]
    go_wp2
    refine hK'.out _ _ y1 (fun hHeld => ?_)
    refine wpAnyH_ready (rs := [7]) (by kernel_rfl) (by decide) (AllReadyH.cons rfl (fun K' hK' => ?_) AllReadyH.nil)
    refine step_append_run rfl _ _ 46 rfl (.slice va n vc) _ (.slice va' vn' vc') w3 rfl rfl hapS ?_
    refine hK'.out _ _ y2 (fun hHeld => ?_)
    dsimp only [Act.put]
    refine wpAnyH_take (i := 8) (oi := ⟨some 23, _, _, _, _, _⟩) (v := .pointer (some ⟨q, 0, none⟩)) rfl (by kernel_rfl) (by kernel_rfl) (by kernel_rfl) (fun _ _ _ h => h) (Or.inl ⟨by rfl, ?_⟩) hHeld ?_
    · intro w' hw'
      simp [go_sem]
    dsimp only [Act.put]
    refine wpAnyH_take (i := 9) (oi := ⟨some 24, _, _, _, _, _⟩) (v := .pointer (some ⟨q, 0, none⟩)) rfl (by kernel_rfl) (by kernel_rfl) (by kernel_rfl) (fun _ _ _ h => h) (Or.inl ⟨by rfl, ?_⟩) hHeld ?_
    · intro w' hw'
      simp [go_sem]
    dsimp only [Act.put]
    refine wpAnyH_ready (rs := [10]) (by kernel_rfl) (by decide) (AllReadyH.cons rfl (fun K' hK' => ?_) AllReadyH.nil)
    rw [if_pos (by rfl)]
    go_wp2
    refine hK'.out _ _ y3 (fun _ => wpAnyH_done (by kernel_rfl) ?_ _)
    go_wp2
    go_end0
    exact ⟨rfl, post.out⟩
end Chn
end Go.Proofs.YtappjeepajjioaaGreatDoor
