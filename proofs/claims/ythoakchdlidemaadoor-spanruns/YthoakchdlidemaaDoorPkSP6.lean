import Derived.Test.YthoakchdlidemaaDoorPkSP5
import Derived.Test.YthoakchdlidemaaDoorPkO27
import Derived.Deep.RegionHeld3
import Derived.Test.YthoakchdlidemaaDoorPkO2
namespace Go.Proofs.YthoakchdlidemaaDoor
open Go.RowKit Go.Shelf
/-- append of one element that lies in a row of its own, to a list of whatever length -/
theorem append_oneL {m : Nat} (t e : TypeId) (z : Value) (by_ : Nat) (hu : Tryd.prog.underlying t = some (.slice e)) (hinfo : (Tryd.prog.info? e).map (fun i => (i.zero, i.size, i.bytes)) = some (some z, m, by_)) (hzs : z.cells.size = m)
    (w : World) (v : Value) (n0 : Nat) (cs : List Value) (xs : List Value) (hm : xs.length = m) (h1 : ∀ u ∈ xs, u.oneCell' = true) (hown : OwnM m w v n0 cs) (hb : (n0 + 1) * by_ ≤ 140737488355328) (hlen : n0 + 1 ≤ maxLen) :
    ∃ v' w', (Builtin.append_ #[t, t] t #[v, .slice (some ⟨w.heap.size, 0, none⟩) 1 1]).run Tryd.prog (w.alloc (.cells xs.toArray e)) = .ok v' w' ∧ OwnM m w' v' (n0 + 1) (cs ++ xs) ∧ Grow w w' v v' := by
  obtain ⟨i0, hi, hz0, hz1, hz2⟩ := info_parts hinfo
  have hsrc : Src Tryd.prog m t (.slice (some ⟨w.heap.size, 0, none⟩) 1 1) 1 xs (w.alloc (.cells xs.toArray e)) :=
    Src.ofSlice _ hu ⟨w.heap.size, 0, none⟩ 1 1 xs (by rw [hm, Nat.one_mul]) (fun j u hj => by
      rw [Addr.add_mid, cell_of_row _ _ _ _ _ _ (heap_alloc_new w _), Nat.zero_add]; simpa using hj) h1
  obtain ⟨v', w', a1, a2, a3⟩ := run_append_M (P := Tryd.prog) (w.alloc (.cells xs.toArray e)) t t t e i0 z hu hi hz0 hz1 hzs v n0 cs (hown.alloc _) _ 1 xs hsrc
    (by rw [hz2]; exact hb) hlen (fun _ => by omega)
  have hs := a3.size
  rw [size_alloc] at hs
  refine ⟨v', w', a1, a2, ⟨a3.os, a3.tape, a3.output, by omega, fun k hk hne => (a3.old k (by rw [size_alloc]; omega) hne).trans (Below.heap_alloc w _ k hk), ?_⟩⟩
  rcases a3.alt with h4 | ⟨h4, h5⟩
  · exact .inl h4
  · refine .inr ⟨fun k hk => ?_, fun k hk => (h5 k (by rw [size_alloc]; omega)).trans (Below.heap_alloc w _ k hk)⟩
    have := h4 k hk
    rw [size_alloc] at this
    omega
/-- pairs of numbers, as cells -/
def prs (l : List (Nat × Nat)) : List Value := l.flatMap fun q => [.int .i64 (q.1 : Int), .int .i64 (q.2 : Int)]
theorem prs_len (l : List (Nat × Nat)) : (prs l).length = l.length * 2 := by
  induction l with
  | nil => rfl
  | cons q l ih => rw [prs, List.flatMap_cons, List.length_append, ← prs, ih]; simp; omega
theorem prs_append (l m : List (Nat × Nat)) : prs (l ++ m) = prs l ++ prs m := List.flatMap_append
theorem prs_get : ∀ {l : List (Nat × Nat)} {j : Nat} {q : Nat × Nat}, l[j]? = some q → (prs l)[j * 2]? = some (.int .i64 (q.1 : Int)) ∧ (prs l)[j * 2 + 1]? = some (.int .i64 (q.2 : Int))
  | [], j, q, h => by simp at h
  | a :: l, 0, q, h => by
    obtain rfl : a = q := by simpa using h
    exact ⟨rfl, rfl⟩
  | a :: l, j + 1, q, h => by
    have := prs_get (l := l) (j := j) (by simpa using h)
    rw [show (j + 1) * 2 = j * 2 + 2 from by omega]
    exact this
/-- a list of pairs that is one's own -/
abbrev OwnP (w : World) (v : Value) (l : List (Nat × Nat)) : Prop := OwnM 2 w v l.length (prs l)
theorem infoSp8 : (Tryd.prog.info? 29).map (fun i => (i.zero, i.size, i.bytes)) = some (some (.agg #[.int .i64 0, .int .i64 0]), 2, 16) := by kernel_rfl
theorem append_pair (w : World) (v : Value) (l : List (Nat × Nat)) (x y : Nat) (h : OwnP w v l) (hl : l.length ≤ 1099511627776) :
    ∃ v' w', (Builtin.append_ #[24, 24] 24 #[v, .slice (some ⟨w.heap.size, 0, none⟩) 1 1]).run Tryd.prog (w.alloc (.cells #[.int .i64 (x : Int), .int .i64 (y : Int)] 29)) = .ok v' w' ∧ OwnP w' v' (l ++ [(x, y)]) ∧ Grow w w' v v' := by
  obtain ⟨v', w', h1, h2, h3⟩ := append_oneL 24 29 (.agg #[.int .i64 0, .int .i64 0]) 16 Tryd.underlying24 infoSp8 rfl w v l.length (prs l) [.int .i64 (x : Int), .int .i64 (y : Int)] rfl (fun u hu => by
    simp only [List.mem_cons, List.not_mem_nil, or_false] at hu
    rcases hu with rfl | rfl <;> rfl) h (by omega) (by rw [maxLen]; omega)
  refine ⟨v', w', h1, ?_, h3⟩
  unfold OwnP
  rw [prs_append, List.length_append]; exact h2
/-- a variable that holds a list of pairs of its own, t the list's type -/
structure Col (W : World) (gb : Nat) (t : TypeId) (v : Value) (L : List (Nat × Nat)) : Prop where
  box : Boxed W gb t v
  own : OwnP W v L
  ne : v.ownBlock ≠ some gb
/-- its blocks -/
def Col.F (gb : Nat) (v : Value) : Nat → Prop := fun k => k = gb ∨ v.ownBlock = some k
theorem Col.keep {W W' : World} {gb : Nat} {t : TypeId} {v : Value} {L : List (Nat × Nat)} {S : Nat → Prop} (h : Col W gb t v L) (hk : Keep S W W') (hs : ∀ k, Col.F gb v k → ¬ S k) : Col W' gb t v L :=
  ⟨h.box.keepF hk (hs _ (.inl rfl)), h.own.keep hk fun k e => hs k (.inr e), h.ne⟩
theorem Col.lt {W : World} {gb : Nat} {t : TypeId} {v : Value} {L : List (Nat × Nat)} (h : Col W gb t v L) : ∀ k, Col.F gb v k → k < W.heap.size := by
  rintro k (rfl | e)
  · exact h.box.lt
  · exact h.own.lt k e
theorem Col.below {W W' : World} {gb : Nat} {t : TypeId} {v : Value} {L : List (Nat × Nat)} (h : Col W gb t v L) (hk : Below W.heap.size W W') : Col W' gb t v L := h.keep (Keep.ofBelow (S := fun _ => False) hk) fun _ _ e => e
/-- the list is longer by one: what the store leaves -/
theorem Col.push {W w' : World} {gb : Nat} {t : TypeId} {v v' : Value} {L L' : List (Nat × Nat)} (h : Col W gb t v L) (h1 : OwnP w' v' L') (g : Grow W w' v v') :
    Boxed w' gb t v ∧ Col (w'.setCell ⟨gb, 0, none⟩ v') gb t v' L' ∧ Mvs (Col.F gb v) W (w'.setCell ⟨gb, 0, none⟩ v') (Col.F gb v') := by
  have b1 := h.box.keepF g.keep h.ne
  have hne : v'.ownBlock ≠ some gb := fun e => by
    rcases g.alt with q | ⟨q, _⟩
    · exact h.ne (by rw [← q]; exact e)
    · have := q gb e; have := h.box.lt; omega
  refine ⟨b1, ⟨b1.set v', ?_, hne⟩, ?_, ?_⟩
  · exact h1.keep (Keep.ofSet (S := fun k => k = gb) w' gb 0 v' rfl) fun k hk e => hne (e ▸ hk)
  · exact (g.keep.mono (T := Col.F gb v) fun k _ e => .inr e).trans (Keep.ofSet (S := fun k => k = gb) w' gb 0 v' rfl) fun k _ e => .inl e
  · rintro k (e | e)
    · exact .inl (.inl e)
    · rcases g.alt with q | ⟨q, _⟩
      · exact .inl (.inr (by rw [← q]; exact e))
      · exact .inr (q k e)
end Go.Proofs.YthoakchdlidemaaDoor

namespace Go.Proofs.YthoakchdlidemaaDoor
open Go.RowKit Go.Shelf
/-- so far turned round: k from each end -/
def Tnd (L M : List (Nat × Nat)) (i : Nat) : Prop := M.length = L.length ∧ ∀ k, k < L.length → M[k]? = if k < i ∨ L.length ≤ k + i then L[L.length - 1 - k]? else L[k]?
theorem Tnd.start (L : List (Nat × Nat)) : Tnd L L 0 := ⟨rfl, fun k hk => by rw [if_neg (by omega)]⟩
theorem Tnd.done {L M : List (Nat × Nat)} {i : Nat} (h : Tnd L M i) (hi : L.length ≤ 2 * i + 1) : M = L.reverse := by
  refine List.ext_getElem? fun k => ?_
  by_cases hk : k < L.length
  · rw [h.2 k hk, List.getElem?_reverse hk]
    by_cases h2 : k < i ∨ L.length ≤ k + i
    · rw [if_pos h2]
    · rw [if_neg h2, show L.length - 1 - k = k by omega]
  · rw [List.getElem?_eq_none (by rw [h.1]; omega), List.getElem?_eq_none (by rw [List.length_reverse]; omega)]
theorem Tnd.step {L M : List (Nat × Nat)} {i : Nat} (h : Tnd L M i) (hi : 2 * i + 1 < L.length) {p q : Nat × Nat} (hp : M[i]? = some p) (hq : M[L.length - 1 - i]? = some q) : Tnd L ((M.set i q).set (L.length - 1 - i) p) (i + 1) := by
  have h1 := h.2 i (by omega)
  have h2 := h.2 (L.length - 1 - i) (by omega)
  rw [if_neg (by omega), hp] at h1
  rw [if_neg (by omega), hq] at h2
  refine ⟨by rw [List.length_set, List.length_set, h.1], fun k hk => ?_⟩
  by_cases e1 : k = L.length - 1 - i
  · rw [if_pos (by omega), e1, List.getElem?_set_self (by rw [List.length_set, h.1]; omega), h1, show L.length - 1 - (L.length - 1 - i) = i by omega]
  · rw [List.getElem?_set_ne (by omega)]
    by_cases e2 : k = i
    · rw [if_pos (by omega), e2, List.getElem?_set_self (by rw [h.1]; omega), h2]
    · rw [List.getElem?_set_ne (by omega), h.2 k hk]
      by_cases e3 : k < i ∨ L.length ≤ k + i
      · rw [if_pos e3, if_pos (by omega)]
      · rw [if_neg e3, if_neg (by omega)]
/-- a pair is written over -/
theorem prs_set : ∀ (l : List (Nat × Nat)) (j : Nat) (x y : Nat), prs (l.set j (x, y)) = ((prs l).set (j * 2) (.int .i64 (x : Int))).set (j * 2 + 1) (.int .i64 (y : Int))
  | [], j, x, y => by simp [prs]
  | a :: l, 0, x, y => rfl
  | a :: l, j + 1, x, y => by
    have ih := prs_set l j x y
    rw [show (j + 1) * 2 = j * 2 + 1 + 1 from by omega]
    show _ :: _ :: prs (l.set j (x, y)) = _
    rw [ih]; rfl
theorem OwnM.setC {w : World} {g n c m : Nat} {cs : List Value} (h : OwnM m w (.slice (some ⟨g, 0, none⟩) n c) n cs) (j : Nat) (v : Value) (hj : j < cs.length) : OwnM m (w.setCell ⟨g, j, none⟩ v) (.slice (some ⟨g, 0, none⟩) n c) n (cs.set j v) := by
  rcases h with ⟨h, _⟩ | ⟨g', cap', h, h2, h3, h0, h4, h5, h6⟩
  · cases h
  · injection h with e1 e2 e3
    injection e1 with e1
    injection e1 with e1
    subst e1 e3
    refine .inr ⟨g, c, rfl, h2, h3, by rw [List.length_set]; exact h0, fun k u hk => ?_, fun k hk => ?_, by rw [show (w.setCell ⟨g, j, none⟩ v).heap.size = w.heap.size from by simp [World.setCell]]; exact h6⟩
    · rw [Nat.zero_add]
      by_cases e : k = j
      · subst e
        rw [List.getElem?_set_self hj] at hk
        injection hk with hk
        subst hk
        have := h4 k (cs[k]'hj) (by simp)
        rw [Nat.zero_add] at this
        exact World.cell?_setCell_same' _ _ _ (by rw [this]; rfl)
      · rw [List.getElem?_set_ne (by omega)] at hk
        have := h4 k u hk
        rw [Nat.zero_add] at this
        rw [World.cell?_setCell_other w _ _ _ (fun q => e (by injection q with _ q; exact q.symm))]
        exact this
    · have := h5 k hk
      refine ⟨?_, ?_⟩
      · by_cases e : 0 + k = j
        · rw [e] at this ⊢
          rw [World.cell?_setCell_same' w ⟨g, j, none⟩ v this.1]; rfl
        · rw [World.cell?_setCell_other w _ _ _ (fun q => e (by injection q with _ q; exact q.symm))]
          exact this.1
      · rw [World.frozen?_setCell]; exact this.2
end Go.Proofs.YthoakchdlidemaaDoor

namespace Go.Proofs.YthoakchdlidemaaDoor
open Go.RowKit Go.Shelf
theorem getD_of {l : List (Nat × Nat)} {k : Nat} (h : k < l.length) : ∃ x y, l[k]? = some (x, y) := ⟨(l[k]'h).1, (l[k]'h).2, by rw [List.getElem?_eq_getElem h]⟩
end Go.Proofs.YthoakchdlidemaaDoor

namespace Go.Proofs.YthoakchdlidemaaDoor
open Go.RowKit
/-- a region in a round is left at its end alone -/
def OnlyN (Q : Exit → Act → World → Prop) : Exit → Act → World → Prop
  | .normal, a, w => Q .normal a w
  | _, _, _ => False
theorem OnlyN.out {Q : Exit → Act → World → Prop} : ¬ LetsOut (OnlyN Q) := fun ⟨_, _, h⟩ => h
theorem oper_in {l n : Nat} {P : Program} {o : Oper} {a : Act} {w : World} {K : Act → World → Prop} {Q : Exit → Act → World → Prop} (hd : ∀ c, o.op ≠ .defer c)
    (h : o.wp P a w K (OnlyN Q)) : o.wpIn (Fence.wide.inRound l) n P a w K Q := by
  refine ⟨fun _ _ => trivial, ?_⟩
  have e : o.semAt (Fence.wide.inRound l).round a.eval = execOp a.eval o := Oper.semAt_eq _ _ _ hd
  rw [e]
  unfold Oper.wp at h
  generalize (execOp a.eval o).run P w = r at *
  cases r with
  | ok x w' =>
    cases x <;> simp only [Oper.upon, Oper.uponIn] at h ⊢
    case value v => exact h
    case skip => exact h
    case defer d => exact h
    case enter f args =>
      refine ⟨fun h => (by cases h), CallsIn.inRound l ((callsIn_wide.2 h).mono fun e w'' he => ?_)⟩
      cases e with
      | returned v => exact he
      | panicked c => exact he.elim
      | outgrown => exact (OnlyN.out he).elim
    case row row args =>
      refine ⟨fun h => (by cases h), fun c cs _ => ?_⟩
      obtain ⟨v, w'', hv, hs⟩ := h c cs
      exact ⟨v, w'', hv, stepsIn_wide.2 hs⟩
  | halt x w' =>
    cases x <;> simp only [Oper.upon, Oper.uponIn] at h ⊢
    exact h.elim
theorem wpOp_in {l n : Nat} {P : Program} {ops : Array Oper} {i : Nat} {a : Act} {w : World} {K : Act → World → Prop} {Q : Exit → Act → World → Prop} (hd : ∀ (j : Nat) (o : Oper) c, ops[j]? = some o → o.op ≠ .defer c)
    (h : wpOp P ops (OnlyN Q) i K a w) : wpOpIn (Fence.wide.inRound l) n P ops Q i K a w := by
  unfold wpOp at h
  unfold wpOpIn
  cases ho : ops[i]? with
  | none => rw [ho] at h; exact h
  | some o =>
    simp only [ho] at h ⊢
    split
    · rename_i hw
      simp only [hw, if_true] at h
      rcases h with h | ⟨_, h⟩
      · exact oper_in (fun c => hd i o c ho) h
      · exact (OnlyN.out h).elim
    · rename_i hw
      simp only [hw] at h
      exact ⟨fun _ _ => trivial, h⟩
theorem wpAny_in {l n : Nat} {P : Program} {ops : Array Oper} {md : Region.Mode} {Q : Exit → Act → World → Prop} (hd : ∀ (j : Nat) (o : Oper) c, ops[j]? = some o → o.op ≠ .defer c) :
    ∀ (fuel : Nat) (listed : Array Bool) (a : Act) (w : World), wpAny P md ops (OnlyN Q) fuel listed a w → wpAnyIn (Fence.wide.inRound l) n P md ops Q fuel listed a w
  | 0, _, _, _, h => h
  | fuel + 1, _, _, _, h => ⟨h.1, fun i hi => wpOp_in hd (wpOp_mono (fun a w h => wpAny_in hd fuel _ a w h) (h.2 i hi))⟩
/-- a region that draws, in a round -/
theorem round_held {l n id : Nat} {P : Program} {ops : Array Oper} {Q : Exit → Act → World → Prop} {S : World → Prop} {a : Act} {w : World} (hm : P.follows .mixedOrders = true)
    (hd : ∀ (j : Nat) (o : Oper) c, ops[j]? = some o → o.op ≠ .defer c) (hS : S w.drew)
    (h : S w.drew → wpAnyH P .any ops (OnlyN Q) S ops.size (Array.replicate ops.size false) a w.drew) : (Code.region id ops true).wpIn (Fence.wide.inRound l) n P Q a w :=
  wpIn_region_any hm (wpAny_in hd _ _ _ _ (wpAny_of_held _ _ _ _ (h hS)))
theorem noDefer {ops : Array Oper} (h : (ops.toList.all fun o => match o.op with | .defer _ => false | _ => true) = true) : ∀ (j : Nat) (o : Oper) c, ops[j]? = some o → o.op ≠ .defer c := fun j o c hj he => by
  have hm : o ∈ ops.toList := by
    rw [Array.mem_toList_iff]
    exact Array.mem_of_getElem? hj
  have := List.all_eq_true.1 h o hm
  rw [he] at this
  cases this
theorem wpListIn_append_run {F : Fence} {n : Nat} {P : Program} {ops : Array Oper} {rest : List Oper} {o : Oper} {a : Act} {w : World} {Q : Exit → Act → World → Prop}
    (hg : o.guard = none) (s x : Operand) (t : TypeId) (hop : o.op = Op.call { callee := Callee.builtin Builtin.append, args := #[s, x], argTypes := #[t, t] })
    (v1 v2 v' : Value) (w' : World) (hs : a.eval s = v1) (hx : a.eval x = v2) (hrun : (Builtin.append_ #[t, t] o.type #[v1, v2]).run P w = .ok v' w') (hK : wpListIn F n P ops Q rest (a.put o.dst v') w') :
    wpListIn F n P ops Q (o :: rest) a w := by
  refine wpListIn_plain hg fun K hK' => ?_
  unfold Oper.wpIn
  refine ⟨?_, ?_⟩
  · simp [Oper.about, hop, resolve, Target.leads, Sem.run_pure]
  · rw [Oper.semAt_plain F _ _ (by rw [hop]; intro c hc'; cases hc')]
    simp [execOp, hop, resolve, invoke, builtin, hs, hx, hrun, Result.andThen]
    exact hK' _ _ hK
end Go.Proofs.YthoakchdlidemaaDoor

namespace Go.Proofs.YthoakchdlidemaaDoor
open Go.RowKit Go.Shelf
attribute [local go_sem] Oper.semAt_some
theorem ownM_sl {m : Nat} {w : World} {v : Value} {n : Nat} {cs : List Value} (h : OwnM m w v n cs) : ∃ a k c, v = .slice a k c := by
  obtain ⟨a, c, rfl, _⟩ := h.shape
  exact ⟨a, n, c, rfl⟩
/-- what a call that makes a list of spans answers: a list of its own, and an error -/
def SpP (w : World) (c : Int) (L : List (Nat × Nat)) (r : Ending) (w' : World) : Prop :=
  Below w.heap.size w w' ∧ ∃ v, r = .returned (.tuple #[v, .int .i64 c]) ∧ OwnP w' v L ∧ ∀ k, v.ownBlock = some k → w.heap.size ≤ k
/-- H2 -/
def pathE (n i : Int) : Int := if 1 ≤ n ∧ n ≤ 1099511627776 then (if 0 ≤ i ∧ i < n then 0 else 80) else 81
def pathL (n i : Int) : List (Nat × Nat) := if pathE n i = 0 then Tree.pthF n.toNat 0 n.toNat i.toNat else []
/-- the world ahead of Path's loop, and what is said between two rounds -/
structure PthI (gi gb : Nat) (i : Int) (F : Nat → Prop) (L : List (Nat × Nat)) (v : Value) (W : World) : Prop where
  F : F = fun k => k = gi ∨ Col.F gb v k
  bi : Boxed W gi 3 (.int .i64 i)
  col : Col W gb 24 v L
  ne : v.ownBlock ≠ some gi
theorem PthI.keep {gi gb : Nat} {i : Int} {F : Nat → Prop} {L : List (Nat × Nat)} {v : Value} {W W' : World} {S : Nat → Prop} (h : PthI gi gb i F L v W) (hk : Keep S W W') (hs : ∀ k, F k → ¬ S k) : PthI gi gb i F L v W' := by
  have hF := h.F
  subst hF
  exact ⟨rfl, h.bi.keepF hk (hs _ (.inl rfl)), h.col.keep hk fun k e => hs k (.inr e), h.ne⟩
theorem PthI.below {gi gb : Nat} {i : Int} {F : Nat → Prop} {L : List (Nat × Nat)} {v : Value} {W W' : World} (h : PthI gi gb i F L v W) (hk : Below W.heap.size W W') : PthI gi gb i F L v W' := h.keep (Keep.ofBelow (S := fun _ => False) hk) fun _ _ e => e
theorem PthI.lt {gi gb : Nat} {i : Int} {F : Nat → Prop} {L : List (Nat × Nat)} {v : Value} {W : World} (h : PthI gi gb i F L v W) : ∀ k, F k → k < W.heap.size := by
  have hF := h.F
  subst hF
  rintro k (rfl | e)
  · exact h.bi.lt
  · exact h.col.lt k e
/-- a span is laid behind -/
theorem PthI.push {gi gb : Nat} {i : Int} {F : Nat → Prop} {L L' : List (Nat × Nat)} {v v' : Value} {W w' : World} (h : PthI gi gb i F L v W) (hgb : gi ≠ gb) (h1 : OwnP w' v' L') (g : Grow W w' v v') :
    Boxed w' gb 24 v ∧ PthI gi gb i (fun k => k = gi ∨ Col.F gb v' k) L' v' (w'.setCell ⟨gb, 0, none⟩ v') ∧ Mvs F W (w'.setCell ⟨gb, 0, none⟩ v') (fun k => k = gi ∨ Col.F gb v' k) := by
  obtain ⟨b1, c1, m1⟩ := h.col.push h1 g
  have hne : v'.ownBlock ≠ some gi := fun e => by
    rcases m1.new gi (.inr e) with (q | q) | q
    · exact hgb q
    · exact h.ne q
    · have := h.bi.lt; omega
  have hF := h.F
  subst hF
  refine ⟨b1, ⟨rfl, ?_, c1, hne⟩, m1.keep.mono fun k _ e => .inr e, ?_⟩
  · refine h.bi.keepF m1.keep fun e => ?_
    rcases e with e | e
    · exact hgb e
    · exact h.ne e
  · rintro k (e | e)
    · exact .inl (.inl e)
    · rcases m1.new k e with q | q
      · exact .inl (.inr q)
      · exact .inr q
end Go.Proofs.YthoakchdlidemaaDoor

namespace Go.Proofs.YthoakchdlidemaaDoor
open Go.RowKit Go.Shelf
attribute [local go_sem] Oper.semAt_some
/-- H3 -/
def proofE (m n : Int) : Int := if 1 ≤ m ∧ m ≤ n ∧ n ≤ 1099511627776 then 0 else 81
def proofL (m n : Int) : List (Nat × Nat) := if proofE m n = 0 then Tree.prfF n.toNat 0 n.toNat m.toNat else []
def Gt8 (m : Nat) (l : List (Nat × Nat)) : Prop := ∀ s ∈ l, m < s.2
theorem Gt8.snoc {m : Nat} {l : List (Nat × Nat)} {x y : Nat} (h : Gt8 m l) (hq : m < y) : Gt8 m (l ++ [(x, y)]) := fun s hs => by
  rcases List.mem_append.1 hs with h' | h'
  · exact h s h'
  · obtain rfl : s = (x, y) := by simpa using h'
    exact hq
def Exi (c : Code) : Prop := c = .exit 0
end Go.Proofs.YthoakchdlidemaaDoor

namespace Go.Proofs.YthoakchdlidemaaDoor
open Go.RowKit Go.Shelf
def BsP (is : List Nat) (p : Nat) (w : World) (e : Ending) (w' : World) : Prop := (∃ q, e = .returned (.tuple #[.int .i64 (Tree.cnt p is : Nat), .bool q])) ∧ w' = w
end Go.Proofs.YthoakchdlidemaaDoor

namespace Go.Proofs.YthoakchdlidemaaDoor
open Go.RowKit Go.Shelf
theorem cnt_filter (p : Nat) (is : List Nat) (hs : is.Pairwise (· < ·)) : Tree.cnt p is = (is.filter (· < p)).length := by
  rw [← Tree.cnt_take p is hs, List.length_take, Nat.min_eq_left (Tree.cnt_le p is)]
theorem wit_count (is : List Nat) {b e : Nat} (h : b ≤ e) : (is.filter (· < e)).length = (is.filter (· < b)).length + (Tree.wit is b e).length := by
  unfold Tree.wit
  induction is with
  | nil => rfl
  | cons i is ih =>
    by_cases h1 : i < b
    · rw [List.filter_cons_of_pos (by simpa using (show i < e by omega)), List.filter_cons_of_pos (by simpa using h1), List.filter_cons_of_neg (by simp; omega)]
      simp only [List.length_cons]; omega
    · by_cases h2 : i < e
      · rw [List.filter_cons_of_pos (by simpa using h2), List.filter_cons_of_neg (by simpa using h1), List.filter_cons_of_pos (by simp; omega)]
        simp only [List.length_cons]; omega
      · rw [List.filter_cons_of_neg (by simpa using h2), List.filter_cons_of_neg (by simpa using h1), List.filter_cons_of_neg (by simp; omega)]
        exact ih
theorem cnt_wit (is : List Nat) (hs : is.Pairwise (· < ·)) {b e : Nat} (h : b ≤ e) : Tree.cnt e is = Tree.cnt b is + (Tree.wit is b e).length := by
  rw [cnt_filter e is hs, cnt_filter b is hs, wit_count is h]
set_option maxRecDepth 100000 in
theorem spanned_any (x y : Int) (w : World) : Calls Tryd.prog 23 #[sg x y] w fun r w' =>
    r = .returned (.func (.func 51) #[] #[.pointer (some ⟨w.heap.size, 0, none⟩)]) ∧ w' = w.alloc (.cells #[.int .i64 x, .int .i64 y] 29) := by
  go_enter Tryd.func23, Tryd.ntmps23
  go_wp2
  go_ret
  exact ⟨rfl, rfl⟩
set_option maxRecDepth 100000 in
set_option maxHeartbeats 2000000 in
theorem spanned1_any (x y b e cb : Nat) (W : World) (he : e ≤ 1099511627776) (hb : b ≤ e) (hy : y ≤ 1099511627776) (hx : x ≤ y) (hc : SpI W cb x y) :
    Calls Tryd.prog 51 #[sg b e, .pointer (some ⟨cb, 0, none⟩)] W fun r W' => r = .returned (.int .i64 (Tree.shr x y b e : Nat)) ∧ Below W.heap.size W W' := by
  have S0 := SpI.new W b e
  have hB := (Below.refl _ W).alloc (Nat.le_refl _) (.cells #[.int .i64 (b : Int), .int .i64 (e : Int)] 29)
  have hc1 := hc.below hB
  have c0 := S0.c0
  have c1 := S0.c1
  have d0 := hc1.c0
  have d1 := hc1.c1
  go_enter Tryd.func51, Tryd.ntmps51
  go_wp2
  go_ret
  refine ⟨?_, hB⟩
  have e1 : ((Tree.shr x y b e : Nat) : Int) = max 0 (min (e : Int) (y : Int) - max (b : Int) (x : Int)) := by unfold Tree.shr; omega
  rw [e1]; rfl
/-- a function that counts the wanted leaves of a span, by c; it looks at what lies below B and at the block cb -/
def Cnts (f : Nat) (lb : Array Value) (N : Nat) (c : Nat → Nat → Nat) (C : Nat → Prop) (w : World) : Prop :=
  (∀ args w, (callFunc f args).run Tryd.prog w = .ok (.enter f args) w) ∧
  ∀ (b e : Nat) (W : World), b ≤ e → e ≤ N → (∀ k, C k → W.heap[k]? = w.heap[k]?) → w.heap.size ≤ W.heap.size →
    Calls Tryd.prog f (#[sg b e] ++ lb) W fun r W' => r = .returned (.int .i64 (c b e : Nat)) ∧ Below W.heap.size W W'
theorem AtI.keepB {w w' : World} {a : Option Addr} {l : List Int} {B : Nat} (h : AtI w a l) (hk : ∀ k, k < B → w'.heap[k]? = w.heap[k]?) (hB : w.heap.size ≤ B) (hs : w.heap.size ≤ w'.heap.size) : AtI w' a l := fun j p hp => by
  obtain ⟨x, hx, hlt, hc⟩ := h j p hp
  refine ⟨x, hx, by omega, ?_⟩
  rw [← hc]
  exact World.cell?_of_block (a := x.add j) (hk _ (by rw [addr_block]; omega))
theorem cnts_spanned (x y N B : Nat) (w : World) (cb : Nat) (hN : N ≤ 1099511627776) (hy : y ≤ 1099511627776) (hx : x ≤ y) (hc : SpI w cb x y) :
    Cnts 51 #[.pointer (some ⟨cb, 0, none⟩)] N (Tree.shr x y) (fun k => k < B ∨ k = cb) w := by
  refine ⟨enters_of Tryd.func51 (by kernel_rfl) rfl, fun b e W hbe he hk _ => ?_⟩
  exact spanned1_any x y b e cb W (by omega) hbe hy hx ((hk cb (.inr rfl)).trans hc)
end Go.Proofs.YthoakchdlidemaaDoor

namespace Go.Proofs.YthoakchdlidemaaDoor
open Go.RowKit Go.Shelf
attribute [local go_sem] Oper.semAt_some
set_option maxRecDepth 100000 in
theorem bare_any (n : Int) (f : Nat) (lb : Array Value) (w : World) : Calls Tryd.prog 50 #[.int .i64 n, .func (.func f) #[] lb] w fun r w' =>
    r = .returned (.func (.func 73) #[] #[.pointer (some ⟨w.heap.size, 0, none⟩), .pointer (some ⟨w.heap.size + 1, 0, none⟩)]) ∧ w' = (w.alloc (.cells #[.int .i64 n] 3)).alloc (.cells #[.func (.func f) #[] lb] 62) := by
  go_enter Tryd.func50, Tryd.ntmps50
  go_wp2
  go_ret
  exact ⟨rfl, rfl⟩
/-- append of two pairs that lie in a row of their own -/
theorem append_two (w : World) (v : Value) (l : List (Nat × Nat)) (x y x' y' : Nat) (h : OwnP w v l) (hl : l.length ≤ 1099511627776) :
    ∃ v' w', (Builtin.append_ #[24, 24] 24 #[v, .slice (some ⟨w.heap.size, 0, none⟩) 2 2]).run Tryd.prog (w.alloc (.cells #[.int .i64 (x : Int), .int .i64 (y : Int), .int .i64 (x' : Int), .int .i64 (y' : Int)] 29)) = .ok v' w' ∧ OwnP w' v' (l ++ [(x, y), (x', y')]) ∧ Grow w w' v v' := by
  obtain ⟨i0, hi, hz0, hz1, hz2⟩ := info_parts infoSp8
  have hsrc : Src Tryd.prog 2 24 (.slice (some ⟨w.heap.size, 0, none⟩) 2 2) 2 [.int .i64 (x : Int), .int .i64 (y : Int), .int .i64 (x' : Int), .int .i64 (y' : Int)] (w.alloc (.cells [.int .i64 (x : Int), .int .i64 (y : Int), .int .i64 (x' : Int), .int .i64 (y' : Int)].toArray 29)) :=
    Src.ofSlice _ Tryd.underlying24 ⟨w.heap.size, 0, none⟩ 2 2 _ rfl (fun j u hj => by
      rw [Addr.add_mid, cell_of_row _ _ _ _ _ _ (heap_alloc_new w _), Nat.zero_add]; simpa using hj) (fun u hu => by
      simp only [List.mem_cons, List.not_mem_nil, or_false] at hu
      rcases hu with rfl | rfl | rfl | rfl <;> rfl)
  obtain ⟨v', w', a1, a2, a3⟩ := run_append_M (P := Tryd.prog) (w.alloc (.cells [.int .i64 (x : Int), .int .i64 (y : Int), .int .i64 (x' : Int), .int .i64 (y' : Int)].toArray 29)) 24 24 24 29 i0 (.agg #[.int .i64 0, .int .i64 0]) Tryd.underlying24 hi hz0 hz1 rfl v l.length (prs l) (OwnM.alloc h _) _ 2 _ hsrc
    (by rw [hz2]; omega) (by rw [maxLen]; omega) (fun _ => by omega)
  have hs := a3.size
  rw [size_alloc] at hs
  refine ⟨v', w', a1, ?_, ⟨a3.os, a3.tape, a3.output, by omega, fun k hk hne => (a3.old k (by rw [size_alloc]; omega) hne).trans (Below.heap_alloc w _ k hk), ?_⟩⟩
  · unfold OwnP
    rw [prs_append, List.length_append]; exact a2
  rcases a3.alt with h4 | ⟨h4, h5⟩
  · exact .inl h4
  · refine .inr ⟨fun k hk => ?_, fun k hk => (h5 k (by rw [size_alloc]; omega)).trans (Below.heap_alloc w _ k hk)⟩
    have := h4 k hk
    rw [size_alloc] at this
    omega
/-- what is to be done: how much -/
def stW (l : List (Nat × Nat)) : Nat := (l.map fun s => 2 * (s.2 - s.1) - 1).sum
def stM (v : Value) (w : World) : Nat := match v with
  | .slice (some x) n _ => ((List.range n).map fun j => 2 * (memN w x.block (j * 2 + 1) - memN w x.block (j * 2)) - 1).sum
  | _ => 0
theorem stM_eq {w : World} {v : Value} {l : List (Nat × Nat)} (h : OwnP w v l) : stM v w = stW l := by
  rcases h with ⟨rfl, h1, h2⟩ | ⟨g, cap, rfl, h2, h3, h0, h4, h5, h6⟩
  · rw [List.length_eq_zero_iff.1 h1]; rfl
  · show List.sum _ = List.sum _
    refine congrArg List.sum (List.ext_getElem? fun j => ?_)
    by_cases hj : j < l.length
    · have hq : l[j]? = some l[j] := List.getElem?_eq_getElem hj
      have a0 := h4 _ _ (prs_get hq).1
      have a1 := h4 _ _ (prs_get hq).2
      rw [Nat.zero_add] at a0 a1
      have e0 : memN w g (j * 2) = (l[j]).1 := by unfold memN; rw [a0]; exact Int.toNat_natCast _
      have e1 : memN w g (j * 2 + 1) = (l[j]).2 := by unfold memN; rw [a1]; exact Int.toNat_natCast _
      rw [List.getElem?_map, List.getElem?_map, hq, List.getElem?_range hj]
      simp only [Option.map_some, e0, e1]
    · rw [List.getElem?_eq_none (by rw [List.length_map, List.length_range]; omega), List.getElem?_eq_none (by rw [List.length_map]; omega)]
theorem stW_snoc (l : List (Nat × Nat)) (s : Nat × Nat) : stW (l ++ [s]) = stW l + (2 * (s.2 - s.1) - 1) := by simp [stW, List.sum_append]
/-- the leaves of all of them -/
def stL (l : List (Nat × Nat)) : Nat := (l.map fun s => s.2 - s.1).sum
theorem stL_snoc (l : List (Nat × Nat)) (s : Nat × Nat) : stL (l ++ [s]) = stL l + (s.2 - s.1) := by simp [stL, List.sum_append]
theorem stL_len {l : List (Nat × Nat)} (h : ∀ s ∈ l, s.1 < s.2) : l.length ≤ stL l := by
  induction l with
  | nil => exact Nat.le_refl _
  | cons s l ih =>
    have h1 := h s List.mem_cons_self
    have h2 := ih fun t ht => h t (List.mem_cons_of_mem _ ht)
    have : stL (s :: l) = (s.2 - s.1) + stL l := by simp [stL]
    rw [List.length_cons, this]; omega
/-- what they will tell: the last is looked at first -/
def stO (n : Nat) (c : Nat → Nat → Nat) : List (Nat × Nat) → List (Nat × Nat)
  | [] => []
  | s :: l => stO n c l ++ Tree.barF n s.1 (s.2 - s.1) c
theorem stO_snoc (n : Nat) (c : Nat → Nat → Nat) : ∀ (l : List (Nat × Nat)) (s : Nat × Nat), stO n c (l ++ [s]) = Tree.barF n s.1 (s.2 - s.1) c ++ stO n c l
  | [], s => by simp [stO]
  | t :: l, s => by rw [List.cons_append, stO, stO_snoc n c l s, stO, List.append_assoc]
end Go.Proofs.YthoakchdlidemaaDoor

namespace Go.Proofs.YthoakchdlidemaaDoor
open Go.RowKit Go.Shelf
attribute [local go_sem] Oper.semAt_some
/-- what lies to be done, in memory; W: the world at the beginning, F the blocks of the rounds -/
structure Stk (W wr : World) (F F' : Nat → Prop) (v : Value) (st : List (Nat × Nat)) (N : Nat) : Prop where
  own : OwnP wr v st
  hi : ∀ k, v.ownBlock = some k → W.heap.size ≤ k
  out : ∀ k, v.ownBlock = some k → ¬ F' k
  keep : Keep F W wr
  new : ∀ k, F' k → F k ∨ W.heap.size ≤ k
  lt : ∀ s ∈ st, s.1 < s.2 ∧ s.2 ≤ N
  sum : stL st ≤ N
theorem Stk.below {W wr w' : World} {F F' : Nat → Prop} {v : Value} {st : List (Nat × Nat)} {N : Nat} (h : Stk W wr F F' v st N) (hb : Below wr.heap.size wr w') : Stk W w' F F' v st N :=
  ⟨h.own.below hb, h.hi, h.out, h.keep.trans (Keep.ofBelow (S := F) hb) fun _ _ e => e, h.new, h.lt, h.sum⟩
/-- behind a round -/
theorem Stk.round {W wr w' : World} {F F' F3 : Nat → Prop} {v : Value} {st : List (Nat × Nat)} {N : Nat} (h : Stk W wr F F' v st N) (hm : Mvs F' wr w' F3) : Stk W w' F F3 v st N := by
  have h0 := h.keep.size
  refine ⟨h.own.keep hm.keep h.out, h.hi, fun k hk e => ?_, ?_, fun k hk => ?_, h.lt, h.sum⟩
  · rcases hm.new k e with q | q
    · exact h.out k hk q
    · have := h.own.lt k hk; omega
  · refine h.keep.trans hm.keep fun k hk e => ?_
    rcases h.new k e with q | q
    · exact q
    · omega
  · rcases hm.new k hk with q | q
    · exact h.new k q
    · exact .inr (by omega)
/-- the last one is taken off -/
theorem Stk.pop {W wr : World} {F F' : Nat → Prop} {g n c : Nat} {st : List (Nat × Nat)} {s : Nat × Nat} {N : Nat} (h : Stk W wr F F' (.slice (some ⟨g, 0, none⟩) n c) (st ++ [s]) N) : Stk W wr F F' (.slice (some ⟨g, 0, none⟩) st.length c) st N := by
  have hs := h.sum
  rw [stL_snoc] at hs
  refine ⟨?_, h.hi, h.out, h.keep, h.new, fun t ht => h.lt t (List.mem_append.2 (.inl ht)), by omega⟩
  have ho := h.own
  obtain ⟨a', c', e, _, _⟩ := ho.shape
  injection e with _ e _
  subst e
  have := OwnM.cut ho (k := st.length) (by rw [List.length_append]; omega)
  rw [prs_append, List.take_left' (by rw [prs_len])] at this
  exact this
/-- two are laid behind -/
theorem Stk.push {W wr w' : World} {F F' : Nat → Prop} {v v' : Value} {st : List (Nat × Nat)} {N b m e : Nat} (h : Stk W wr F F' v st N) (h1 : OwnP w' v' (st ++ [(m, e), (b, m)])) (g : Grow wr w' v v') (hbm : b < m) (hme : m < e) (heN : e ≤ N) (hsum : stL st + (e - b) ≤ N) (hF : ∀ k, F' k → k < wr.heap.size) :
    Stk W w' F F' v' (st ++ [(m, e), (b, m)]) N ∧ Keep (fun k => v.ownBlock = some k) wr w' := by
  have h0 := h.keep.size
  refine ⟨⟨h1, fun k hk => ?_, fun k hk e' => ?_, ?_, h.new, ?_, ?_⟩, g.keep⟩
  · rcases g.alt with q | ⟨q, _⟩
    · exact h.hi k (by rw [← q]; exact hk)
    · have := q k hk; omega
  · rcases g.alt with q | ⟨q, _⟩
    · exact h.out k (by rw [← q]; exact hk) e'
    · have := q k hk; have := hF k e'; omega
  · exact h.keep.trans g.keep fun k hk e' => by have := h.hi k e'; omega
  · intro s hs
    rcases List.mem_append.1 hs with q | q
    · exact h.lt s q
    · rcases List.mem_cons.1 q with rfl | q
      · exact ⟨hme, heN⟩
      · obtain rfl : s = (b, m) := by simpa using q
        exact ⟨hbm, by show m ≤ N; omega⟩
  · rw [show st ++ [(m, e), (b, m)] = (st ++ [(m, e)]) ++ [(b, m)] by simp, stL_snoc, stL_snoc]
    show stL st + (e - m) + (m - b) ≤ N
    omega
/-- a word with which one looks at the last pair -/
theorem Stk.top {W wr : World} {F F' : Nat → Prop} {v : Value} {st : List (Nat × Nat)} {b e N : Nat} (h : Stk W wr F F' v (st ++ [(b, e)]) N) : ∃ g c, v = .slice (some ⟨g, 0, none⟩) (st.length + 1) c ∧ st.length + 1 ≤ c ∧ c ≤ 9223372036854775807 ∧ wr.cell? ⟨g, st.length * 2, none⟩ = some (.int .i64 (b : Int)) ∧ wr.cell? ⟨g, st.length * 2 + 1, none⟩ = some (.int .i64 (e : Int)) := by
  have hq : (st ++ [(b, e)])[st.length]? = some (b, e) := by simp
  obtain ⟨g, c, rfl, c0, _⟩ := h.own.cell (prs_get hq).1
  obtain ⟨g', c', e1, c1, _⟩ := h.own.cell (prs_get hq).2
  injection e1 with e1 _ e3
  injection e1 with e1
  injection e1 with e1
  subst e1 e3
  obtain ⟨_, _, e4, h1, h2⟩ := h.own.shape
  injection e4 with _ e5 e6
  rw [List.length_append] at h1
  subst e6
  exact ⟨g, c, by rw [List.length_append]; rfl, h1, h2, c0, c1⟩
end Go.Proofs.YthoakchdlidemaaDoor
