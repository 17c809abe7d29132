import Derived.Test.YtblmaokonhdjaaaGreatDoorPkFS1
import Derived.Test.YtblmaokonhdjaaaGreatDoorPkO20
namespace Go.Proofs.YtblmaokonhdjaaaGreatDoor
open Go.RowKit Go.Shelf
attribute [local go_sem] Oper.semAt_some
theorem ownM_sl {m : Nat} {w : World} {v : Value} {n : Nat} {cs : List Value} (h : OwnM m w v n cs) : ∃ a k c, v = .slice a k c := by
  obtain ⟨a, c, rfl, _⟩ := h.shape
  exact ⟨a, n, c, rfl⟩
/-- what a call that makes a list of spans answers: a list of its own, and an error -/
def SpP (w : World) (c : Int) (L : List (Nat × Nat)) (r : Ending) (w' : World) : Prop :=
  Below w.heap.size w w' ∧ ∃ v, r = .returned (.tuple #[v, .int .i64 c]) ∧ OwnP w' v L ∧ ∀ k, v.ownBlock = some k → w.heap.size ≤ k
/-- H2 -/
def pathE (n i : Int) : Int := if 1 ≤ n ∧ n ≤ 1099511627776 then (if 0 ≤ i ∧ i < n then 0 else 80) else 81
def pathL (n i : Int) : List (Nat × Nat) := if pathE n i = 0 then Tree.pthF n.toNat 0 n.toNat i.toNat else []
/-- the world ahead of Path's loop, and what is said between two rounds -/
structure PthI (gi gb : Nat) (i : Int) (F : Nat → Prop) (L : List (Nat × Nat)) (v : Value) (W : World) : Prop where
  F : F = fun k => k = gi ∨ Col.F gb v k
  bi : Boxed W gi 3 (.int .i64 i)
  col : Col W gb 75 v L
  ne : v.ownBlock ≠ some gi
theorem PthI.keep {gi gb : Nat} {i : Int} {F : Nat → Prop} {L : List (Nat × Nat)} {v : Value} {W W' : World} {S : Nat → Prop} (h : PthI gi gb i F L v W) (hk : Keep S W W') (hs : ∀ k, F k → ¬ S k) : PthI gi gb i F L v W' := by
  have hF := h.F
  subst hF
  exact ⟨rfl, h.bi.keepF hk (hs _ (.inl rfl)), h.col.keep hk fun k e => hs k (.inr e), h.ne⟩
theorem PthI.below {gi gb : Nat} {i : Int} {F : Nat → Prop} {L : List (Nat × Nat)} {v : Value} {W W' : World} (h : PthI gi gb i F L v W) (hk : Below W.heap.size W W') : PthI gi gb i F L v W' := h.keep (Keep.ofBelow (S := fun _ => False) hk) fun _ _ e => e
theorem PthI.lt {gi gb : Nat} {i : Int} {F : Nat → Prop} {L : List (Nat × Nat)} {v : Value} {W : World} (h : PthI gi gb i F L v W) : ∀ k, F k → k < W.heap.size := by
  have hF := h.F
  subst hF
  rintro k (rfl | e)
  · exact h.bi.lt
  · exact h.col.lt k e
/-- a span is laid behind -/
theorem PthI.push {gi gb : Nat} {i : Int} {F : Nat → Prop} {L L' : List (Nat × Nat)} {v v' : Value} {W w' : World} (h : PthI gi gb i F L v W) (hgb : gi ≠ gb) (h1 : OwnP w' v' L') (g : Grow W w' v v') :
    Boxed w' gb 75 v ∧ PthI gi gb i (fun k => k = gi ∨ Col.F gb v' k) L' v' (w'.setCell ⟨gb, 0, none⟩ v') ∧ Mvs F W (w'.setCell ⟨gb, 0, none⟩ v') (fun k => k = gi ∨ Col.F gb v' k) := by
  obtain ⟨b1, c1, m1⟩ := h.col.push h1 g
  have hne : v'.ownBlock ≠ some gi := fun e => by
    rcases m1.new gi (.inr e) with (q | q) | q
    · exact hgb q
    · exact h.ne q
    · have := h.bi.lt; omega
  have hF := h.F
  subst hF
  refine ⟨b1, ⟨rfl, ?_, c1, hne⟩, m1.keep.mono fun k _ e => .inr e, ?_⟩
  · refine h.bi.keepF m1.keep fun e => ?_
    rcases e with e | e
    · exact hgb e
    · exact h.ne e
  · rintro k (e | e)
    · exact .inl (.inl e)
    · rcases m1.new k e with q | q
      · exact .inl (.inr q)
      · exact .inr q
end Go.Proofs.YtblmaokonhdjaaaGreatDoor

namespace Go.Proofs.YtblmaokonhdjaaaGreatDoor
open Go.RowKit Go.Shelf
attribute [local go_sem] Oper.semAt_some
/-- H3 -/
def proofE (m n : Int) : Int := if 1 ≤ m ∧ m ≤ n ∧ n ≤ 1099511627776 then 0 else 81
def proofL (m n : Int) : List (Nat × Nat) := if proofE m n = 0 then Tree.prfF n.toNat 0 n.toNat m.toNat else []
def Gt8 (m : Nat) (l : List (Nat × Nat)) : Prop := ∀ s ∈ l, m < s.2
theorem Gt8.snoc {m : Nat} {l : List (Nat × Nat)} {x y : Nat} (h : Gt8 m l) (hq : m < y) : Gt8 m (l ++ [(x, y)]) := fun s hs => by
  rcases List.mem_append.1 hs with h' | h'
  · exact h s h'
  · obtain rfl : s = (x, y) := by simpa using h'
    exact hq
def Exi (c : Code) : Prop := c = .exit 0
end Go.Proofs.YtblmaokonhdjaaaGreatDoor

namespace Go.Proofs.YtblmaokonhdjaaaGreatDoor
open Go.RowKit Go.Shelf
set_option maxRecDepth 100000 in
theorem nanC_any (x : Int) (w : World) : Calls Tryz.prog 219 #[.int .i64 x] w fun r w' => r = .returned (.bool false) ∧ w' = w := by
  go_enter Tryz.func219, Tryz.ntmps219
  go_wp2
  go_ret
  exact ⟨rfl, rfl⟩
set_option maxRecDepth 100000 in
theorem less_is (x y : Int) (q : Bool) (hq : decide (x < y) = q) (w : World) : Calls Tryz.prog 211 #[.int .i64 x, .int .i64 y] w fun r w' => r = .returned (.bool q) ∧ w' = w := by
  go_enter Tryz.func211, Tryz.ntmps211
  go_wp2_with (go_at_call 219; refine (nanC_any _ _).mono ?_; rintro e w' ⟨rfl, rfl⟩)
  go_ret
  exact ⟨rfl, rfl⟩
def BsP (is : List Nat) (p : Nat) (w : World) (e : Ending) (w' : World) : Prop := (∃ q, e = .returned (.tuple #[.int .i64 (Tree.cnt p is : Nat), .bool q])) ∧ w' = w
end Go.Proofs.YtblmaokonhdjaaaGreatDoor

namespace Go.Proofs.YtblmaokonhdjaaaGreatDoor
open Go.RowKit Go.Shelf
theorem cnt_filter (p : Nat) (is : List Nat) (hs : is.Pairwise (· < ·)) : Tree.cnt p is = (is.filter (· < p)).length := by
  rw [← Tree.cnt_take p is hs, List.length_take, Nat.min_eq_left (Tree.cnt_le p is)]
theorem wit_count (is : List Nat) {b e : Nat} (h : b ≤ e) : (is.filter (· < e)).length = (is.filter (· < b)).length + (Tree.wit is b e).length := by
  unfold Tree.wit
  induction is with
  | nil => rfl
  | cons i is ih =>
    by_cases h1 : i < b
    · rw [List.filter_cons_of_pos (by simpa using (show i < e by omega)), List.filter_cons_of_pos (by simpa using h1), List.filter_cons_of_neg (by simp; omega)]
      simp only [List.length_cons]; omega
    · by_cases h2 : i < e
      · rw [List.filter_cons_of_pos (by simpa using h2), List.filter_cons_of_neg (by simpa using h1), List.filter_cons_of_pos (by simp; omega)]
        simp only [List.length_cons]; omega
      · rw [List.filter_cons_of_neg (by simpa using h2), List.filter_cons_of_neg (by simpa using h1), List.filter_cons_of_neg (by simp; omega)]
        exact ih
theorem cnt_wit (is : List Nat) (hs : is.Pairwise (· < ·)) {b e : Nat} (h : b ≤ e) : Tree.cnt e is = Tree.cnt b is + (Tree.wit is b e).length := by
  rw [cnt_filter e is hs, cnt_filter b is hs, wit_count is h]
set_option maxRecDepth 100000 in
theorem spanned_any (x y : Int) (w : World) : Calls Tryz.prog 140 #[sg x y] w fun r w' =>
    r = .returned (.func (.func 175) #[] #[.pointer (some ⟨w.heap.size, 0, none⟩)]) ∧ w' = w.alloc (.cells #[.int .i64 x, .int .i64 y] 50) := by
  go_enter Tryz.func140, Tryz.ntmps140
  go_wp2
  go_ret
  exact ⟨rfl, rfl⟩
set_option maxRecDepth 100000 in
set_option maxHeartbeats 2000000 in
theorem spanned1_any (x y b e cb : Nat) (W : World) (he : e ≤ 1099511627776) (hb : b ≤ e) (hy : y ≤ 1099511627776) (hx : x ≤ y) (hc : SpI W cb x y) :
    Calls Tryz.prog 175 #[sg b e, .pointer (some ⟨cb, 0, none⟩)] W fun r W' => r = .returned (.int .i64 (Tree.shr x y b e : Nat)) ∧ Below W.heap.size W W' := by
  have S0 := SpI.new W b e
  have hB := (Below.refl _ W).alloc (Nat.le_refl _) (.cells #[.int .i64 (b : Int), .int .i64 (e : Int)] 50)
  have hc1 := hc.below hB
  have c0 := S0.c0
  have c1 := S0.c1
  have d0 := hc1.c0
  have d1 := hc1.c1
  go_enter Tryz.func175, Tryz.ntmps175
  go_wp2
  go_ret
  refine ⟨?_, hB⟩
  have e1 : ((Tree.shr x y b e : Nat) : Int) = max 0 (min (e : Int) (y : Int) - max (b : Int) (x : Int)) := by unfold Tree.shr; omega
  rw [e1]; rfl
/-- a function that counts the wanted leaves of a span, by c; it looks at what lies below B and at the block cb -/
def Cnts (f : Nat) (lb : Array Value) (N : Nat) (c : Nat → Nat → Nat) (C : Nat → Prop) (w : World) : Prop :=
  (∀ args w, (callFunc f args).run Tryz.prog w = .ok (.enter f args) w) ∧
  ∀ (b e : Nat) (W : World), b ≤ e → e ≤ N → (∀ k, C k → W.heap[k]? = w.heap[k]?) → w.heap.size ≤ W.heap.size →
    Calls Tryz.prog f (#[sg b e] ++ lb) W fun r W' => r = .returned (.int .i64 (c b e : Nat)) ∧ Below W.heap.size W W'
theorem AtI.keepB {w w' : World} {a : Option Addr} {l : List Int} {B : Nat} (h : AtI w a l) (hk : ∀ k, k < B → w'.heap[k]? = w.heap[k]?) (hB : w.heap.size ≤ B) (hs : w.heap.size ≤ w'.heap.size) : AtI w' a l := fun j p hp => by
  obtain ⟨x, hx, hlt, hc⟩ := h j p hp
  refine ⟨x, hx, by omega, ?_⟩
  rw [← hc]
  exact World.cell?_of_block (a := x.add j) (hk _ (by rw [addr_block]; omega))
theorem cnts_spanned (x y N B : Nat) (w : World) (cb : Nat) (hN : N ≤ 1099511627776) (hy : y ≤ 1099511627776) (hx : x ≤ y) (hc : SpI w cb x y) :
    Cnts 175 #[.pointer (some ⟨cb, 0, none⟩)] N (Tree.shr x y) (fun k => k < B ∨ k = cb) w := by
  refine ⟨enters_of Tryz.func175 (by kernel_rfl) rfl, fun b e W hbe he hk _ => ?_⟩
  exact spanned1_any x y b e cb W (by omega) hbe hy hx ((hk cb (.inr rfl)).trans hc)
end Go.Proofs.YtblmaokonhdjaaaGreatDoor

namespace Go.Proofs.YtblmaokonhdjaaaGreatDoor
open Go.RowKit Go.Shelf
attribute [local go_sem] Oper.semAt_some
set_option maxRecDepth 100000 in
theorem bare_any (n : Int) (f : Nat) (lb : Array Value) (w : World) : Calls Tryz.prog 174 #[.int .i64 n, .func (.func f) #[] lb] w fun r w' =>
    r = .returned (.func (.func 191) #[] #[.pointer (some ⟨w.heap.size, 0, none⟩), .pointer (some ⟨w.heap.size + 1, 0, none⟩)]) ∧ w' = (w.alloc (.cells #[.int .i64 n] 3)).alloc (.cells #[.func (.func f) #[] lb] 214) := by
  go_enter Tryz.func174, Tryz.ntmps174
  go_wp2
  go_ret
  exact ⟨rfl, rfl⟩
/-- append of two pairs that lie in a row of their own -/
theorem append_two (w : World) (v : Value) (l : List (Nat × Nat)) (x y x' y' : Nat) (h : OwnP w v l) (hl : l.length ≤ 1099511627776) :
    ∃ v' w', (Builtin.append_ #[75, 75] 75 #[v, .slice (some ⟨w.heap.size, 0, none⟩) 2 2]).run Tryz.prog (w.alloc (.cells #[.int .i64 (x : Int), .int .i64 (y : Int), .int .i64 (x' : Int), .int .i64 (y' : Int)] 50)) = .ok v' w' ∧ OwnP w' v' (l ++ [(x, y), (x', y')]) ∧ Grow w w' v v' := by
  obtain ⟨i0, hi, hz0, hz1, hz2⟩ := info_parts infoSp8
  have hsrc : Src Tryz.prog 2 75 (.slice (some ⟨w.heap.size, 0, none⟩) 2 2) 2 [.int .i64 (x : Int), .int .i64 (y : Int), .int .i64 (x' : Int), .int .i64 (y' : Int)] (w.alloc (.cells [.int .i64 (x : Int), .int .i64 (y : Int), .int .i64 (x' : Int), .int .i64 (y' : Int)].toArray 50)) :=
    Src.ofSlice _ Tryz.underlying75 ⟨w.heap.size, 0, none⟩ 2 2 _ rfl (fun j u hj => by
      rw [Addr.add_mid, cell_of_row _ _ _ _ _ _ (heap_alloc_new w _), Nat.zero_add]; simpa using hj) (fun u hu => by
      simp only [List.mem_cons, List.not_mem_nil, or_false] at hu
      rcases hu with rfl | rfl | rfl | rfl <;> rfl)
  obtain ⟨v', w', a1, a2, a3⟩ := run_append_M (P := Tryz.prog) (w.alloc (.cells [.int .i64 (x : Int), .int .i64 (y : Int), .int .i64 (x' : Int), .int .i64 (y' : Int)].toArray 50)) 75 75 75 50 i0 (.agg #[.int .i64 0, .int .i64 0]) Tryz.underlying75 hi hz0 hz1 rfl v l.length (prs l) (OwnM.alloc h _) _ 2 _ hsrc
    (by rw [hz2]; omega) (by rw [maxLen]; omega) (fun _ => by omega)
  have hs := a3.size
  rw [size_alloc] at hs
  refine ⟨v', w', a1, ?_, ⟨a3.os, a3.tape, a3.output, by omega, fun k hk hne => (a3.old k (by rw [size_alloc]; omega) hne).trans (Below.heap_alloc w _ k hk), ?_⟩⟩
  · unfold OwnP
    rw [prs_append, List.length_append]; exact a2
  rcases a3.alt with h4 | ⟨h4, h5⟩
  · exact .inl h4
  · refine .inr ⟨fun k hk => ?_, fun k hk => (h5 k (by rw [size_alloc]; omega)).trans (Below.heap_alloc w _ k hk)⟩
    have := h4 k hk
    rw [size_alloc] at this
    omega
/-- what is to be done: how much -/
def stW (l : List (Nat × Nat)) : Nat := (l.map fun s => 2 * (s.2 - s.1) - 1).sum
def stM (v : Value) (w : World) : Nat := match v with
  | .slice (some x) n _ => ((List.range n).map fun j => 2 * (memN w x.block (j * 2 + 1) - memN w x.block (j * 2)) - 1).sum
  | _ => 0
theorem stM_eq {w : World} {v : Value} {l : List (Nat × Nat)} (h : OwnP w v l) : stM v w = stW l := by
  rcases h with ⟨rfl, h1, h2⟩ | ⟨g, cap, rfl, h2, h3, h0, h4, h5, h6⟩
  · rw [List.length_eq_zero_iff.1 h1]; rfl
  · show List.sum _ = List.sum _
    refine congrArg List.sum (List.ext_getElem? fun j => ?_)
    by_cases hj : j < l.length
    · have hq : l[j]? = some l[j] := List.getElem?_eq_getElem hj
      have a0 := h4 _ _ (prs_get hq).1
      have a1 := h4 _ _ (prs_get hq).2
      rw [Nat.zero_add] at a0 a1
      have e0 : memN w g (j * 2) = (l[j]).1 := by unfold memN; rw [a0]; exact Int.toNat_natCast _
      have e1 : memN w g (j * 2 + 1) = (l[j]).2 := by unfold memN; rw [a1]; exact Int.toNat_natCast _
      rw [List.getElem?_map, List.getElem?_map, hq, List.getElem?_range hj]
      simp only [Option.map_some, e0, e1]
    · rw [List.getElem?_eq_none (by rw [List.length_map, List.length_range]; omega), List.getElem?_eq_none (by rw [List.length_map]; omega)]
theorem stW_snoc (l : List (Nat × Nat)) (s : Nat × Nat) : stW (l ++ [s]) = stW l + (2 * (s.2 - s.1) - 1) := by simp [stW, List.sum_append]
/-- the leaves of all of them -/
def stL (l : List (Nat × Nat)) : Nat := (l.map fun s => s.2 - s.1).sum
theorem stL_snoc (l : List (Nat × Nat)) (s : Nat × Nat) : stL (l ++ [s]) = stL l + (s.2 - s.1) := by simp [stL, List.sum_append]
theorem stL_len {l : List (Nat × Nat)} (h : ∀ s ∈ l, s.1 < s.2) : l.length ≤ stL l := by
  induction l with
  | nil => exact Nat.le_refl _
  | cons s l ih =>
    have h1 := h s List.mem_cons_self
    have h2 := ih fun t ht => h t (List.mem_cons_of_mem _ ht)
    have : stL (s :: l) = (s.2 - s.1) + stL l := by simp [stL]
    rw [List.length_cons, this]; omega
/-- what they will tell: the last is looked at first -/
def stO (n : Nat) (c : Nat → Nat → Nat) : List (Nat × Nat) → List (Nat × Nat)
  | [] => []
  | s :: l => stO n c l ++ Tree.barF n s.1 (s.2 - s.1) c
theorem stO_snoc (n : Nat) (c : Nat → Nat → Nat) : ∀ (l : List (Nat × Nat)) (s : Nat × Nat), stO n c (l ++ [s]) = Tree.barF n s.1 (s.2 - s.1) c ++ stO n c l
  | [], s => by simp [stO]
  | t :: l, s => by rw [List.cons_append, stO, stO_snoc n c l s, stO, List.append_assoc]
end Go.Proofs.YtblmaokonhdjaaaGreatDoor

namespace Go.Proofs.YtblmaokonhdjaaaGreatDoor
open Go.RowKit Go.Shelf
attribute [local go_sem] Oper.semAt_some
/-- what lies to be done, in memory; W: the world at the beginning, F the blocks of the rounds -/
structure Stk (W wr : World) (F F' : Nat → Prop) (v : Value) (st : List (Nat × Nat)) (N : Nat) : Prop where
  own : OwnP wr v st
  hi : ∀ k, v.ownBlock = some k → W.heap.size ≤ k
  out : ∀ k, v.ownBlock = some k → ¬ F' k
  keep : Keep F W wr
  new : ∀ k, F' k → F k ∨ W.heap.size ≤ k
  lt : ∀ s ∈ st, s.1 < s.2 ∧ s.2 ≤ N
  sum : stL st ≤ N
theorem Stk.below {W wr w' : World} {F F' : Nat → Prop} {v : Value} {st : List (Nat × Nat)} {N : Nat} (h : Stk W wr F F' v st N) (hb : Below wr.heap.size wr w') : Stk W w' F F' v st N :=
  ⟨h.own.below hb, h.hi, h.out, h.keep.trans (Keep.ofBelow (S := F) hb) fun _ _ e => e, h.new, h.lt, h.sum⟩
/-- behind a round -/
theorem Stk.round {W wr w' : World} {F F' F3 : Nat → Prop} {v : Value} {st : List (Nat × Nat)} {N : Nat} (h : Stk W wr F F' v st N) (hm : Mvs F' wr w' F3) : Stk W w' F F3 v st N := by
  have h0 := h.keep.size
  refine ⟨h.own.keep hm.keep h.out, h.hi, fun k hk e => ?_, ?_, fun k hk => ?_, h.lt, h.sum⟩
  · rcases hm.new k e with q | q
    · exact h.out k hk q
    · have := h.own.lt k hk; omega
  · refine h.keep.trans hm.keep fun k hk e => ?_
    rcases h.new k e with q | q
    · exact q
    · omega
  · rcases hm.new k hk with q | q
    · exact h.new k q
    · exact .inr (by omega)
/-- the last one is taken off -/
theorem Stk.pop {W wr : World} {F F' : Nat → Prop} {g n c : Nat} {st : List (Nat × Nat)} {s : Nat × Nat} {N : Nat} (h : Stk W wr F F' (.slice (some ⟨g, 0, none⟩) n c) (st ++ [s]) N) : Stk W wr F F' (.slice (some ⟨g, 0, none⟩) st.length c) st N := by
  have hs := h.sum
  rw [stL_snoc] at hs
  refine ⟨?_, h.hi, h.out, h.keep, h.new, fun t ht => h.lt t (List.mem_append.2 (.inl ht)), by omega⟩
  have ho := h.own
  obtain ⟨a', c', e, _, _⟩ := ho.shape
  injection e with _ e _
  subst e
  have := OwnM.cut ho (k := st.length) (by rw [List.length_append]; omega)
  rw [prs_append, List.take_left' (by rw [prs_len])] at this
  exact this
/-- two are laid behind -/
theorem Stk.push {W wr w' : World} {F F' : Nat → Prop} {v v' : Value} {st : List (Nat × Nat)} {N b m e : Nat} (h : Stk W wr F F' v st N) (h1 : OwnP w' v' (st ++ [(m, e), (b, m)])) (g : Grow wr w' v v') (hbm : b < m) (hme : m < e) (heN : e ≤ N) (hsum : stL st + (e - b) ≤ N) (hF : ∀ k, F' k → k < wr.heap.size) :
    Stk W w' F F' v' (st ++ [(m, e), (b, m)]) N ∧ Keep (fun k => v.ownBlock = some k) wr w' := by
  have h0 := h.keep.size
  refine ⟨⟨h1, fun k hk => ?_, fun k hk e' => ?_, ?_, h.new, ?_, ?_⟩, g.keep⟩
  · rcases g.alt with q | ⟨q, _⟩
    · exact h.hi k (by rw [← q]; exact hk)
    · have := q k hk; omega
  · rcases g.alt with q | ⟨q, _⟩
    · exact h.out k (by rw [← q]; exact hk) e'
    · have := q k hk; have := hF k e'; omega
  · exact h.keep.trans g.keep fun k hk e' => by have := h.hi k e'; omega
  · intro s hs
    rcases List.mem_append.1 hs with q | q
    · exact h.lt s q
    · rcases List.mem_cons.1 q with rfl | q
      · exact ⟨hme, heN⟩
      · obtain rfl : s = (b, m) := by simpa using q
        exact ⟨hbm, by show m ≤ N; omega⟩
  · rw [show st ++ [(m, e), (b, m)] = (st ++ [(m, e)]) ++ [(b, m)] by simp, stL_snoc, stL_snoc]
    show stL st + (e - m) + (m - b) ≤ N
    omega
/-- a word with which one looks at the last pair -/
theorem Stk.top {W wr : World} {F F' : Nat → Prop} {v : Value} {st : List (Nat × Nat)} {b e N : Nat} (h : Stk W wr F F' v (st ++ [(b, e)]) N) : ∃ g c, v = .slice (some ⟨g, 0, none⟩) (st.length + 1) c ∧ st.length + 1 ≤ c ∧ c ≤ 9223372036854775807 ∧ wr.cell? ⟨g, st.length * 2, none⟩ = some (.int .i64 (b : Int)) ∧ wr.cell? ⟨g, st.length * 2 + 1, none⟩ = some (.int .i64 (e : Int)) := by
  have hq : (st ++ [(b, e)])[st.length]? = some (b, e) := by simp
  obtain ⟨g, c, rfl, c0, _⟩ := h.own.cell (prs_get hq).1
  obtain ⟨g', c', e1, c1, _⟩ := h.own.cell (prs_get hq).2
  injection e1 with e1 _ e3
  injection e1 with e1
  injection e1 with e1
  subst e1 e3
  obtain ⟨_, _, e4, h1, h2⟩ := h.own.shape
  injection e4 with _ e5 e6
  rw [List.length_append] at h1
  subst e6
  exact ⟨g, c, by rw [List.length_append]; rfl, h1, h2, c0, c1⟩
end Go.Proofs.YtblmaokonhdjaaaGreatDoor
