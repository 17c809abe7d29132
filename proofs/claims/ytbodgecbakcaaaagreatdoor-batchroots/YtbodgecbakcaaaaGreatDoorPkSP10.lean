import Derived.Test.YtbodgecbakcaaaaGreatDoorPkSP7
import Derived.Test.YtbodgecbakcaaaaGreatDoorPkO23
namespace Go.Proofs.YtbodgecbakcaaaaGreatDoor
open Go.RowKit Go.Shelf
attribute [local go_sem] Oper.semAt_some
end Go.Proofs.YtbodgecbakcaaaaGreatDoor

namespace Go.Proofs.YtbodgecbakcaaaaGreatDoor
open Go.RowKit Go.Shelf
set_option maxRecDepth 100000 in
theorem nanC_any (x : Int) (w : World) : Calls Tryz.prog 109 #[.int .i64 x] w fun r w' => r = .returned (.bool false) ∧ w' = w := by
  go_enter Tryz.func109, Tryz.ntmps109
  go_wp2
  go_ret
  exact ⟨rfl, rfl⟩
set_option maxRecDepth 100000 in
theorem nanS_any (x : Int) (w : World) : Calls Tryz.prog 101 #[.int .i64 x] w fun r w' => r = .returned (.bool false) ∧ w' = w := by
  go_enter Tryz.func101, Tryz.ntmps101
  go_wp2
  go_ret
  exact ⟨rfl, rfl⟩
set_option maxRecDepth 100000 in
theorem less_is (x y : Int) (q : Bool) (hq : decide (x < y) = q) (w : World) : Calls Tryz.prog 100 #[.int .i64 x, .int .i64 y] w fun r w' => r = .returned (.bool q) ∧ w' = w := by
  go_enter Tryz.func100, Tryz.ntmps100
  go_wp2_with (go_at_call 109; refine (nanC_any _ _).mono ?_; rintro e w' ⟨rfl, rfl⟩)
  go_ret
  exact ⟨rfl, rfl⟩
def BsP (is : List Nat) (p : Nat) (w : World) (e : Ending) (w' : World) : Prop := (∃ q, e = .returned (.tuple #[.int .i64 (Tree.cnt p is : Nat), .bool q])) ∧ w' = w
set_option maxRecDepth 100000 in
set_option maxHeartbeats 2000000 in
theorem bsearch_any (is : List Nat) (p : Nat) (a : Option Addr) (cap : Nat) (w : World) (hn : is.length ≤ 1099511627776) (hs : is.Pairwise (· < ·)) (hA : AtI w a (ix is)) :
    Calls Tryz.prog 87 #[.slice a is.length cap, .int .i64 (p : Int)] w (BsP is p w) := by
  have HA := hid hA
  clear hA
  have hso : Hid (∀ j k x y : Nat, j ≤ k → is[j]? = some x → is[k]? = some y → x ≤ y) := fun j k x y hjk hx hy => by
    by_cases e : j = k
    · subst e; rw [hx] at hy; injection hy with hy; omega
    · obtain ⟨h1, rfl⟩ := List.getElem?_eq_some_iff.1 hx
      obtain ⟨h2, rfl⟩ := List.getElem?_eq_some_iff.1 hy
      exact Nat.le_of_lt (List.pairwise_iff_getElem.1 hs j k h1 h2 (by omega))
  clear hs
  generalize hl : is.length = n at *
  go_enter Tryz.func87, Tryz.ntmps87
  go_wp2
  go_loopw [7, 8] (fun vi vj w' => ∃ i j : Nat, vi = .int .i64 (i : Int) ∧ vj = .int .i64 (j : Int) ∧ i ≤ j ∧ j ≤ n ∧ Hid (∀ k x : Nat, k < i → is[k]? = some x → x < p) ∧ Hid (∀ k x : Nat, j ≤ k → is[k]? = some x → ¬ x < p) ∧ w' = w) (fun vi vj _ => (intOf vj).toNat - (intOf vi).toNat)
  case atStart => exact ⟨0, n, rfl, rfl, by omega, Nat.le_refl _, fun k x hk => by omega, fun k x hk hx => by have := (List.getElem?_eq_some_iff.1 hx).1; omega, rfl⟩
  case round =>
    obtain ⟨i, j, rfl, rfl, hij, hjn, hlo, hhi, rfl⟩ := hrel
    by_cases hlt : i < j
    · have b0 : (i : Int) < (j : Int) := by omega
      obtain ⟨h, hh⟩ : ∃ h : Nat, Hid ((i + j) / 2 = h) := ⟨_, rfl⟩
      have hh' := hh.out
      have u0 : IntKind.i64.wrap ((i : Int) + (j : Int)) = (i : Int) + (j : Int) := by rw [IntKind.wrap_i64]; omega
      have u1 : IntKind.u64.wrap ((i : Int) + (j : Int)) = (i : Int) + (j : Int) := by rw [IntKind.wrap_u64]; omega
      have u2 : ((i : Int) + (j : Int)) / 2 = (h : Int) := by omega
      have u3 : IntKind.i64.wrap (h : Int) = (h : Int) := by rw [IntKind.wrap_i64]; omega
      have hhn : h < n := by omega
      have b1 : (h : Int) < (n : Int) := by omega
      have b2 : (0 : Int) ≤ (h : Int) := by omega
      obtain ⟨x, rfl⟩ := HA.out.pos (by rw [ix_len]; omega)
      have hcell := HA.out.cell h (by rw [ix_len]; omega)
      have hi : is[h]? = some is[h] := List.getElem?_eq_getElem (by omega)
      have hv : (ix is)[h]'(by rw [ix_len]; omega) = ((is[h] : Nat) : Int) := by simp [ix]
      rw [hv] at hcell
      generalize is[h] = t at *
      by_cases htp : t < p
      · have i1 := fun w' => less_is (t : Int) (p : Int) true (by rw [decide_eq_true]; omega) w'
        have hlo' : Hid (∀ k x : Nat, k < h + 1 → is[k]? = some x → x < p) := fun k x hk hx => by
          have := hso.out k h x t (by omega) hx hi; omega
        clear HA hi hlo hh' hv
        go_wp2_with (go_at_call 100; refine (i1 _).mono ?_; rintro e w' ⟨rfl, rfl⟩)
        exact ⟨⟨h + 1, j, by go_num, rfl, by omega, hjn, hlo', hhi, trivial⟩, by simp [intOf]; omega⟩
      · have i1 := fun w' => less_is (t : Int) (p : Int) false (by rw [decide_eq_false]; omega) w'
        have hhi' : Hid (∀ k x : Nat, h ≤ k → is[k]? = some x → ¬ x < p) := fun k x hk hx => by
          have := hso.out h k t x (by omega) hi hx; omega
        clear HA hi hhi hh' hv
        go_wp2_with (go_at_call 100; refine (i1 _).mono ?_; rintro e w' ⟨rfl, rfl⟩)
        exact ⟨⟨i, h, rfl, rfl, by omega, by omega, hlo, hhi', trivial⟩, by simp [intOf]; omega⟩
    · obtain rfl : i = j := by omega
      have b0 : ¬ (i : Int) < (i : Int) := by omega
      have e := hid (Tree.cnt_of p is i (by omega) hlo.out (fun y hy => hhi.out i y (Nat.le_refl _) hy))
      by_cases hin : i < n
      · have b1 : (i : Int) < (n : Int) := by omega
        have b2 : (0 : Int) ≤ (i : Int) := by omega
        obtain ⟨x, rfl⟩ := HA.out.pos (by rw [ix_len]; omega)
        have hcell := HA.out.cell i (by rw [ix_len]; omega)
        have hv : (ix is)[i]'(by rw [ix_len]; omega) = ((is[i] : Nat) : Int) := by simp [ix]
        rw [hv] at hcell
        generalize is[i] = t at *
        clear hv
        by_cases ht : (t : Int) = (p : Int)
        · rw [ht] at hcell
          go_wp2_with (go_at_call 101; refine (nanS_any _ _).mono ?_; rintro e w' ⟨rfl, rfl⟩)
          go_ret2
          exact ⟨⟨_, by rw [e.out]; rfl⟩, rfl⟩
        · have ht' : ((t : Int) == (p : Int)) = false := by simpa using ht
          go_wp2_with (go_at_call 101; refine (nanS_any _ _).mono ?_; rintro e w' ⟨rfl, rfl⟩)
          go_ret2
          exact ⟨⟨_, by rw [e.out]; rfl⟩, rfl⟩
      · have b1 : ¬ (i : Int) < (n : Int) := by omega
        go_wp2_with (go_at_call 101; refine (nanS_any _ _).mono ?_; rintro e w' ⟨rfl, rfl⟩)
        go_ret2
        exact ⟨⟨_, by rw [e.out]; rfl⟩, rfl⟩
end Go.Proofs.YtbodgecbakcaaaaGreatDoor

namespace Go.Proofs.YtbodgecbakcaaaaGreatDoor
open Go.RowKit Go.Shelf
theorem cnt_filter (p : Nat) (is : List Nat) (hs : is.Pairwise (· < ·)) : Tree.cnt p is = (is.filter (· < p)).length := by
  rw [← Tree.cnt_take p is hs, List.length_take, Nat.min_eq_left (Tree.cnt_le p is)]
theorem wit_count (is : List Nat) {b e : Nat} (h : b ≤ e) : (is.filter (· < e)).length = (is.filter (· < b)).length + (Tree.wit is b e).length := by
  unfold Tree.wit
  induction is with
  | nil => rfl
  | cons i is ih =>
    by_cases h1 : i < b
    · rw [List.filter_cons_of_pos (by simpa using (show i < e by omega)), List.filter_cons_of_pos (by simpa using h1), List.filter_cons_of_neg (by simp; omega)]
      simp only [List.length_cons]; omega
    · by_cases h2 : i < e
      · rw [List.filter_cons_of_pos (by simpa using h2), List.filter_cons_of_neg (by simpa using h1), List.filter_cons_of_pos (by simp; omega)]
        simp only [List.length_cons]; omega
      · rw [List.filter_cons_of_neg (by simpa using h2), List.filter_cons_of_neg (by simpa using h1), List.filter_cons_of_neg (by simp; omega)]
        exact ih
theorem cnt_wit (is : List Nat) (hs : is.Pairwise (· < ·)) {b e : Nat} (h : b ≤ e) : Tree.cnt e is = Tree.cnt b is + (Tree.wit is b e).length := by
  rw [cnt_filter e is hs, cnt_filter b is hs, wit_count is h]
set_option maxRecDepth 100000 in
theorem listed_any (a : Option Addr) (n c : Nat) (w : World) : Calls Tryz.prog 70 #[.slice a n c] w fun r w' =>
    r = .returned (.func (.func 86) #[] #[.pointer (some ⟨w.heap.size, 0, none⟩)]) ∧ w' = w.alloc (.cells #[.slice a n c] 22) := by
  go_enter Tryz.func70, Tryz.ntmps70
  go_wp2
  go_ret
  exact ⟨rfl, rfl⟩
set_option maxRecDepth 100000 in
set_option maxHeartbeats 2000000 in
theorem listed1_any (is : List Nat) (b e cb : Nat) (a : Option Addr) (cap : Nat) (W : World) (hbe : b ≤ e) (hn : is.length ≤ 1099511627776) (hs : is.Pairwise (· < ·)) (hA : AtI W a (ix is)) (hc : W.cell? ⟨cb, 0, none⟩ = some (.slice a is.length cap)) :
    Calls Tryz.prog 86 #[sg b e, .pointer (some ⟨cb, 0, none⟩)] W fun r W' => r = .returned (.int .i64 ((Tree.wit is b e).length : Nat)) ∧ Below W.heap.size W W' := by
  have S0 := SpI.new W b e
  have hb := (Below.refl _ W).alloc (Nat.le_refl _) (.cells #[.int .i64 (b : Int), .int .i64 (e : Int)] 62)
  have hA1 : AtI (W.alloc (.cells #[.int .i64 (b : Int), .int .i64 (e : Int)] 62)) a (ix is) := hA.below hb (Nat.le_refl _)
  have hc1 : (W.alloc (.cells #[.int .i64 (b : Int), .int .i64 (e : Int)] 62)).cell? ⟨cb, 0, none⟩ = some (.slice a is.length cap) := (hb.cell (p := ⟨cb, 0, none⟩) (World.block_lt_of_cell? W ⟨cb, 0, none⟩ hc)).trans hc
  have i1 := bsearch_any is b a cap _ hn hs hA1
  have i2 := bsearch_any is e a cap _ hn hs hA1
  have c0 := S0.c0
  have c1 := S0.c1
  have hw := hid (cnt_wit is hs hbe)
  have hsub : IntKind.i64.wrap ((Tree.cnt e is : Nat) - (Tree.cnt b is : Nat) : Int) = ((Tree.wit is b e).length : Nat) := by
    have := hw.out
    have := Tree.cnt_le e is
    rw [IntKind.wrap_i64]; omega
  clear hA hA1 hs S0
  generalize is.length = n at *
  go_enter Tryz.func86, Tryz.ntmps86
  go_wp2_with (first
    | (go_at_call 87; (with_reducible refine i1.mono ?_); clear i1; rintro e w' ⟨⟨q, rfl⟩, rfl⟩)
    | (go_at_call 87; (with_reducible refine i2.mono ?_); clear i2; rintro e w' ⟨⟨q, rfl⟩, rfl⟩))
  go_ret
  exact ⟨by rw [← hsub]; rfl, hb⟩
def Cnts (f : Nat) (lb : Array Value) (N : Nat) (c : Nat → Nat → Nat) (C : Nat → Prop) (w : World) : Prop :=
  (∀ args w, (callFunc f args).run Tryz.prog w = .ok (.enter f args) w) ∧
  ∀ (b e : Nat) (W : World), b ≤ e → e ≤ N → (∀ k, C k → W.heap[k]? = w.heap[k]?) → w.heap.size ≤ W.heap.size →
    Calls Tryz.prog f (#[sg b e] ++ lb) W fun r W' => r = .returned (.int .i64 (c b e : Nat)) ∧ Below W.heap.size W W'
theorem AtI.keepB {w w' : World} {a : Option Addr} {l : List Int} {B : Nat} (h : AtI w a l) (hk : ∀ k, k < B → w'.heap[k]? = w.heap[k]?) (hB : w.heap.size ≤ B) (hs : w.heap.size ≤ w'.heap.size) : AtI w' a l := fun j p hp => by
  obtain ⟨x, hx, hlt, hc⟩ := h j p hp
  refine ⟨x, hx, by omega, ?_⟩
  rw [← hc]
  exact World.cell?_of_block (a := x.add j) (hk _ (by rw [addr_block]; omega))
theorem cnts_listed (is : List Nat) (a : Option Addr) (cap N : Nat) (w0 : World) (w : World) (cb : Nat) (hn : is.length ≤ 1099511627776) (hs : is.Pairwise (· < ·)) (hA : AtI w0 a (ix is)) (hb : Below w0.heap.size w0 w) (hc : Boxed w cb 22 (.slice a is.length cap)) :
    Cnts 86 #[.pointer (some ⟨cb, 0, none⟩)] N (fun b e => (Tree.wit is b e).length) (fun k => k < w0.heap.size ∨ k = cb) w := by
  refine ⟨enters_of Tryz.func86 (by kernel_rfl) rfl, fun b e W hbe _ hk hsz => ?_⟩
  refine listed1_any is b e cb a cap W hbe hn hs (hA.keepB (B := w0.heap.size) (fun k h => (hk k (.inl h)).trans (hb.block k h)) (Nat.le_refl _) (Nat.le_trans hb.size hsz)) ?_
  have : Boxed W cb 22 (.slice a is.length cap) := (hk cb (.inr rfl)).trans hc
  exact this.cell
end Go.Proofs.YtbodgecbakcaaaaGreatDoor

namespace Go.Proofs.YtbodgecbakcaaaaGreatDoor
open Go.RowKit Go.Shelf
attribute [local go_sem] Oper.semAt_some
set_option maxRecDepth 100000 in
theorem bare_any (n : Int) (f : Nat) (lb : Array Value) (w : World) : Calls Tryz.prog 85 #[.int .i64 n, .func (.func f) #[] lb] w fun r w' =>
    r = .returned (.func (.func 99) #[] #[.pointer (some ⟨w.heap.size, 0, none⟩), .pointer (some ⟨w.heap.size + 1, 0, none⟩)]) ∧ w' = (w.alloc (.cells #[.int .i64 n] 3)).alloc (.cells #[.func (.func f) #[] lb] 114) := by
  go_enter Tryz.func85, Tryz.ntmps85
  go_wp2
  go_ret
  exact ⟨rfl, rfl⟩
theorem append_two (w : World) (v : Value) (l : List (Nat × Nat)) (x y x' y' : Nat) (h : OwnP w v l) (hl : l.length ≤ 1099511627776) :
    ∃ v' w', (Builtin.append_ #[30, 30] 30 #[v, .slice (some ⟨w.heap.size, 0, none⟩) 2 2]).run Tryz.prog (w.alloc (.cells #[.int .i64 (x : Int), .int .i64 (y : Int), .int .i64 (x' : Int), .int .i64 (y' : Int)] 62)) = .ok v' w' ∧ OwnP w' v' (l ++ [(x, y), (x', y')]) ∧ Grow w w' v v' := by
  obtain ⟨i0, hi, hz0, hz1, hz2⟩ := info_parts infoSp8
  have hsrc : Src Tryz.prog 2 30 (.slice (some ⟨w.heap.size, 0, none⟩) 2 2) 2 [.int .i64 (x : Int), .int .i64 (y : Int), .int .i64 (x' : Int), .int .i64 (y' : Int)] (w.alloc (.cells [.int .i64 (x : Int), .int .i64 (y : Int), .int .i64 (x' : Int), .int .i64 (y' : Int)].toArray 62)) :=
    Src.ofSlice _ Tryz.underlying30 ⟨w.heap.size, 0, none⟩ 2 2 _ rfl (fun j u hj => by
      rw [Addr.add_mid, cell_of_row _ _ _ _ _ _ (heap_alloc_new w _), Nat.zero_add]; simpa using hj) (fun u hu => by
      simp only [List.mem_cons, List.not_mem_nil, or_false] at hu
      rcases hu with rfl | rfl | rfl | rfl <;> rfl)
  obtain ⟨v', w', a1, a2, a3⟩ := run_append_M (P := Tryz.prog) (w.alloc (.cells [.int .i64 (x : Int), .int .i64 (y : Int), .int .i64 (x' : Int), .int .i64 (y' : Int)].toArray 62)) 30 30 30 62 i0 (.agg #[.int .i64 0, .int .i64 0]) Tryz.underlying30 hi hz0 hz1 rfl v l.length (prs l) (OwnM.alloc h _) _ 2 _ hsrc
    (by rw [hz2]; omega) (by rw [maxLen]; omega) (fun _ => by omega)
  have hs := a3.size
  rw [size_alloc] at hs
  refine ⟨v', w', a1, ?_, ⟨a3.os, a3.tape, a3.output, by omega, fun k hk hne => (a3.old k (by rw [size_alloc]; omega) hne).trans (Below.heap_alloc w _ k hk), ?_⟩⟩
  · unfold OwnP
    rw [prs_append, List.length_append]; exact a2
  rcases a3.alt with h4 | ⟨h4, h5⟩
  · exact .inl h4
  · refine .inr ⟨fun k hk => ?_, fun k hk => (h5 k (by rw [size_alloc]; omega)).trans (Below.heap_alloc w _ k hk)⟩
    have := h4 k hk
    rw [size_alloc] at this
    omega
def stW (l : List (Nat × Nat)) : Nat := (l.map fun s => 2 * (s.2 - s.1) - 1).sum
def stM (v : Value) (w : World) : Nat := match v with
  | .slice (some x) n _ => ((List.range n).map fun j => 2 * (memN w x.block (j * 2 + 1) - memN w x.block (j * 2)) - 1).sum
  | _ => 0
theorem stM_eq {w : World} {v : Value} {l : List (Nat × Nat)} (h : OwnP w v l) : stM v w = stW l := by
  rcases h with ⟨rfl, h1, h2⟩ | ⟨g, cap, rfl, h2, h3, h0, h4, h5, h6⟩
  · rw [List.length_eq_zero_iff.1 h1]; rfl
  · show List.sum _ = List.sum _
    refine congrArg List.sum (List.ext_getElem? fun j => ?_)
    by_cases hj : j < l.length
    · have hq : l[j]? = some l[j] := List.getElem?_eq_getElem hj
      have a0 := h4 _ _ (prs_get hq).1
      have a1 := h4 _ _ (prs_get hq).2
      rw [Nat.zero_add] at a0 a1
      have e0 : memN w g (j * 2) = (l[j]).1 := by unfold memN; rw [a0]; exact Int.toNat_natCast _
      have e1 : memN w g (j * 2 + 1) = (l[j]).2 := by unfold memN; rw [a1]; exact Int.toNat_natCast _
      rw [List.getElem?_map, List.getElem?_map, hq, List.getElem?_range hj]
      simp only [Option.map_some, e0, e1]
    · rw [List.getElem?_eq_none (by rw [List.length_map, List.length_range]; omega), List.getElem?_eq_none (by rw [List.length_map]; omega)]
theorem stW_snoc (l : List (Nat × Nat)) (s : Nat × Nat) : stW (l ++ [s]) = stW l + (2 * (s.2 - s.1) - 1) := by simp [stW, List.sum_append]
def stL (l : List (Nat × Nat)) : Nat := (l.map fun s => s.2 - s.1).sum
theorem stL_snoc (l : List (Nat × Nat)) (s : Nat × Nat) : stL (l ++ [s]) = stL l + (s.2 - s.1) := by simp [stL, List.sum_append]
theorem stL_len {l : List (Nat × Nat)} (h : ∀ s ∈ l, s.1 < s.2) : l.length ≤ stL l := by
  induction l with
  | nil => exact Nat.le_refl _
  | cons s l ih =>
    have h1 := h s List.mem_cons_self
    have h2 := ih fun t ht => h t (List.mem_cons_of_mem _ ht)
    have : stL (s :: l) = (s.2 - s.1) + stL l := by simp [stL]
    rw [List.length_cons, this]; omega
def stO (n : Nat) (c : Nat → Nat → Nat) : List (Nat × Nat) → List (Nat × Nat)
  | [] => []
  | s :: l => stO n c l ++ Tree.barF n s.1 (s.2 - s.1) c
theorem stO_snoc (n : Nat) (c : Nat → Nat → Nat) : ∀ (l : List (Nat × Nat)) (s : Nat × Nat), stO n c (l ++ [s]) = Tree.barF n s.1 (s.2 - s.1) c ++ stO n c l
  | [], s => by simp [stO]
  | t :: l, s => by rw [List.cons_append, stO, stO_snoc n c l s, stO, List.append_assoc]
end Go.Proofs.YtbodgecbakcaaaaGreatDoor

namespace Go.Proofs.YtbodgecbakcaaaaGreatDoor
open Go.RowKit Go.Shelf
attribute [local go_sem] Oper.semAt_some
structure Stk (W wr : World) (F F' : Nat → Prop) (v : Value) (st : List (Nat × Nat)) (N : Nat) : Prop where
  own : OwnP wr v st
  hi : ∀ k, v.ownBlock = some k → W.heap.size ≤ k
  out : ∀ k, v.ownBlock = some k → ¬ F' k
  keep : Keep F W wr
  new : ∀ k, F' k → F k ∨ W.heap.size ≤ k
  lt : ∀ s ∈ st, s.1 < s.2 ∧ s.2 ≤ N
  sum : stL st ≤ N
theorem Stk.below {W wr w' : World} {F F' : Nat → Prop} {v : Value} {st : List (Nat × Nat)} {N : Nat} (h : Stk W wr F F' v st N) (hb : Below wr.heap.size wr w') : Stk W w' F F' v st N :=
  ⟨h.own.below hb, h.hi, h.out, h.keep.trans (Keep.ofBelow (S := F) hb) fun _ _ e => e, h.new, h.lt, h.sum⟩
theorem Stk.round {W wr w' : World} {F F' F3 : Nat → Prop} {v : Value} {st : List (Nat × Nat)} {N : Nat} (h : Stk W wr F F' v st N) (hm : Mvs F' wr w' F3) : Stk W w' F F3 v st N := by
  have h0 := h.keep.size
  refine ⟨h.own.keep hm.keep h.out, h.hi, fun k hk e => ?_, ?_, fun k hk => ?_, h.lt, h.sum⟩
  · rcases hm.new k e with q | q
    · exact h.out k hk q
    · have := h.own.lt k hk; omega
  · refine h.keep.trans hm.keep fun k hk e => ?_
    rcases h.new k e with q | q
    · exact q
    · omega
  · rcases hm.new k hk with q | q
    · exact h.new k q
    · exact .inr (by omega)
theorem Stk.pop {W wr : World} {F F' : Nat → Prop} {g n c : Nat} {st : List (Nat × Nat)} {s : Nat × Nat} {N : Nat} (h : Stk W wr F F' (.slice (some ⟨g, 0, none⟩) n c) (st ++ [s]) N) : Stk W wr F F' (.slice (some ⟨g, 0, none⟩) st.length c) st N := by
  have hs := h.sum
  rw [stL_snoc] at hs
  refine ⟨?_, h.hi, h.out, h.keep, h.new, fun t ht => h.lt t (List.mem_append.2 (.inl ht)), by omega⟩
  have ho := h.own
  obtain ⟨a', c', e, _, _⟩ := ho.shape
  injection e with _ e _
  subst e
  have := OwnM.cut ho (k := st.length) (by rw [List.length_append]; omega)
  rw [prs_append, List.take_left' (by rw [prs_len])] at this
  exact this
theorem Stk.push {W wr w' : World} {F F' : Nat → Prop} {v v' : Value} {st : List (Nat × Nat)} {N b m e : Nat} (h : Stk W wr F F' v st N) (h1 : OwnP w' v' (st ++ [(m, e), (b, m)])) (g : Grow wr w' v v') (hbm : b < m) (hme : m < e) (heN : e ≤ N) (hsum : stL st + (e - b) ≤ N) (hF : ∀ k, F' k → k < wr.heap.size) :
    Stk W w' F F' v' (st ++ [(m, e), (b, m)]) N ∧ Keep (fun k => v.ownBlock = some k) wr w' := by
  have h0 := h.keep.size
  refine ⟨⟨h1, fun k hk => ?_, fun k hk e' => ?_, ?_, h.new, ?_, ?_⟩, g.keep⟩
  · rcases g.alt with q | ⟨q, _⟩
    · exact h.hi k (by rw [← q]; exact hk)
    · have := q k hk; omega
  · rcases g.alt with q | ⟨q, _⟩
    · exact h.out k (by rw [← q]; exact hk) e'
    · have := q k hk; have := hF k e'; omega
  · exact h.keep.trans g.keep fun k hk e' => by have := h.hi k e'; omega
  · intro s hs
    rcases List.mem_append.1 hs with q | q
    · exact h.lt s q
    · rcases List.mem_cons.1 q with rfl | q
      · exact ⟨hme, heN⟩
      · obtain rfl : s = (b, m) := by simpa using q
        exact ⟨hbm, by show m ≤ N; omega⟩
  · rw [show st ++ [(m, e), (b, m)] = (st ++ [(m, e)]) ++ [(b, m)] by simp, stL_snoc, stL_snoc]
    show stL st + (e - m) + (m - b) ≤ N
    omega
theorem Stk.top {W wr : World} {F F' : Nat → Prop} {v : Value} {st : List (Nat × Nat)} {b e N : Nat} (h : Stk W wr F F' v (st ++ [(b, e)]) N) : ∃ g c, v = .slice (some ⟨g, 0, none⟩) (st.length + 1) c ∧ st.length + 1 ≤ c ∧ c ≤ 9223372036854775807 ∧ wr.cell? ⟨g, st.length * 2, none⟩ = some (.int .i64 (b : Int)) ∧ wr.cell? ⟨g, st.length * 2 + 1, none⟩ = some (.int .i64 (e : Int)) := by
  have hq : (st ++ [(b, e)])[st.length]? = some (b, e) := by simp
  obtain ⟨g, c, rfl, c0, _⟩ := h.own.cell (prs_get hq).1
  obtain ⟨g', c', e1, c1, _⟩ := h.own.cell (prs_get hq).2
  injection e1 with e1 _ e3
  injection e1 with e1
  injection e1 with e1
  subst e1 e3
  obtain ⟨_, _, e4, h1, h2⟩ := h.own.shape
  injection e4 with _ e5 e6
  rw [List.length_append] at h1
  subst e6
  exact ⟨g, c, by rw [List.length_append]; rfl, h1, h2, c0, c1⟩
end Go.Proofs.YtbodgecbakcaaaaGreatDoor
