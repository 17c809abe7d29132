import Derived.Test.YtdmaiodckialmaaDoorCSH3
import Derived.Test.YtdmaiodckialmaaDoorCSL3
import Derived.Test.YtdmaiodckialmaaDoorCFN1
import Derived.Test.YtdmaiodckialmaaDoorCSF3
/- THE PLAIN MATHEMATICS OF LAYER 8: spans that lie apart, walked from the left; nothing of the program. -/
namespace Go.Proofs.YtdmaiodckialmaaDoor
namespace Tree
/-- where the next span begins -/
def tgt (n : Nat) : List (Nat × Nat) → Nat
  | [] => n
  | s :: _ => s.1
/-- r's first K numbers lie below A, the others don't; from A on to T all are r's, T is not -/
structure Pos (r : List Nat) (A K T : Nat) : Prop where
  le : A ≤ T
  kl : K ≤ r.length
  lo : ∀ j x, r[j]? = some x → j < K → x < A
  hi : ∀ j x, r[j]? = some x → K ≤ j → A ≤ x
  mid : ∀ i, A ≤ i → i < T → i ∈ r
  no : ¬ T ∈ r
theorem Pos.at {r : List Nat} {A K T : Nat} (h : Pos r A K T) (hs : r.Pairwise (· < ·)) (hA : A < T) : r[K]? = some A ∧ Pos r (A + 1) (K + 1) T := by
  obtain ⟨j, hj⟩ := List.mem_iff_getElem?.1 (h.mid A (Nat.le_refl _) hA)
  have h1 : K ≤ j := by
    rcases Nat.lt_or_ge j K with h1 | h1
    · have := h.lo j A hj h1; omega
    · exact h1
  have hjl : j < r.length := by
    rcases Nat.lt_or_ge j r.length with h2 | h2
    · exact h2
    · rw [List.getElem?_eq_none h2] at hj; cases hj
  have h2 : j = K := by
    rcases Nat.lt_or_ge K j with h2 | h2
    · have e : r[K]? = some (r[K]'(by omega)) := List.getElem?_eq_getElem (by omega)
      have a := h.hi K _ e (Nat.le_refl _)
      have b := List.pairwise_iff_getElem.1 hs K j (by omega) hjl h2
      rw [List.getElem?_eq_getElem hjl] at hj
      have := Option.some.inj hj
      omega
    · omega
  subst h2
  refine ⟨hj, by omega, by omega, fun i x hx hi => ?_, fun i x hx hi => ?_, fun i h1 h2 => h.mid i (by omega) h2, h.no⟩
  · rcases Nat.lt_or_ge i j with h3 | h3
    · have := h.lo i x hx h3; omega
    · obtain rfl : i = j := by omega
      rw [hj] at hx
      have := Option.some.inj hx
      omega
  · have hil : i < r.length := by
      rcases Nat.lt_or_ge i r.length with h2 | h2
      · exact h2
      · rw [List.getElem?_eq_none h2] at hx; cases hx
    have b := List.pairwise_iff_getElem.1 hs j i hjl hil (by omega)
    rw [List.getElem?_eq_getElem hil] at hx
    rw [List.getElem?_eq_getElem hjl] at hj
    have := Option.some.inj hj
    have := Option.some.inj hx
    omega
theorem Pos.done {r : List Nat} {K T : Nat} (h : Pos r T K T) {x : Nat} (hx : r[K]? = some x) : x ≠ T := fun e => h.no (by rw [← e]; exact List.mem_of_getElem? hx)
/-- where the walk stands: what is left of the spans -/
structure Stand (r : List Nat) (n A K : Nat) (rest : List (Nat × Nat)) : Prop where
  kl : K ≤ r.length
  lo : ∀ j x, r[j]? = some x → j < K → x < A
  hi : ∀ j x, r[j]? = some x → K ≤ j → A ≤ x
  ap : Apt A n rest (fun i => decide (i ∈ r))
theorem Stand.pos {r : List Nat} {n A K : Nat} {rest : List (Nat × Nat)} (h : Stand r n A K rest) (hn : ∀ x ∈ r, x < n) : Pos r A K (tgt n rest) := by
  have ap := h.ap
  cases rest with
  | nil => exact ⟨ap.1, h.kl, h.lo, h.hi, fun i h1 h2 => of_decide_eq_true (ap.2 i h1 h2), fun hc => Nat.lt_irrefl _ (hn _ hc)⟩
  | cons s rest =>
    obtain ⟨a1, a2, a3, a4, a5, a6⟩ := ap
    exact ⟨a1, h.kl, h.lo, h.hi, fun i h1 h2 => of_decide_eq_true (a4 i h1 h2), fun hc => by
      have := a5 s.1 (Nat.le_refl _) a2
      have h2 := of_decide_eq_false this
      exact h2 hc⟩
theorem Stand.next {r : List Nat} {n A K A' K' : Nat} {s : Nat × Nat} {rest : List (Nat × Nat)} (h : Stand r n A K (s :: rest)) (p : Pos r A' K' s.1) (he : A' = s.1) : s.1 < s.2 ∧ s.2 ≤ n ∧ Stand r n s.2 K' rest := by
  obtain ⟨a1, a2, a3, a4, a5, a6⟩ := h.ap
  subst he
  refine ⟨a2, a3, p.kl, fun j x hx hj => ?_, fun j x hx hj => ?_, a6⟩
  · have := p.lo j x hx hj; omega
  · have h1 := p.hi j x hx hj
    rcases Nat.lt_or_ge x s.2 with h2 | h2
    · exact absurd (List.mem_of_getElem? hx) (of_decide_eq_false (a5 x h1 h2))
    · exact h2
theorem Stand.last {r : List Nat} {n K' : Nat} (hn : ∀ x ∈ r, x < n) (p : Pos r n K' n) : K' = r.length := by
  rcases Nat.lt_or_ge K' r.length with h | h
  · have e : r[K']? = some r[K'] := List.getElem?_eq_getElem h
    have := p.hi K' _ e (Nat.le_refl _)
    have := hn _ (List.getElem_mem h)
    omega
  · have := p.kl; omega
theorem Stand.start {r : List Nat} {n : Nat} {L : List (Nat × Nat)} (h : Apt 0 n L (fun i => decide (i ∈ r))) : Stand r n 0 0 L := ⟨Nat.zero_le _, fun j x _ h => by omega, fun j x _ _ => Nat.zero_le _, h⟩
/-- a run [x, y) of leaves left out, walked: A is where the walk stands -/
structure Over (x y n A : Nat) (rest : List (Nat × Nat)) : Prop where
  out : A ≤ x ∨ y ≤ A
  le : A ≤ n
  ap : Apt A n rest (fun i => decide (x ≤ i ∧ i < y))
/-- behind the run, where the walk stands at its begin -/
def hop (x y A : Nat) : Nat := if A = x then y else A
theorem Over.next {x y n A : Nat} {s : Nat × Nat} {rest : List (Nat × Nat)} (h : Over x y n A (s :: rest)) (hxy : x < y) : s.1 = hop x y A ∧ s.1 < s.2 ∧ s.2 ≤ n ∧ Over x y n s.2 rest := by
  obtain ⟨a1, a2, a3, a4, a5, a6⟩ := h.ap
  have n1 : ¬ (x ≤ s.1 ∧ s.1 < y) := of_decide_eq_false (a5 s.1 (Nat.le_refl _) a2)
  have ho := h.out
  have e : s.1 = hop x y A := by
    unfold hop
    split
    · rename_i hA
      subst hA
      rcases Nat.lt_or_ge y s.1 with h1 | h1
      · have := of_decide_eq_true (a4 y (by omega) h1); omega
      · omega
    · rename_i hA
      rcases Nat.lt_or_ge A s.1 with h1 | h1
      · have := of_decide_eq_true (a4 A (Nat.le_refl _) h1); omega
      · omega
  refine ⟨e, a2, a3, ?_, a3, a6⟩
  rcases Nat.lt_or_ge s.1 x with h1 | h1
  · rcases Nat.lt_or_ge x s.2 with h2 | h2
    · have : ¬ (x ≤ x ∧ x < y) := of_decide_eq_false (a5 x (by omega) h2)
      omega
    · exact .inl h2
  · exact .inr (by omega)
theorem Over.last {x y n A : Nat} (h : Over x y n A []) (hxy : x < y) (hy : y ≤ n) : hop x y A = n := by
  obtain ⟨a1, a2⟩ := h.ap
  have ho := h.out
  unfold hop
  split
  · rename_i hA
    subst hA
    rcases Nat.lt_or_ge y n with h1 | h1
    · have := of_decide_eq_true (a2 y (by omega) h1); omega
    · omega
  · rename_i hA
    rcases Nat.lt_or_ge A n with h1 | h1
    · have := of_decide_eq_true (a2 A (Nat.le_refl _) h1); omega
    · omega
theorem Over.start {x y n : Nat} {L : List (Nat × Nat)} (h : Apt 0 n L (fun i => decide (x ≤ i ∧ i < y))) : Over x y n 0 L := ⟨.inl (Nat.zero_le _), Nat.zero_le _, h⟩
end Tree
end Go.Proofs.YtdmaiodckialmaaDoor

namespace Go.Proofs.YtdmaiodckialmaaDoor
open Go.RowKit Go.Shelf
theorem ix_get {r : List Nat} {j x : Nat} (h : r[j]? = some x) : (ix r)[j]? = some (x : Int) := by unfold ix; rw [List.getElem?_map, h]; rfl
theorem pm_get {L : List (Nat × Nat)} {j : Nat} {s : Nat × Nat} (h : L[j]? = some s) : (L.map fun s => ((s.1 : Int), (s.2 : Int)))[j]? = some ((s.1 : Int), (s.2 : Int)) := by rw [List.getElem?_map, h]; rfl
theorem drop_get {L : List (Nat × Nat)} {j : Nat} {s : Nat × Nat} (h : L[j]? = some s) : L.drop j = s :: L.drop (j + 1) := by
  have hj : j < L.length := by
    rcases Nat.lt_or_ge j L.length with h2 | h2
    · exact h2
    · rw [List.getElem?_eq_none h2] at h; cases h
  rw [List.getElem?_eq_getElem hj] at h
  rw [List.drop_eq_getElem_cons hj, Option.some.inj h]
end Go.Proofs.YtdmaiodckialmaaDoor

namespace Go.Proofs.YtdmaiodckialmaaDoor
open Go.RowKit Go.Shelf
/-- what the document's lengths are, as closed facts of numbers -/
theorem lenOf_nat (N k : Nat) (h1 : k < N) (h2 : N ≤ 1099511627776) : lenOf (N : Int) (k : Int) = (((Tree.D N k).length : Int), 0) := by
  unfold lenOf
  rw [if_neg (by omega), if_neg (by omega), Int.toNat_natCast, Int.toNat_natCast]
theorem prfLen_nat (m N : Nat) (h0 : 1 ≤ m) (h1 : m ≤ N) (h2 : N ≤ 1099511627776) : prfLen (m : Int) (N : Int) = ((Tree.pl m N true : Int), 0) := by
  unfold prfLen
  rw [if_neg (by omega), Int.toNat_natCast, Int.toNat_natCast]
theorem D_le (N k : Nat) (h1 : k < N) (h2 : N ≤ 1099511627776) : (Tree.D N k).length ≤ 40 := by
  rw [Tree.D_U N N k (Nat.le_refl _) h1]
  exact Tree.U_len 40 _ _ (by omega)
theorem wit_whole {is : List Nat} {N : Nat} (h : ∀ i ∈ is, i < N) : Tree.wit is 0 (0 + N) = is := by
  unfold Tree.wit
  refine List.filter_eq_self.2 fun i hi => ?_
  have := h i hi
  exact decide_eq_true (by omega)
/-- a list of spans as the law reads it -/
abbrev pm (L : List (Nat × Nat)) : List (Int × Int) := L.map fun s => ((s.1 : Int), (s.2 : Int))
theorem path8_ans (N k dl : Nat) (h1 : k < N) (h2 : N ≤ 1099511627776) (hd : Hid ((Tree.D N k).length = dl)) (w : World) :
    Calls Tryd.prog 12 #[.int .i64 (N : Int), .int .i64 (k : Int)] w (Ans dl (pm (Tree.pthF N 0 N k)) w) := by
  have hE : pathE (N : Int) (k : Int) = 0 := by unfold pathE; rw [if_pos (by omega), if_pos (by omega)]
  have hL : pathL (N : Int) (k : Int) = Tree.pthF N 0 N k := by unfold pathL; rw [if_pos hE, Int.toNat_natCast, Int.toNat_natCast]
  refine (path8_any (N : Int) (k : Int) w).mono fun r w' h => h.ans hE ?_ (by rw [hL])
  rw [hL, Tree.pthF_len N 0 N k (Nat.le_refl _) (Nat.zero_le _), Nat.sub_zero, hd.out]
theorem proof8_ans (m N pl : Nat) (h0 : 1 ≤ m) (h1 : m ≤ N) (h2 : N ≤ 1099511627776) (hd : Hid (Tree.pl m N true = pl)) (w : World) :
    Calls Tryd.prog 13 #[.int .i64 (m : Int), .int .i64 (N : Int)] w (Ans pl (pm (Tree.prfF N 0 N m)) w) := by
  have hE : proofE (m : Int) (N : Int) = 0 := by unfold proofE; rw [if_pos (by omega)]
  have hL : proofL (m : Int) (N : Int) = Tree.prfF N 0 N m := by unfold proofL; rw [if_pos hE, Int.toNat_natCast, Int.toNat_natCast]
  refine (proof8_any (m : Int) (N : Int) w).mono fun r w' h => h.ans hE ?_ (by rw [hL])
  rw [hL, Tree.prfF_len N 0 N m (Nat.le_refl _) (by omega) (by omega), Nat.sub_zero]
  exact hd.out
theorem batch8_ans (N bl : Nat) (l : List Int) (h : BatOk (N : Int) l) (a : Option Addr) (cap : Nat) (hb : Hid ((Tree.othF N 0 N (toN l)).length = bl)) (w : World) (hA : AtI w a l) :
    Calls Tryd.prog 14 #[.int .i64 (N : Int), .slice a l.length cap] w (Ans bl (pm (Tree.othF N 0 N (toN l))) w) := by
  have hE := batchE_ok h
  have hL : batchL (N : Int) l = Tree.othF N 0 N (toN l) := by unfold batchL; rw [if_pos hE, Int.toNat_natCast]
  exact (batch8_any (N : Int) l a cap w (by have := h.l2; omega) hA).mono fun r w' h => h.ans hE (by rw [hL, hb.out]) (by rw [hL])
theorem run8_ans (N x y rl : Nat) (h0 : x < y) (h1 : y ≤ N) (h2 : N ≤ 1099511627776) (hd : Hid ((Tree.runF N 0 N x y).length = rl)) (w : World) :
    Calls Tryd.prog 15 #[.int .i64 (N : Int), sg x y] w (Ans rl (pm (Tree.runF N 0 N x y)) w) := by
  have hE : runE (N : Int) (x : Int) (y : Int) = 0 := by unfold runE; rw [if_pos (by omega), if_pos (by omega)]
  have hL : runL (N : Int) (x : Int) (y : Int) = Tree.runF N 0 N x y := by unfold runL; rw [if_pos hE, Int.toNat_natCast, Int.toNat_natCast, Int.toNat_natCast]
  exact (run8_any (N : Int) x y w).mono fun r w' h => h.ans hE (by rw [hL, hd.out]) (by rw [hL])
/-- H6 of a batch: how many spans -/
theorem bat_count {N : Nat} {l : List Int} (h : BatOk (N : Int) l) : (Tree.othF N 0 N (toN l)).length + l.length ≤ N ∧ (Tree.othF N 0 N (toN l)).length ≤ l.length * (Tree.D N 0).length := by
  have hN : 1 ≤ N := by have := h.n1; omega
  have hlt : ∀ i ∈ toN l, i < N := fun i hi => by have := h.lt i hi; rwa [Int.toNat_natCast] at this
  have hw := wit_whole hlt
  have hnd : (toN l).Nodup := h.sorted.imp fun {a b} hab => Nat.ne_of_lt hab
  have c1 := Tree.oth_count (toN l) hnd N 0 N (Nat.le_refl _) hN
  have c2 := Tree.oth_most (toN l) N 0 N (Nat.le_refl _) hN (Tree.tch_mem.2 (by
    have hl : 0 < (toN l).length := by rw [h.len]; exact h.l1
    exact ⟨(toN l)[0], List.getElem_mem hl, Nat.zero_le _, by have := hlt _ (List.getElem_mem hl); omega⟩))
  rw [hw, h.len] at c1 c2
  exact ⟨c1, c2⟩
end Go.Proofs.YtdmaiodckialmaaDoor

namespace Go.Proofs.YtdmaiodckialmaaDoor
open Go.RowKit Go.Shelf
set_option maxRecDepth 100000 in
set_option maxHeartbeats 4000000 in
theorem rleft_at (b e m : Nat) (h2 : 2 ≤ e - b) (he : e ≤ 1099511627776) (hm : Hid (m = b + Tree.sp (e - b))) (w : World) :
    Calls Tryd.prog 44 #[sg b e] w fun r w' => r = .returned (sg b m) ∧ Below w.heap.size w w' := by
  have i1 := fun w' => rMiddle_at b e m h2 he hm w'
  have S0 := SpI.new w b e
  have B0 := hid (((Below.refl w.heap.size w).alloc (Nat.le_refl _) (.cells #[Value.int .i64 (b : Int), .int .i64 (e : Int)] 25)).alloc (by rw [size_alloc]; omega) (.cells #[Value.int .i64 0, .int .i64 0] 25))
  have R1 := SpI.new (w.alloc (.cells #[Value.int .i64 (b : Int), .int .i64 (e : Int)] 25)) 0 0
  have S1 := S0.below ((Below.refl _ _).alloc (Nat.le_refl _) (.cells #[Value.int .i64 0, .int .i64 0] 25))
  rw [size_alloc] at R1
  have c0 := S1.c0
  have c1 := S1.c1
  have R1 := hid R1
  have S1 := hid S1
  clear S0
  go_enter Tryd.func44, Tryd.ntmps44
  go_wp2
  generalize hw2 : (w.alloc (.cells #[Value.int .i64 (b : Int), .int .i64 (e : Int)] 25)).alloc (.cells #[Value.int .i64 0, .int .i64 0] 25) = w2 at *
  go_region_with (first | (go_at_call 24; refine (i1 _).mono ?_; rintro r w1 ⟨rfl, hw1'⟩; have hw1 := drewBelow8 hw1'; have T0 := S1.out.below hw1; have d0 := T0.c0; have d1 := T0.c1; have T1 := R1.out.below hw1; have g0 := T1.f0; have g1 := T1.f1; have e0 := T1.c0; have e1 := T1.c1; have B1 := hid (B0.out.trans (hw1.mono B0.out.size)); have T1 := hid T1))
  all_goals
    go_wp2_with fail
    have U := T1.out.two (b : Int) (m : Int)
    refine bodyPost_ret (v := sg b m) (results_cell_row rfl _ _ (w.heap.size + 1) 25 #[.int .i64 (b : Int), .int .i64 (m : Int)] (0, 0) _ rfl U Tryd.underlying25 rfl sizeSp8) rfl ⟨rfl, ?_⟩
    exact ((B1.out.setCell (p := ⟨w.heap.size + 1, 0, none⟩) (by show w.heap.size ≤ w.heap.size + 1; omega) _).setCell (p := ⟨w.heap.size + 1, 1, none⟩) (by show w.heap.size ≤ w.heap.size + 1; omega) _)
set_option maxRecDepth 100000 in
set_option maxHeartbeats 4000000 in
theorem rright_at (b e m : Nat) (h2 : 2 ≤ e - b) (he : e ≤ 1099511627776) (hm : Hid (m = b + Tree.sp (e - b))) (w : World) :
    Calls Tryd.prog 45 #[sg b e] w fun r w' => r = .returned (sg m e) ∧ Below w.heap.size w w' := by
  have i1 := fun w' => rMiddle_at b e m h2 he hm w'
  have S0 := SpI.new w b e
  have B0 := hid (((Below.refl w.heap.size w).alloc (Nat.le_refl _) (.cells #[Value.int .i64 (b : Int), .int .i64 (e : Int)] 25)).alloc (by rw [size_alloc]; omega) (.cells #[Value.int .i64 0, .int .i64 0] 25))
  have R1 := SpI.new (w.alloc (.cells #[Value.int .i64 (b : Int), .int .i64 (e : Int)] 25)) 0 0
  have S1 := S0.below ((Below.refl _ _).alloc (Nat.le_refl _) (.cells #[Value.int .i64 0, .int .i64 0] 25))
  rw [size_alloc] at R1
  have c0 := S1.c0
  have c1 := S1.c1
  have R1 := hid R1
  have S1 := hid S1
  clear S0
  go_enter Tryd.func45, Tryd.ntmps45
  go_wp2
  generalize hw2 : (w.alloc (.cells #[Value.int .i64 (b : Int), .int .i64 (e : Int)] 25)).alloc (.cells #[Value.int .i64 0, .int .i64 0] 25) = w2 at *
  go_region_with (first | (go_at_call 24; refine (i1 _).mono ?_; rintro r w1 ⟨rfl, hw1'⟩; have hw1 := drewBelow8 hw1'; have T0 := S1.out.below hw1; have d0 := T0.c0; have d1 := T0.c1; have T1 := R1.out.below hw1; have g0 := T1.f0; have g1 := T1.f1; have e0 := T1.c0; have e1 := T1.c1; have B1 := hid (B0.out.trans (hw1.mono B0.out.size)); have T1 := hid T1))
  all_goals
    go_wp2_with fail
    have U := T1.out.two (m : Int) (e : Int)
    refine bodyPost_ret (v := sg m e) (results_cell_row rfl _ _ (w.heap.size + 1) 25 #[.int .i64 (m : Int), .int .i64 (e : Int)] (0, 0) _ rfl U Tryd.underlying25 rfl sizeSp8) rfl ⟨rfl, ?_⟩
    exact ((B1.out.setCell (p := ⟨w.heap.size + 1, 0, none⟩) (by show w.heap.size ≤ w.heap.size + 1; omega) _).setCell (p := ⟨w.heap.size + 1, 1, none⟩) (by show w.heap.size ≤ w.heap.size + 1; omega) _)
end Go.Proofs.YtdmaiodckialmaaDoor

namespace Go.Proofs.YtdmaiodckialmaaDoor
open Go.RowKit Go.Shelf
theorem nodeOf_nd8 (l r : List UInt8) : (nodeOf l r).1 = Tree.nd l r := by
  unfold nodeOf Tree.nd
  split <;> rfl
theorem ksp_lt {K : List Sub} {j : Nat} {q : Int × Int} (h : (ksp K)[j]? = some q) : j < (ksp K).length := (List.getElem?_eq_some_iff.1 h).1
set_option maxRecDepth 100000 in
set_option maxHeartbeats 1000000 in
theorem rFolds8_any {K : List Sub} {a : Option Addr} {c : Nat} (hl : (ksp K).length ≤ 9223372036854775800) : ∀ (f b n : Nat) (w : World), n ≤ f → 1 ≤ n → b + n ≤ 1099511627776 → AtQ w a (ksp K) →
    Calls Tryd.prog 41 #[.slice a (ksp K).length c, sg b (b + n : Nat)] w fun r w' => r = .returned (.bool (fdB f b n K)) ∧ Below w.heap.size w w' := by
  intro f
  induction f with
  | zero => intro b n w hf h1; omega
  | succ f ih =>
    intro b n w hf h1 hb hK
    obtain ⟨ee, hee⟩ : ∃ ee, b + n = ee := ⟨_, rfl⟩
    rw [fdB]
    rw [hee]
    have hen : ee - b = n := by omega
    have S0 := SpI.new w (b : Int) (ee : Int)
    have B0 := hid ((Below.refl w.heap.size w).alloc (Nat.le_refl _) (.cells #[.int .i64 (b : Int), .int .i64 (ee : Int)] 25))
    have c0 := S0.c0
    have c1 := S0.c1
    have AK := hid (fun w' (h : Below w.heap.size w w') => hK.below h (Nat.le_refl _))
    have HS := hid S0
    cases hF : fdF K (b : Int) (ee : Int) with
    | some q =>
      obtain ⟨i, h2, _, h3⟩ := fdF_at hF
      have i1 := stands8_at (ksp K) (b : Int) (ee : Int) a c (w.alloc (.cells #[.int .i64 (b : Int), .int .i64 (ee : Int)] 25)) hl (AK.out _ B0.out) i h2 h3
      rw [if_pos (by simp)]
      generalize (ksp K).length = m at *
      unfold sg at i1 ⊢
      have x0 : (0 : Int) ≤ (i : Int) := by omega
      clear hK ih AK hF h2 h3
      go_enter Tryd.func41, Tryd.ntmps41
      go_wp2_with (go_at_call 61; refine i1.mono ?_; rintro r w1 ⟨rfl, b1⟩)
      go_ret
      exact ⟨rfl, B0.out.trans (b1.mono B0.out.size)⟩
    | none =>
      have i1 := stands8_no (ksp K) (b : Int) (ee : Int) a c (w.alloc (.cells #[.int .i64 (b : Int), .int .i64 (ee : Int)] 25)) hl (AK.out _ B0.out) (fun j _ => fdF_no hF j)
      rw [if_neg (by simp)]
      have i2 : ∀ w' (v : Bool), v = decide (¬ (witS (b : Int) (ee : Int) K).length = 0) → Below w.heap.size w w' → Calls Tryd.prog 62 #[.slice a (ksp K).length c, sg b ee] w' fun r w'' => r = .returned (.bool v) ∧ Below w'.heap.size w' w'' := fun w' v hv hb' => by
        by_cases hw : (witS (b : Int) (ee : Int) K).length = 0
        · rw [hv, decide_eq_false (fun h => h hw)]
          exact within8_no (ksp K) (b : Int) (ee : Int) a c w' hl (AK.out _ hb') (fun j x y _ e => wit_no hw j x y e)
        · rw [hv, decide_eq_true hw]
          obtain ⟨i, x, y, h2, h3, h4⟩ := wit_at hw
          exact within8_at (ksp K) (b : Int) (ee : Int) a c w' hl (AK.out _ hb') i x y h2 h3 h4
      have i2f := fun w' => i2 w' false
      have i2t := fun w' => i2 w' true
      unfold sg at i1 i2f i2t ⊢
      by_cases hn2 : n < 2
      · rw [if_pos (.inl hn2)]
        obtain ⟨v, hv⟩ : ∃ v, v = decide (¬ (witS (b : Int) (ee : Int) K).length = 0) := ⟨_, rfl⟩
        have i3 := fun w' hb' => i2 w' v hv hb'
        unfold sg at i3
        generalize (ksp K).length = m at *
        have q1 : (ee : Int) - (b : Int) < 2 := by omega
        have q2 : IntKind.i64.wrap ((ee : Int) - (b : Int)) = (ee : Int) - (b : Int) := by rw [IntKind.wrap_i64]; omega
        clear hK ih AK hF hv i2 i2f i2t
        go_enter Tryd.func41, Tryd.ntmps41
        go_wp2_with (go_at_call 61; refine i1.mono ?_; rintro r w1 ⟨rfl, b1⟩; have B1 := hid (B0.out.trans (b1.mono B0.out.size)); have S1 := HS.out.below b1; have d0 := S1.c0; have d1 := S1.c1; clear b1)
        go_wp2_with (go_at_call 62; fail)
        refine (i3 _ B1.out).mono ?_
        rintro r w2 ⟨rfl, b2⟩
        have S2 := S1.below b2
        have e0 := S2.c0
        have e1 := S2.c1
        have B2 := hid (B1.out.trans (b2.mono B1.out.size))
        clear S1 S2 b2 d0 d1
        go_wp2
        go_ret
        exact ⟨rfl, B2.out⟩
      · have q1 : ¬ (ee : Int) - (b : Int) < 2 := by omega
        have q2 : IntKind.i64.wrap ((ee : Int) - (b : Int)) = (ee : Int) - (b : Int) := by rw [IntKind.wrap_i64]; omega
        by_cases hw : (witS (b : Int) (ee : Int) K).length = 0
        · rw [if_pos (.inr hw)]
          have i3 := fun w' hb' => i2f w' (by rw [decide_eq_false (fun h => h hw)]) hb'
          generalize (ksp K).length = m at *
          clear hK ih AK hF i2 i2f i2t hw
          go_enter Tryd.func41, Tryd.ntmps41
          go_wp2_with (go_at_call 61; refine i1.mono ?_; rintro r w1 ⟨rfl, b1⟩; have B1 := hid (B0.out.trans (b1.mono B0.out.size)); have S1 := HS.out.below b1; have d0 := S1.c0; have d1 := S1.c1; clear b1)
          go_wp2_with (go_at_call 62; fail)
          refine (i3 _ B1.out).mono ?_
          rintro r w2 ⟨rfl, b2⟩
          have S2 := S1.below b2
          have e0 := S2.c0
          have e1 := S2.c1
          have B2 := hid (B1.out.trans (b2.mono B1.out.size))
          clear S1 S2 b2 d0 d1
          go_wp2
          go_ret
          exact ⟨rfl, B2.out⟩
        · rw [if_neg (by omega)]
          have i3 := fun w' hb' => i2t w' (by rw [decide_eq_true hw]) hb'
          have s1 := Tree.sp_lt (n := n) (by omega)
          have s2 := Tree.sp_pos (n := n) (by omega)
          obtain ⟨mid, hmid⟩ : ∃ mid, b + Tree.sp n = mid := ⟨_, rfl⟩
          have hmh : Hid (mid = b + Tree.sp (ee - b)) := by rw [Hid, hen]; exact hmid.symm
          have iL := fun w' => rleft_at b ee mid (by omega) (by omega) hmh w'
          have iR := fun w' => rright_at b ee mid (by omega) (by omega) hmh w'
          have jL := fun w' (h : Below w.heap.size w w') => ih b (Tree.sp n) w' (by omega) (by omega) (by omega) (AK.out _ h)
          have jR := fun w' (h : Below w.heap.size w w') => ih (b + Tree.sp n) (n - Tree.sp n) w' (by omega) (by omega) (by omega) (AK.out _ h)
          rw [show b + Tree.sp n + (n - Tree.sp n) = ee by omega] at jR
          rw [hmid] at jL jR ⊢
          unfold sg at iL iR jL jR
          generalize fdB f b (Tree.sp n) K = vL at *
          generalize fdB f mid (n - Tree.sp n) K = vR at *
          generalize (ksp K).length = m at *
          clear hK ih AK hF i2 i2f i2t hw hmh
          have go1 : True := trivial
          cases vL with
          | false =>
            rw [Bool.false_and]
            go_enter Tryd.func41, Tryd.ntmps41
            go_wp2_with (go_at_call 61; refine i1.mono ?_; rintro r w1 ⟨rfl, b1⟩; have B1 := hid (B0.out.trans (b1.mono B0.out.size)); have S1 := HS.out.below b1; have d0 := S1.c0; have d1 := S1.c1; clear b1)
            go_wp2_with (go_at_call 62; fail)
            refine (i3 _ B1.out).mono ?_
            rintro r w2 ⟨rfl, b2⟩
            have S2 := S1.below b2
            have e0 := S2.c0
            have e1 := S2.c1
            have B2 := hid (B1.out.trans (b2.mono B1.out.size))
            clear S1 b2 d0 d1
            go_wp2_with (go_at_call 44; fail)
            refine (iL _).mono ?_
            rintro r w3 ⟨rfl, b3⟩
            have S3 := S2.below b3
            have B3 := hid (B2.out.trans (b3.mono B2.out.size))
            clear S2 b3 e0 e1
            go_wp2_with (go_at_call 41; fail)
            refine (jL _ B3.out).mono ?_
            rintro r w4 ⟨rfl, b4⟩
            have S4 := S3.below b4
            have e0 := S4.c0
            have e1 := S4.c1
            have B4 := hid (B3.out.trans (b4.mono B3.out.size))
            clear S3 b4
            go_wp2
            go_ret
            exact ⟨rfl, B4.out⟩
          | true =>
            rw [Bool.true_and]
            go_enter Tryd.func41, Tryd.ntmps41
            go_wp2_with (go_at_call 61; refine i1.mono ?_; rintro r w1 ⟨rfl, b1⟩; have B1 := hid (B0.out.trans (b1.mono B0.out.size)); have S1 := HS.out.below b1; have d0 := S1.c0; have d1 := S1.c1; clear b1)
            go_wp2_with (go_at_call 62; fail)
            refine (i3 _ B1.out).mono ?_
            rintro r w2 ⟨rfl, b2⟩
            have S2 := S1.below b2
            have e0 := S2.c0
            have e1 := S2.c1
            have B2 := hid (B1.out.trans (b2.mono B1.out.size))
            clear S1 b2 d0 d1
            go_wp2_with (go_at_call 44; fail)
            refine (iL _).mono ?_
            rintro r w3 ⟨rfl, b3⟩
            have S3 := S2.below b3
            have B3 := hid (B2.out.trans (b3.mono B2.out.size))
            clear S2 b3 e0 e1
            go_wp2_with (go_at_call 41; fail)
            refine (jL _ B3.out).mono ?_
            rintro r w4 ⟨rfl, b4⟩
            have S4 := S3.below b4
            have e0 := S4.c0
            have e1 := S4.c1
            have B4 := hid (B3.out.trans (b4.mono B3.out.size))
            clear S3 b4
            go_wp2_with (go_at_call 45; fail)
            refine (iR _).mono ?_
            rintro r w5 ⟨rfl, b5⟩
            have B5 := hid (B4.out.trans (b5.mono B4.out.size))
            clear b5
            go_wp2_with (go_at_call 41; fail)
            refine (jR _ B5.out).mono ?_
            rintro r w6 ⟨rfl, b6⟩
            go_wp2
            go_ret
            exact ⟨rfl, B5.out.trans (b6.mono B5.out.size)⟩
set_option maxRecDepth 100000 in
set_option maxHeartbeats 1000000 in
theorem rfolded8_any {K : List Sub} {H : List (List UInt8)} {a ah : Option Addr} {c ch : Nat} (hl : (ksp K).length ≤ 9223372036854775800) (hKH : ∀ (i : Nat) (q : Sub), K[i]? = some q → ∃ x, H[i]? = some x ∧ q.2 = ⟨x.toArray⟩) : ∀ (f b n : Nat) (w : World), n ≤ f → 1 ≤ n → b + n ≤ 1099511627776 → fdB f b n K = true → AtQ w a (ksp K) → At w ah H →
    Calls Tryd.prog 42 #[.slice a (ksp K).length c, .slice ah H.length ch, sg b (b + n : Nat)] w fun r w' => r = .returned (.string (fdH f b n K)) ∧ Below w.heap.size w w' := by
  intro f
  induction f with
  | zero => intro b n w hf h1; omega
  | succ f ih =>
    intro b n w hf h1 hb hfd hK hH
    obtain ⟨ee, hee⟩ : ∃ ee, b + n = ee := ⟨_, rfl⟩
    rw [fdB, hee] at hfd
    rw [fdH, hee]
    have hen : ee - b = n := by omega
    have S0 := SpI.new w (b : Int) (ee : Int)
    have B0 := hid ((Below.refl w.heap.size w).alloc (Nat.le_refl _) (.cells #[.int .i64 (b : Int), .int .i64 (ee : Int)] 25))
    have c0 := S0.c0
    have c1 := S0.c1
    have AK := hid (fun w' (h : Below w.heap.size w w') => hK.below h (Nat.le_refl _))
    have AH := hid (fun w' (h : Below w.heap.size w w') => hH.below h (Nat.le_refl _))
    have HS := hid S0
    cases hF : fdF K (b : Int) (ee : Int) with
    | some q =>
      obtain ⟨i, h2, h2', h3⟩ := fdF_at hF
      have i1 := stands8_at (ksp K) (b : Int) (ee : Int) a c (w.alloc (.cells #[.int .i64 (b : Int), .int .i64 (ee : Int)] 25)) hl (AK.out _ B0.out) i h2 h3
      obtain ⟨x, hx, hqx⟩ := hKH i q h2'
      have hil := (List.getElem?_eq_some_iff.1 hx).1
      have cH := hid (fun w' (h : Below w.heap.size w w') => (AH.out _ h) i x hx)
      show Calls _ _ _ _ fun r w' => r = .returned (.string q.2) ∧ _
      rw [hqx]
      generalize H.length = mh at *
      generalize (ksp K).length = m at *
      unfold sg at i1 ⊢
      have x0 : (0 : Int) ≤ (i : Int) := by omega
      have x1 : (i : Int) < (mh : Int) := by omega
      clear hK hH ih AK AH hF h2 h3 hx hqx h2' hfd hKH
      go_enter Tryd.func42, Tryd.ntmps42
      go_wp2_with (go_at_call 61; refine i1.mono ?_; rintro r w1 ⟨rfl, b1⟩; have B1 := hid (B0.out.trans (b1.mono B0.out.size)); obtain ⟨ya, hya, _, cx⟩ := cH.out _ B1.out; subst hya; rw [show sv x = Value.string ⟨x.toArray⟩ from rfl] at cx; clear b1)
      go_ret
      exact ⟨rfl, B1.out⟩
    | none =>
      rw [hF, if_neg (by simp)] at hfd
      have i1 := stands8_no (ksp K) (b : Int) (ee : Int) a c (w.alloc (.cells #[.int .i64 (b : Int), .int .i64 (ee : Int)] 25)) hl (AK.out _ B0.out) (fun j _ => fdF_no hF j)
      have hc : ¬ (n < 2 ∨ (witS (b : Int) (ee : Int) K).length = 0) := fun h => by rw [if_pos h] at hfd; cases hfd
      rw [if_neg hc, Bool.and_eq_true] at hfd
      have hn2 : 2 ≤ n := by omega
      have s1 := Tree.sp_lt hn2
      have s2 := Tree.sp_pos hn2
      obtain ⟨mid, hmid⟩ : ∃ mid, b + Tree.sp n = mid := ⟨_, rfl⟩
      have hmh : Hid (mid = b + Tree.sp (ee - b)) := by rw [Hid, hen]; exact hmid.symm
      have iL := fun w' => rleft_at b ee mid (by omega) (by omega) hmh w'
      have iR := fun w' => rright_at b ee mid (by omega) (by omega) hmh w'
      have jL := fun w' (h : Below w.heap.size w w') => ih b (Tree.sp n) w' (by omega) (by omega) (by omega) hfd.1 (AK.out _ h) (AH.out _ h)
      have jR := fun w' (h : Below w.heap.size w w') => ih (b + Tree.sp n) (n - Tree.sp n) w' (by omega) (by omega) (by omega) hfd.2 (AK.out _ h) (AH.out _ h)
      rw [show b + Tree.sp n + (n - Tree.sp n) = ee by omega] at jR
      rw [hmid] at jL jR
      show Calls _ _ _ _ fun r w' => r = .returned (.string ⟨(Tree.nd (fdH f b (Tree.sp n) K).data.toList (fdH f (b + Tree.sp n) (n - Tree.sp n) K).data.toList).toArray⟩) ∧ _
      rw [hmid]
      unfold sg at i1 iL iR jL jR ⊢
      generalize fdH f b (Tree.sp n) K = vL at *
      generalize fdH f mid (n - Tree.sp n) K = vR at *
      have iN := fun w' => rnode_any vL vR w'
      rw [nodeOf_nd8] at iN
      generalize Tree.nd vL.data.toList vR.data.toList = N at *
      generalize (nodeOf vL.data.toList vR.data.toList).2 = cN at *
      simp only [show sv N = Value.string ⟨N.toArray⟩ from rfl] at iN
      generalize H.length = mh at *
      generalize (ksp K).length = m at *
      clear hK hH ih AK AH hF hmh hfd hc hKH
      go_enter Tryd.func42, Tryd.ntmps42
      go_wp2_with (go_at_call 61; refine i1.mono ?_; rintro r w1 ⟨rfl, b1⟩; have B1 := hid (B0.out.trans (b1.mono B0.out.size)); have S1 := HS.out.below b1; have d0 := S1.c0; have d1 := S1.c1; clear b1)
      go_wp2_with (go_at_call 44; fail)
      refine (iL _).mono ?_
      rintro r w3 ⟨rfl, b3⟩
      have S3 := S1.below b3
      have B3 := hid (B1.out.trans (b3.mono B1.out.size))
      clear S1 b3 d0 d1
      go_wp2_with (go_at_call 42; fail)
      refine (jL _ B3.out).mono ?_
      rintro r w4 ⟨rfl, b4⟩
      have S4 := S3.below b4
      have e0 := S4.c0
      have e1 := S4.c1
      have B4 := hid (B3.out.trans (b4.mono B3.out.size))
      clear S3 b4
      go_wp2_with (go_at_call 45; fail)
      refine (iR _).mono ?_
      rintro r w5 ⟨rfl, b5⟩
      have B5 := hid (B4.out.trans (b5.mono B4.out.size))
      clear b5
      go_wp2_with (go_at_call 42; fail)
      refine (jR _ B5.out).mono ?_
      rintro r w6 ⟨rfl, b6⟩
      have B6 := hid (B5.out.trans (b6.mono B5.out.size))
      clear b6
      go_wp2_with (go_at_call 19; refine (iN _).mono ?_; rintro r w7 ⟨rfl, b7⟩)
      go_ret
      exact ⟨rfl, B6.out.trans (b7.mono B6.out.size)⟩
end Go.Proofs.YtdmaiodckialmaaDoor
