import Derived.Test.YtbkppdkebcdcoaaDoorCSP18
import Derived.Test.YtbkppdkebcdcoaaDoorCO7
namespace Go.Proofs.YtbkppdkebcdcoaaDoor
open Go.RowKit Go.Shelf
attribute [local go_sem] Oper.semAt_some
theorem infoNd8 : (Tryd.prog.info? 69).map (fun i => (i.zero, i.size, i.bytes)) = some (some (.agg #[.int .i64 0, .int .i64 0]), 2, 16) := by kernel_rfl
theorem append_node (w : World) (v : Value) (l : List (Nat × Nat)) (x y : Nat) (h : OwnP w v l) (hl : l.length ≤ 1099511627776) :
    ∃ v' w', (Builtin.append_ #[35, 35] 35 #[v, .slice (some ⟨w.heap.size, 0, none⟩) 1 1]).run Tryd.prog (w.alloc (.cells #[.int .i64 (x : Int), .int .i64 (y : Int)] 69)) = .ok v' w' ∧ OwnP w' v' (l ++ [(x, y)]) ∧ Grow w w' v v' := by
  obtain ⟨v', w', h1, h2, h3⟩ := append_oneL 35 69 (.agg #[.int .i64 0, .int .i64 0]) 16 Tryd.underlying35 infoNd8 rfl w v l.length (prs l) [.int .i64 (x : Int), .int .i64 (y : Int)] rfl (fun u hu => by
    simp only [List.mem_cons, List.not_mem_nil, or_false] at hu
    rcases hu with rfl | rfl <;> rfl) h (by omega) (by rw [maxLen]; omega)
  refine ⟨v', w', h1, ?_, h3⟩
  unfold OwnP
  rw [prs_append, List.length_append]; exact h2
/-- a node's variable -/
def NdI (w : World) (g : Nat) (b e : Int) : Prop := w.heap[g]? = some (.cells #[.int .i64 b, .int .i64 e] 69 (0, 0))
theorem NdI.c0 {w : World} {g : Nat} {b e : Int} (h : NdI w g b e) : w.cell? ⟨g, 0, none⟩ = some (.int .i64 b) := by rw [cell_of_row w g 0 _ _ _ h]; rfl
theorem NdI.c1 {w : World} {g : Nat} {b e : Int} (h : NdI w g b e) : w.cell? ⟨g, 1, none⟩ = some (.int .i64 e) := by rw [cell_of_row w g 1 _ _ _ h]; rfl
theorem NdI.new (w : World) (b e : Int) : NdI (w.alloc (.cells #[.int .i64 b, .int .i64 e] 69)) w.heap.size b e := heap_alloc_new w _
theorem NdI.below {w w' : World} {g : Nat} {b e : Int} (h : NdI w g b e) (hb : Below w.heap.size w w') : NdI w' g b e := (hb.block g (lt_of_heap h)).trans h
theorem NdI.keep {w w' : World} {g : Nat} {b e : Int} {S : Nat → Prop} (h : NdI w g b e) (hb : Keep S w w') (hs : ¬ S g) : NdI w' g b e := (hb.block g (lt_of_heap h) hs).trans h
/-- H1 -/
def coverE (b e : Int) : Int := if 0 ≤ b ∧ b ≤ e ∧ e ≤ 1099511627776 then 0 else 80
def coverL (b e : Int) : List (Nat × Nat) := if coverE b e = 0 then covL b.toNat e.toNat else []
set_option maxRecDepth 100000 in
set_option maxHeartbeats 8000000 in
theorem cover_bad (b e : Int) (w : World) (h : coverE b e ≠ 0) : Calls Tryd.prog 13 #[sg b e] w (SpP w (coverE b e) (coverL b e)) := by
  refine (callsIn_wide (n := 9)).1 ?_
  have S0 := SpI.new w b e
  have c0 := S0.c0
  have c1 := S0.c1
  have hc : ¬ (0 ≤ b ∧ b ≤ e ∧ e ≤ 1099511627776) := fun hh => h (by unfold coverE; rw [if_pos hh])
  have eL : coverL b e = [] := by unfold coverL; rw [if_neg h]
  have eE : coverE b e = 80 := by unfold coverE; rw [if_neg hc]
  rw [eL, eE]
  clear eL eE h S0
  refine callsIn_of_wp_marks Tryd.func13 rfl trivial ?_ rfl
  simp only [Tryd.ntmps13, List.size_toArray, List.length_cons, List.length_nil, Nat.reduceAdd, Nat.reduceSub, Array.replicate_succ, Array.replicate_zero, List.push_toArray, List.append_toArray, List.nil_append, List.cons_append]
  by_cases h1 : b < 0
  · gi_wp2
    exact ⟨_, results_tmp2 rfl _ _ _, SpP.bad ((Below.refl _ w).alloc (Nat.le_refl _) _)⟩
  · by_cases h2 : e < b
    · gi_wp2
      exact ⟨_, results_tmp2 rfl _ _ _, SpP.bad ((Below.refl _ w).alloc (Nat.le_refl _) _)⟩
    · have h3 : 1099511627776 < e := by omega
      gi_wp2
      exact ⟨_, results_tmp2 rfl _ _ _, SpP.bad ((Below.refl _ w).alloc (Nat.le_refl _) _)⟩
set_option maxRecDepth 100000 in
set_option maxHeartbeats 8000000 in
theorem cover_ok (b e : Nat) (w : World) (h1 : b ≤ e) (h2 : e ≤ 1099511627776) (Z : Tb w) : Calls Tryd.prog 13 #[sg b e] w (SpP w 0 (covL b e)) := by
  refine (callsIn_wide (n := 9)).1 ?_
  have S0 := SpI.new w b e
  have c0 := S0.c0
  have c1 := S0.c1
  have S1 := S0.below ((Below.refl _ _).alloc (Nat.le_refl _) (.cells #[.slice none 0 0] 35))
  have c2 := S1.c0
  have c3 := S1.c1
  have q1 : ¬ (b : Int) < 0 := by omega
  have q2 : ¬ (e : Int) < (b : Int) := by omega
  have q3 : ¬ (1099511627776 : Int) < (e : Int) := by omega
  have hZ := Z.lt
  refine callsIn_of_wp_marks Tryd.func13 rfl trivial ?_ rfl
  simp only [Tryd.ntmps13, List.size_toArray, List.length_cons, List.length_nil, Nat.reduceAdd, Nat.reduceSub, Array.replicate_succ, Array.replicate_zero, List.push_toArray, List.append_toArray, List.nil_append, List.cons_append]
  gi_wp2
  refine ⟨trivial, (callsIn_wide.2 (complete_any _ _ _)).mono ?_⟩
  rintro r w1 ⟨rfl, h1⟩
  have h1 := h1.symm
  subst h1
  gi_wp2
  obtain ⟨W4, hW4⟩ : ∃ W4, Hid ((((w.alloc (.cells #[.int .i64 (b : Int), .int .i64 (e : Int)] 25)).alloc (.cells #[.slice none 0 0] 35)).alloc (.cells #[.int .i64 (b : Int), .int .i64 (e : Int)] 25)) = W4) := ⟨_, rfl⟩
  rw [hW4.out]
  have z4 : W4.heap.size = w.heap.size + 3 := by rw [← hW4.out]; simp
  have B4 : Below w.heap.size w W4 := by rw [← hW4.out]; exact (((Below.refl _ w).alloc (Nat.le_refl _) _).alloc (by rw [size_alloc]; omega) _).alloc (by rw [size_alloc, size_alloc]; omega) _
  have R1 : Boxed W4 (w.heap.size + 1) 35 (.slice none 0 0) := by
    rw [← hW4.out]
    have := Boxed.new (w.alloc (.cells #[.int .i64 (b : Int), .int .i64 (e : Int)] 25)) 35 (.slice none 0 0)
    rw [size_alloc] at this
    exact this.alloc _
  have R2 : SpI W4 (w.heap.size + 1 + 1) b e := by
    rw [← hW4.out]
    have := SpI.new ((w.alloc (.cells #[.int .i64 (b : Int), .int .i64 (e : Int)] 25)).alloc (.cells #[.slice none 0 0] 35)) b e
    rw [size_alloc, size_alloc] at this
    exact this
  clear hW4 S0 S1 c0 c1 c2 c3
  have Z4 := Z.below B4 hZ
  have hbl := covL_len h2 (show b ≤ e by assumption)
  refine range_foot (n := 9) (gf := 78) (lb := #[.pointer (some ⟨w.heap.size + 1 + 1, 0, none⟩)]) rfl (enters_of Tryd.func78 (by kernel_rfl) rfl)
    (complete_iter b e _ (by assumption) h2 W4 R2 Z4 (by omega)) (fun _ => rfl)
    (fun F pre W => ∃ v, F = Col.F (w.heap.size + 1) v ∧ Col W (w.heap.size + 1) 35 v pre)
    (fun _ _ _ _ => False)
    ⟨fun F pre W W' S ⟨v, hF, h⟩ hk hs => ⟨v, hF, h.keep hk (by rw [hF] at hs; exact hs)⟩, fun F pre W ⟨v, hF, h⟩ => by rw [hF]; exact h.lt⟩ (fun c => ⟨fun _ _ _ _ _ h _ _ => h, fun _ _ _ h => h.elim⟩)
    (Col.F (w.heap.size + 1) (.slice none 0 0)) ⟨_, rfl, ⟨R1, OwnM.nil 2 W4, fun h => by cases h⟩⟩ ?dis ?cl
    (fun F pre x a W => ∃ v go, Col W (w.heap.size + 1) 35 v pre ∧ F = (fun k => Col.F (w.heap.size + 1) v k ∨ k = go) ∧ ¬ Col.F (w.heap.size + 1) v go ∧ NdI W go x.1 x.2 ∧ a = { tmps := #[sg b e, .pointer (some ⟨w.heap.size, 0, none⟩), .slice none 0 0, .int .i64 0, .pointer (some ⟨w.heap.size + 1, 0, none⟩), .pointer (some ⟨go, 0, none⟩), .pointer (some ⟨w.heap.size, 0, none⟩), .int .i64 (b : Int), .bool false, .bool false, .pointer (some ⟨w.heap.size, 0, none⟩), .int .i64 (b : Int), .pointer (some ⟨w.heap.size, 1, none⟩), .int .i64 (e : Int), .bool false, .bool false, .bool false, .pointer (some ⟨w.heap.size, 1, none⟩), .int .i64 (e : Int), .bool false, .bool false, sg b e, .func (.func 78) #[] #[.pointer (some ⟨w.heap.size + 1 + 1, 0, none⟩)], .agg #[.int .i64 (x.1 : Int), .int .i64 (x.2 : Int)], undef, undef, undef, undef, undef], defers := [] })
    ?fA ?assign ?body ?done ?stop
  case dis =>
    rintro k (rfl | e) (h | h)
    · omega
    · omega
    · cases e
    · cases e
  case cl =>
    rintro k (h | rfl)
    · omega
    · omega
  case fA =>
    rintro x a
    refine ⟨?_, ?_⟩
    · rintro F pre W W' S ⟨v, go, h1, rfl, h2, h3, h4⟩ hk hs
      exact ⟨v, go, h1.keep hk fun k e => hs k (.inl e), rfl, h2, h3.keep hk (hs _ (.inr rfl)), h4⟩
    · rintro F pre W ⟨v, go, h1, rfl, h2, h3, h4⟩ k (e | rfl)
      · exact h1.lt k e
      · exact lt_of_heap h3
  case assign =>
    rintro l F pre x rest W ⟨v, rfl, h1⟩ hx
    gi_wp2
    have hb := (Below.refl _ W).alloc (Nat.le_refl _) (.cells #[.int .i64 (x.1 : Int), .int .i64 (x.2 : Int)] 69)
    exact ⟨_, Mvs.alloc _ W _, v, W.heap.size, h1.below hb, rfl, fun h => by have := h1.lt _ h; omega, NdI.new W x.1 x.2, rfl⟩
  case body =>
    rintro l F pre x rest a W ⟨v, go, h1, rfl, h2, h3, rfl⟩ hx
    obtain ⟨x, y⟩ := x
    have hpl : pre.length ≤ 1099511627776 := by
      have := congrArg List.length hx
      rw [List.length_append] at this
      omega
    have c0 := h3.c0
    have c1 := h3.c1
    have d0 := h1.box.cell
    have hMv : Mvs (fun k => Col.F (w.heap.size + 1) v k ∨ k = go) W W (Col.F (w.heap.size + 1) v) := ⟨Keep.refl _ _, fun k hk => .inl (.inl hk)⟩
    obtain ⟨v', w3, hap, O3, G3⟩ := append_node W v pre x y h1.own hpl
    obtain ⟨bx3, P3, M3⟩ := h1.push O3 G3
    have c3 := bx3.cell
    have f3 := bx3.frozen
    obtain ⟨va, vn, vc, rfl⟩ := ownM_sl h1.own
    obtain ⟨va', vn', vc', rfl⟩ := ownM_sl O3
    clear hx
    gi_wp2_with (gi_at_builtin; refine wpListIn_append_run rfl _ _ 35 rfl (.slice va vn vc) _ _ w3 rfl rfl hap ?_)
    exact ⟨_, hMv.trans M3, .slice va' vn' vc', rfl, P3⟩
  case done =>
    rintro D F W ⟨v, rfl, h1⟩ ha
    have hvD : v.ownBlock ≠ some D := fun e => ha.out (.inr e)
    have hvB : ∀ k, v.ownBlock = some k → w.heap.size ≤ k := fun k e => by
      rcases ha.new k (.inr e) with (q | q) | q
      · omega
      · cases q
      · omega
    have c0 := h1.box.cell
    obtain ⟨va, vn, vc, rfl⟩ := ownM_sl h1.own
    gi_wp2
    refine ⟨by simp, .inl ⟨_, _, rfl, run_takeDeferred ha.mark, ?_⟩⟩
    refine ⟨_, results_tmp2 rfl _ _ _, ?_, _, rfl, h1.own.keep (Keep.ofPut (S := fun k => k = D) _ D (.deferred none) rfl) (fun k hk e => hvD (e ▸ hk)), hvB⟩
    have k1 : Keep (fun k => w.heap.size ≤ k) W4 W := ha.keep.mono fun k _ h => by
      rcases h with (h | h) | h
      · omega
      · cases h
      · omega
    have k2 := k1.trans (Keep.ofPut (S := fun k => w.heap.size ≤ k) W D (.deferred none) (by have := ha.hi; omega)) fun _ _ h => h
    exact B4.trans (k2.belowOf (by omega) fun _ h => h)
  case stop =>
    rintro D c F pre W hp h ha
    exact h.elim
theorem cover_any (b e : Int) (w : World) (Z : Tb w) : Calls Tryd.prog 13 #[sg b e] w (SpP w (coverE b e) (coverL b e)) := by
  by_cases h : coverE b e = 0
  · have hc : 0 ≤ b ∧ b ≤ e ∧ e ≤ 1099511627776 := by
      unfold coverE at h
      split at h
      · assumption
      · cases h
    unfold coverL
    rw [if_pos h, h]
    obtain ⟨b, rfl⟩ := Int.eq_ofNat_of_zero_le hc.1
    obtain ⟨e, rfl⟩ := Int.eq_ofNat_of_zero_le (show 0 ≤ e by omega)
    rw [Int.toNat_natCast, Int.toNat_natCast]
    exact cover_ok b e w (by omega) (by omega) Z
  · exact cover_bad b e w h
end Go.Proofs.YtbkppdkebcdcoaaDoor

namespace Go.Proofs.YtbkppdkebcdcoaaDoor
open Go.RowKit Go.Shelf
/-- are all of 32 bytes? -/
def hsB8 (l : List (List UInt8)) : Bool := l.all (·.length == 32)
set_option maxRecDepth 100000 in
set_option maxHeartbeats 2000000 in
theorem areHashes8_is (l : List (List UInt8)) (q : Bool) (hq : hsB8 l = q) (a : Option Addr) (cap : Nat) (w : World) (hc : l.length ≤ 9223372036854775807) (hA : At w a l) :
    Calls Tryd.prog 72 #[.slice a l.length cap] w fun r w' => r = .returned (.bool q) ∧ w' = w := by
  have HQ := hid hq
  generalize hn : l.length = k at *
  have HA := hid hA
  clear hA hq
  go_enter Tryd.func72, Tryd.ntmps72
  go_wp2
  go_loopw [7] (fun i w' => ∃ j : Nat, j ≤ k ∧ i = .int .i64 (j : Int) ∧ Hid ((l.take j).all (·.length == 32) = true) ∧ w' = w) (fun i _ => k - (intOf i).toNat)
  case atStart => exact ⟨0, by omega, rfl, rfl, rfl⟩
  case round =>
    obtain ⟨j, hj, rfl, hall, rfl⟩ := hrel
    by_cases hjk : j < k
    · have b0 : (j : Int) < (k : Int) := by omega
      obtain ⟨y, rfl⟩ := HA.out.pos (by omega)
      obtain ⟨s, hs, hcell⟩ := HA.out.cell j (by omega)
      by_cases h32 : s.size = 32
      · have i2 : (s.size : Int) = 32 := by omega
        have e2 := hid (all_take l j (by omega) hall.out (by rw [← hs.out, data_length]; exact h32))
        clear HA hall hs
        go_wp2
        exact ⟨⟨j + 1, by omega, by go_num, e2, trivial⟩, by simp [intOf]; omega⟩
      · have i2 : ((s.size : Int) != 32) = true := by simp; omega
        have i3 : ((s.size : Int) == 32) = false := by simp; omega
        have e2 := all_not l j (by omega) (by rw [← hs.out, data_length]; exact h32)
        have e3 := hid (show q = false by rw [← HQ.out]; exact e2)
        clear HA hall hs e2
        go_wp2
        go_ret
        exact ⟨by rw [e3.out]; rfl, rfl⟩
    · obtain rfl : j = k := by omega
      have b0 : ¬ (j : Int) < (j : Int) := by omega
      rw [← hn, List.take_length] at hall
      have e3 := hid (show q = true by rw [← HQ.out]; exact hall.out)
      clear HA hall
      go_wp2
      go_ret
      exact ⟨by rw [e3.out]; rfl, rfl⟩
/-- is a span that has a leaf within another one? -/
def hasI (b e x y : Int) : Bool := decide (b ≤ x ∧ x < y ∧ y ≤ e)
set_option maxRecDepth 100000 in
set_option maxHeartbeats 2000000 in
theorem has_is (b e x y : Int) (q : Bool) (hq : hasI b e x y = q) (w : World) : Calls Tryd.prog 101 #[sg b e, sg x y] w fun r w' => r = .returned (.bool q) ∧ Below w.heap.size w w' := by
  have S0 := SpI.new w b e
  have hb1 := (Below.refl _ (w.alloc (.cells #[.int .i64 b, .int .i64 e] 25))).alloc (Nat.le_refl _) (.cells #[.int .i64 x, .int .i64 y] 25)
  have S1 := S0.below hb1
  have S2 := SpI.new (w.alloc (.cells #[.int .i64 b, .int .i64 e] 25)) x y
  rw [size_alloc] at S2
  have hb := ((Below.refl _ w).alloc (Nat.le_refl _) (.cells #[.int .i64 b, .int .i64 e] 25)).alloc (by rw [size_alloc]; omega) (.cells #[.int .i64 x, .int .i64 y] 25)
  have c0 := S1.c0
  have c1 := S1.c1
  have d0 := S2.c0
  have d1 := S2.c1
  clear S0 S1 S2 hb1
  by_cases h1 : b ≤ x
  · by_cases h2 : x < y
    · by_cases h3 : y ≤ e
      · have er := hid (show q = true by rw [← hq]; simp [hasI, h1, h2, h3])
        clear hq
        go_enter Tryd.func101, Tryd.ntmps101
        go_wp2
        go_ret
        exact ⟨by rw [er.out]; rfl, hb⟩
      · have er := hid (show q = false by rw [← hq]; simp [hasI, h3])
        clear hq
        go_enter Tryd.func101, Tryd.ntmps101
        go_wp2
        go_ret
        exact ⟨by rw [er.out]; rfl, hb⟩
    · have er := hid (show q = false by rw [← hq]; simp [hasI, h2])
      clear hq
      go_enter Tryd.func101, Tryd.ntmps101
      go_wp2
      go_ret
      exact ⟨by rw [er.out]; rfl, hb⟩
  · have er := hid (show q = false by rw [← hq]; simp [hasI, h1])
    clear hq
    go_enter Tryd.func101, Tryd.ntmps101
    go_wp2
    go_ret
    exact ⟨by rw [er.out]; rfl, hb⟩
/-- known subtrees, with their hashes -/
abbrev Sub := (Int × Int) × ByteArray
def sbc (l : List Sub) : List Value := l.flatMap fun q => [.int .i64 q.1.1, .int .i64 q.1.2, .string q.2]
theorem sbc_len (l : List Sub) : (sbc l).length = l.length * 3 := by
  induction l with
  | nil => rfl
  | cons q l ih => rw [sbc, List.flatMap_cons, List.length_append, ← sbc, ih]; simp; omega
theorem sbc_append (l m : List Sub) : sbc (l ++ m) = sbc l ++ sbc m := List.flatMap_append
theorem sbc_get : ∀ {l : List Sub} {j : Nat} {q : Sub}, l[j]? = some q → (sbc l)[j * 3]? = some (.int .i64 q.1.1) ∧ (sbc l)[j * 3 + 1]? = some (.int .i64 q.1.2) ∧ (sbc l)[j * 3 + 2]? = some (.string q.2)
  | [], j, q, h => by simp at h
  | a :: l, 0, q, h => by
    obtain rfl : a = q := by simpa using h
    exact ⟨rfl, rfl, rfl⟩
  | a :: l, j + 1, q, h => by
    have := sbc_get (l := l) (j := j) (by simpa using h)
    rw [show (j + 1) * 3 = j * 3 + 3 from by omega]
    exact this
abbrev OwnS3 (w : World) (v : Value) (l : List Sub) : Prop := OwnM 3 w v l.length (sbc l)
theorem OwnS3.at {w : World} {v : Value} {l : List Sub} (h : OwnS3 w v l) {j : Nat} {q : Sub} (hq : l[j]? = some q) : ∃ g cap, v = .slice (some ⟨g, 0, none⟩) l.length cap ∧ w.cell? ⟨g, j * 3, none⟩ = some (.int .i64 q.1.1) ∧ w.cell? ⟨g, j * 3 + 1, none⟩ = some (.int .i64 q.1.2) ∧ w.cell? ⟨g, j * 3 + 2, none⟩ = some (.string q.2) := by
  rcases h with ⟨_, h1, _⟩ | ⟨g, cap, rfl, _, _, _, h4, _, _⟩
  · have := (List.getElem?_eq_some_iff.1 hq).1; omega
  · obtain ⟨a, b, c⟩ := sbc_get hq
    have a' := h4 _ _ a
    have b' := h4 _ _ b
    have c' := h4 _ _ c
    rw [Nat.zero_add] at a' b' c'
    exact ⟨g, cap, rfl, a', b', c'⟩
theorem infoSb : (Tryd.prog.info? 129).map (fun i => (i.zero, i.size, i.bytes)) = some (some (.agg #[.int .i64 0, .int .i64 0, .string ⟨#[]⟩]), 3, 32) := by kernel_rfl
theorem append_sub (w : World) (v : Value) (l : List Sub) (x y : Int) (s : ByteArray) (h : OwnS3 w v l) (hl : l.length ≤ 1099511627776) :
    ∃ v' w', (Builtin.append_ #[103, 103] 103 #[v, .slice (some ⟨w.heap.size, 0, none⟩) 1 1]).run Tryd.prog (w.alloc (.cells #[.int .i64 x, .int .i64 y, .string s] 129)) = .ok v' w' ∧ OwnS3 w' v' (l ++ [((x, y), s)]) ∧ Grow w w' v v' := by
  obtain ⟨v', w', h1, h2, h3⟩ := append_oneL 103 129 (.agg #[.int .i64 0, .int .i64 0, .string ⟨#[]⟩]) 32 Tryd.underlying103 infoSb rfl w v l.length (sbc l) [.int .i64 x, .int .i64 y, .string s] rfl (fun u hu => by
    simp only [List.mem_cons, List.not_mem_nil, or_false] at hu
    rcases hu with rfl | rfl | rfl <;> rfl) h (by omega) (by rw [maxLen]; omega)
  refine ⟨v', w', h1, ?_, h3⟩
  unfold OwnS3
  rw [sbc_append, List.length_append]; exact h2
end Go.Proofs.YtbkppdkebcdcoaaDoor
