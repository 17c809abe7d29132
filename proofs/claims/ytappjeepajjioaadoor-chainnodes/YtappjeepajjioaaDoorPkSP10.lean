import Derived.Test.YtappjeepajjioaaDoorPkO51
import Derived.Test.YtappjeepajjioaaDoorPkO8
import Derived.Test.YtappjeepajjioaaDoorPkFR2
import Derived.Test.YtappjeepajjioaaDoorPkFN1
import Derived.Test.YtappjeepajjioaaDoorPkR4
namespace Go.Proofs.YtappjeepajjioaaDoor
open Go.RowKit Go.Shelf
attribute [local go_sem] Oper.semAt_some
/-- H3 -/
def proofE (m n : Int) : Int := if 1 ≤ m ∧ m ≤ n ∧ n ≤ 1099511627776 then 0 else 81
def proofL (m n : Int) : List (Nat × Nat) := if proofE m n = 0 then Tree.prfF n.toNat 0 n.toNat m.toNat else []
set_option maxRecDepth 100000 in
set_option maxHeartbeats 8000000 in
theorem proof8_bad (m n : Int) (w : World) (h : proofE m n ≠ 0) : Calls Tryd.prog 46 #[.int .i64 m, .int .i64 n] w (SpP w (proofE m n) (proofL m n)) := by
  refine (callsIn_wide (n := 9)).1 ?_
  have c0 := (Boxed.new w 3 (.int .i64 m)).cell
  have eL : Hid (proofL m n = []) := by unfold Hid proofL; rw [if_neg h]
  have eE : proofE m n = 81 := by unfold proofE at h ⊢; split at h; exact absurd rfl h; rw [if_neg ‹_›]
  rw [eL.out, eE]
  have hc : ¬ (1 ≤ m ∧ m ≤ n ∧ n ≤ 1099511627776) := fun hh => h (by unfold proofE; rw [if_pos hh])
  clear eL eE h
  refine callsIn_of_wp_marks Tryd.func46 rfl trivial ?_ rfl
  simp only [Tryd.ntmps46, List.size_toArray, List.length_cons, List.length_nil, Nat.reduceAdd, Nat.reduceSub, Array.replicate_succ, Array.replicate_zero, List.push_toArray, List.append_toArray, List.nil_append, List.cons_append]
  by_cases h1 : m < 1
  · gi_wp2
    refine ⟨_, results_tmp2 rfl _ _ _, (Below.refl _ w).alloc (Nat.le_refl _) _, _, rfl, OwnM.nil 2 _, fun k hk => by cases hk⟩
  · by_cases h2 : n < m
    · gi_wp2
      refine ⟨_, results_tmp2 rfl _ _ _, (Below.refl _ w).alloc (Nat.le_refl _) _, _, rfl, OwnM.nil 2 _, fun k hk => by cases hk⟩
    · have h3 : 1099511627776 < n := by omega
      gi_wp2
      refine ⟨_, results_tmp2 rfl _ _ _, (Below.refl _ w).alloc (Nat.le_refl _) _, _, rfl, OwnM.nil 2 _, fun k hk => by cases hk⟩
def Gt8 (m : Nat) (l : List (Nat × Nat)) : Prop := ∀ s ∈ l, m < s.2
theorem Gt8.snoc {m : Nat} {l : List (Nat × Nat)} {x y : Nat} (h : Gt8 m l) (hq : m < y) : Gt8 m (l ++ [(x, y)]) := fun s hs => by
  rcases List.mem_append.1 hs with h' | h'
  · exact h s h'
  · obtain rfl : s = (x, y) := by simpa using h'
    exact hq
def Exi (c : Code) : Prop := c = .exit 0
set_option maxRecDepth 100000 in
set_option maxHeartbeats 8000000 in
theorem proof8_ok (m n i : Nat) (w : World) (hm : Hid (m = i + 1)) (h2 : m ≤ n) (h3 : n ≤ 1099511627776) : Calls Tryd.prog 46 #[.int .i64 (m : Int), .int .i64 (n : Int)] w (SpP w 0 (Tree.prfF n 0 n m)) := by
  refine (callsIn_wide (n := 9)).1 ?_
  have c0 := (Boxed.new w 3 (.int .i64 (m : Int))).cell
  have c0' := ((Boxed.new w 3 (.int .i64 (m : Int))).alloc (.cells #[.slice none 0 0] 34)).cell
  have q1 : ¬ (m : Int) < 1 := by have := hm.out; omega
  have q2 : ¬ (n : Int) < (m : Int) := by omega
  have q3 : ¬ (1099511627776 : Int) < (n : Int) := by omega
  have q4 : wrap64 ((m : Int) - 1) = (i : Int) := by have := hm.out; unfold wrap64; omega
  have q5 : IntKind.i64.wrap ((m : Int) - 1) = (i : Int) := by have := hm.out; rw [IntKind.wrap_i64]; omega
  have q6 : decide ((m : Int) < 1) = false := by have := hm.out; rw [decide_eq_false]; omega
  have q7 : decide (n < m) = false := by rw [decide_eq_false]; omega
  refine callsIn_of_wp_marks Tryd.func46 rfl trivial ?_ rfl
  simp only [Tryd.ntmps46, List.size_toArray, List.length_cons, List.length_nil, Nat.reduceAdd, Nat.reduceSub, Array.replicate_succ, Array.replicate_zero, List.push_toArray, List.append_toArray, List.nil_append, List.cons_append]
  gi_wp2
  refine ⟨trivial, (callsIn_wide.2 (way_any _ _ _)).mono ?_⟩
  rintro r w1 ⟨rfl, h1⟩
  have h1 := h1.symm
  subst h1
  gi_wp2
  clear c0 c0'
  have hmi : i < m := by have := hm.out; omega
  obtain ⟨W4, hW4⟩ : ∃ W4, Hid (((((w.alloc (.cells #[.int .i64 (m : Int)] 3)).alloc (.cells #[.slice none 0 0] 34)).alloc (.cells #[.int .i64 (n : Int)] 3)).alloc (.cells #[.int .i64 (i : Int)] 3)) = W4) := ⟨_, rfl⟩
  rw [hW4.out]
  have z4 : W4.heap.size = w.heap.size + 4 := by rw [← hW4.out]; simp
  have B4 : Below w.heap.size w W4 := by rw [← hW4.out]; exact ((((Below.refl _ w).alloc (Nat.le_refl _) _).alloc (by rw [size_alloc]; omega) _).alloc (by rw [size_alloc, size_alloc]; omega) _).alloc (by rw [size_alloc, size_alloc, size_alloc]; omega) _
  have R0 : Boxed W4 w.heap.size 3 (.int .i64 (m : Int)) := by rw [← hW4.out]; exact (((Boxed.new w 3 (.int .i64 (m : Int))).alloc _).alloc _).alloc _
  have R1 : Boxed W4 (w.heap.size + 1) 34 (.slice none 0 0) := by
    rw [← hW4.out]
    have := Boxed.new (w.alloc (.cells #[.int .i64 (m : Int)] 3)) 34 (.slice none 0 0)
    rw [size_alloc] at this
    exact (this.alloc _).alloc _
  have R2 : Boxed W4 (w.heap.size + 1 + 1) 3 (.int .i64 (n : Int)) := by
    rw [← hW4.out]
    have := Boxed.new ((w.alloc (.cells #[.int .i64 (m : Int)] 3)).alloc (.cells #[.slice none 0 0] 34)) 3 (.int .i64 (n : Int))
    rw [size_alloc, size_alloc] at this
    exact this.alloc _
  have R3 : Boxed W4 (w.heap.size + 1 + 1 + 1) 3 (.int .i64 (i : Int)) := by
    rw [← hW4.out]
    have := Boxed.new (((w.alloc (.cells #[.int .i64 (m : Int)] 3)).alloc (.cells #[.slice none 0 0] 34)).alloc (.cells #[.int .i64 (n : Int)] 3)) 3 (.int .i64 (i : Int))
    rw [size_alloc, size_alloc, size_alloc] at this
    exact this
  clear hW4
  have hway := Tree.wayF_has n 0 n i (Nat.le_refl _) (by omega) (by omega)
  have hwl := Tree.wayF_len n 0 n i (Nat.le_refl _) (by omega)
  have P0 : PthI w.heap.size (w.heap.size + 1) (m : Int) (fun k => k = w.heap.size ∨ Col.F (w.heap.size + 1) (.slice none 0 0) k) [] (.slice none 0 0) W4 := ⟨rfl, R0, ⟨R1, OwnM.nil 2 W4, fun h => by cases h⟩, fun h => by cases h⟩
  have hrc : Hid (Tree.rcol m (Tree.wayF n 0 n i) = (Tree.prfF n 0 n m).reverse) := by
    unfold Hid
    have := Tree.rcol_way m n 0 n (Nat.le_refl _) (by have := hm.out; omega) (by omega)
    rwa [show m - 1 = i by have := hm.out; omega] at this
  have hrl : (Tree.rcol m (Tree.wayF n 0 n i)).length ≤ 1099511627776 := by
    have h1 : ∀ l : List (Nat × Nat), (Tree.rcol m l).length ≤ l.length := fun l => by
      induction l with
      | nil => exact Nat.le_refl _
      | cons s l ih =>
        rw [Tree.rcol]
        split
        · rw [List.length_cons, List.length_cons]; omega
        · split
          · rw [List.length_cons]; simp
          · exact Nat.zero_le _
    have := h1 (Tree.wayF n 0 n i)
    omega
  refine range_foot (n := 9) (gf := 79) (lb := #[.pointer (some ⟨w.heap.size + 1 + 1, 0, none⟩), .pointer (some ⟨w.heap.size + 1 + 1 + 1, 0, none⟩)]) rfl (enters_of Tryd.func79 (by kernel_rfl) rfl)
    (way_iter n i _ _ (by omega) (by omega) (by omega) W4 R2.cell R3.cell) (fun _ => rfl)
    (fun F pre W => (∃ v, PthI w.heap.size (w.heap.size + 1) (m : Int) F (pre.map (Tree.osd i)) v W) ∧ Gt8 m pre)
    (fun c F _ W => Exi c ∧ ∃ v, PthI w.heap.size (w.heap.size + 1) (m : Int) F (Tree.rcol m (Tree.wayF n 0 n i)) v W)
    ⟨fun F pre W W' S ⟨⟨v, h⟩, hg⟩ hk hs => ⟨⟨v, h.keep hk hs⟩, hg⟩, fun F pre W ⟨⟨v, h⟩, _⟩ => h.lt⟩ (fun c => ⟨fun F pre W W' S ⟨hc, v, h⟩ hk hs => ⟨hc, v, h.keep hk hs⟩, fun F pre W ⟨_, v, h⟩ => h.lt⟩)
    (fun k => k = w.heap.size ∨ Col.F (w.heap.size + 1) (.slice none 0 0) k) ⟨⟨_, P0⟩, fun _ h => by cases h⟩ ?dis ?cl
    (fun F pre x a W => ∃ v go F1, PthI w.heap.size (w.heap.size + 1) (m : Int) F1 (pre.map (Tree.osd i)) v W ∧ Gt8 m pre ∧ F = (fun k => F1 k ∨ k = go) ∧ ¬ F1 go ∧ SpI W go x.1 x.2 ∧ a = { tmps := #[.int .i64 (m : Int), .int .i64 (n : Int), .pointer (some ⟨w.heap.size, 0, none⟩), undef, .slice none 0 0, .int .i64 0, .pointer (some ⟨w.heap.size + 1, 0, none⟩), .pointer (some ⟨go, 0, none⟩), .int .i64 (m : Int), .bool false, .bool false, .int .i64 (m : Int), .int .i64 (n : Int), .bool false, .bool false, .bool false, .int .i64 (n : Int), .bool false, .bool false, .int .i64 (n : Int), .int .i64 (m : Int), .int .i64 (i : Int), .func (.func 79) #[] #[.pointer (some ⟨w.heap.size + 1 + 1, 0, none⟩), .pointer (some ⟨w.heap.size + 1 + 1 + 1, 0, none⟩)], sg x.1 x.2, undef, undef, undef, undef, undef, undef, undef, undef, undef, undef, undef, undef, undef, undef, undef, undef, undef, undef, undef, undef, undef], defers := [] })
    ?fA ?assign ?body ?done ?stop
  case dis =>
    rintro k (rfl | rfl | e) (h | h)
    · omega
    · omega
    · omega
    · omega
    · cases e
    · cases e
  case cl => rintro k (rfl | rfl) <;> omega
  case fA =>
    rintro x a
    refine ⟨?_, ?_⟩
    · rintro F pre W W' S ⟨v, go, F1, h1, hgt, rfl, h2, h3, h4⟩ hk hs
      exact ⟨v, go, F1, h1.keep hk fun k e => hs k (.inl e), hgt, rfl, h2, h3.keep hk (hs _ (.inr rfl)), h4⟩
    · rintro F pre W ⟨v, go, F1, h1, _, rfl, h2, h3, h4⟩ k (e | rfl)
      · exact h1.lt k e
      · exact lt_of_heap h3
  case assign =>
    rintro l F pre x rest W ⟨⟨v, h1⟩, hgt⟩ hx
    clear q1 q2 q3 q4 q5 q6 q7
    gi_wp2
    have hb := (Below.refl _ W).alloc (Nat.le_refl _) (.cells #[.int .i64 (x.1 : Int), .int .i64 (x.2 : Int)] 45)
    exact ⟨_, Mvs.alloc F W _, v, W.heap.size, F, h1.below hb, hgt, rfl, fun h => by have := h1.lt _ h; omega, SpI.new W x.1 x.2, rfl⟩
  case body =>
    rintro l F pre x rest a W ⟨v, go, F1, h1, hgt, rfl, h2, h3, rfl⟩ hx
    obtain ⟨x, y⟩ := x
    have hxy := hway (x, y) (by rw [hx]; exact List.mem_append.2 (.inr List.mem_cons_self))
    have hxi : x ≤ i := hxy.2.1
    have hiy : i < y := hxy.2.2.1
    have hyn : y ≤ n := by have := hxy.2.2.2; omega
    have hpl : (pre.map (Tree.osd i)).length ≤ 1099511627776 := by
      have := congrArg List.length hx
      rw [List.length_append] at this
      rw [List.length_map]
      omega
    have c0 := h3.c0
    have c1 := h3.c1
    have d0 := h1.bi.cell
    have hFe := h1.F
    have hgo : ¬ v.ownBlock = some go := fun e => h2 (by rw [hFe]; exact .inr (.inr e))
    have hgb : go ≠ w.heap.size + 1 := fun e => h2 (by rw [hFe]; exact .inr (.inl e))
    have hMv : Mvs (fun k => F1 k ∨ k = go) W W F1 := ⟨Keep.refl _ _, fun k hk => .inl (.inl hk)⟩
    clear hFe hxy q1 q2 q3 q4 q6 q7 hrl hway
    obtain ⟨va, vc, hv, _, _⟩ := h1.col.own.shape
    obtain ⟨vn, hvn⟩ : ∃ vn, (pre.map (Tree.osd i)).length = vn := ⟨_, rfl⟩
    rw [hvn] at hv
    subst hv
    clear hvn
    have hcl := hpl
    by_cases hy : m < y
    · have hy' : (m : Int) < (y : Int) := by omega
      gi_wp2
      clear hy'
      have P1 := h1
      have s1 := h3
      refine round_held (S := (fun w' => w'.cell? ⟨go, 0, none⟩ = some (.int .i64 (x : Int)) ∧ w'.cell? ⟨go, 1, none⟩ = some (.int .i64 (y : Int)) ∧ w'.cell? ⟨w.heap.size, 0, none⟩ = some (.int .i64 (m : Int)))) (by kernel_rfl) (noDefer (by kernel_rfl)) ⟨s1.c0, s1.c1, P1.bi.cell⟩ (fun hHeld => ?_)
      refine wpAnyH_take (i := 1) (v := sg x y) rfl (by kernel_rfl) (by kernel_rfl) (by kernel_rfl) (fun _ _ _ h => h) (Or.inl ⟨by rfl, ?_⟩) hHeld ?_
      · intro w' hw'
        obtain ⟨y0, y1, y2⟩ := hw'
        simp [go_sem, y0, y1]
      dsimp only [Act.put]
      refine wpAnyH_take (i := 2) (v := .int .i64 (m : Int)) rfl (by kernel_rfl) (by kernel_rfl) (by kernel_rfl) (fun _ _ _ h => h) (Or.inl ⟨by rfl, ?_⟩) hHeld ?_
      · intro w' hw'
        obtain ⟨y0, y1, y2⟩ := hw'
        simp [go_sem, y2]
      dsimp only [Act.put]
      refine wpAnyH_take (i := 3) (v := .int .i64 (i : Int)) rfl (by kernel_rfl) (by kernel_rfl) (by kernel_rfl) (fun _ _ _ h => h) (Or.inl ⟨by rfl, ?_⟩) hHeld ?_
      · intro w' hw'
        simp [go_sem, q5]
      dsimp only [Act.put]
      refine wpAnyH_ready (rs := [0, 4]) (by kernel_rfl) (by decide) (AllReadyH.cons rfl (fun K' hK => ?_) (AllReadyH.cons rfl (fun K' hK => ?_) AllReadyH.nil))
      · rw [if_pos (by rfl)]
        have b0 : W.drew.cell? ⟨w.heap.size + 1, 0, none⟩ = some (.slice va vn vc) := P1.col.box.cell
        go_wp2
        refine hK.out _ _ ⟨s1.c0, s1.c1, P1.bi.cell⟩ (fun hHeld => ?_)
        refine wpAnyH_ready (rs := [4]) (by kernel_rfl) (by decide) (AllReadyH.cons rfl (fun K' hK => ?_) AllReadyH.nil)
        rw [if_pos (by rfl)]
        go_wp2_with (go_at_call 63; fail)
        refine (beside_any x y i (by omega) (by omega) _).mono ?_
        rintro r W2 ⟨rfl, hb2⟩
        have hb2 := drewBelow8 hb2
        have P2 := P1.below hb2
        have s2 := s1.below hb2
        obtain ⟨v', w3, hap, O3, G3⟩ := append_pair W2 (.slice va vn vc) (pre.map (Tree.osd i)) (Tree.osd i (x, y)).1 (Tree.osd i (x, y)).2 P2.col.own hcl
        obtain ⟨bx3, P3, M3⟩ := P2.push (by omega) O3 G3
        refine hK.out _ _ ⟨s2.c0, s2.c1, P2.bi.cell⟩ (fun hHeld => ?_)
        refine wpAnyH_ready (rs := [5]) (by kernel_rfl) (by decide) (AllReadyH.cons rfl (fun K' hK => ?_) AllReadyH.nil)
        rw [if_pos (by rfl)]
        go_wp2
        have hbB := (Below.refl _ W2).alloc (Nat.le_refl _) (.cells #[.int .i64 ((Tree.osd i (x, y)).1 : Int), .int .i64 ((Tree.osd i (x, y)).2 : Int)] 45)
        refine hK.out _ _ ⟨(s2.below hbB).c0, (s2.below hbB).c1, (P2.below hbB).bi.cell⟩ (fun hHeld => ?_)
        refine wpAnyH_ready (rs := [6]) (by kernel_rfl) (by decide) (AllReadyH.cons rfl (fun K' hK => ?_) AllReadyH.nil)
        refine step_append_run rfl _ _ 34 rfl (.slice va vn vc) _ v' w3 rfl rfl hap ?_
        have kA := (Mvs.alloc (fun _ => False) W2 (.cells #[.int .i64 ((Tree.osd i (x, y)).1 : Int), .int .i64 ((Tree.osd i (x, y)).2 : Int)] 45)).keep
        have s3 : SpI w3 go x y := s2.keep G3.keep hgo
        have bi3 : Boxed w3 (w.heap.size) 3 (.int .i64 (m : Int)) := P2.bi.keepF G3.keep P2.ne
        refine hK.out _ _ ⟨s3.c0, s3.c1, bi3.cell⟩ (fun hHeld => ?_)
        refine wpAnyH_ready (rs := [7]) (by kernel_rfl) (by decide) (AllReadyH.cons rfl (fun K' hK => ?_) AllReadyH.nil)
        rw [if_pos (by rfl)]
        have c3 := bx3.cell
        have f3 := bx3.frozen
        obtain ⟨va', vn', vc', rfl⟩ := ownM_sl O3
        go_wp2
        have s4 := s3.far (w.heap.size + 1) 0 (.slice va' vn' vc') hgb
        refine hK.out _ _ ⟨s4.c0, s4.c1, P3.bi.cell⟩ (fun _ => wpAnyH_done (by kernel_rfl) ?_ _)
        have M5 : Mvs F1 W W2 F1 := ⟨Keep.ofBelow hb2, fun k hk => .inl hk⟩
        have M6 := (hMv.trans M5).trans M3
        simp only [OnlyN, Exit.then]
        gi_wp2
        refine ⟨_, M6, ⟨.slice va' vn' vc', ?_⟩, hgt.snoc hy⟩
        rw [List.map_append]
        exact P3
      · rw [if_pos (by rfl)]
        go_wp2_with (go_at_call 63; fail)
        refine (beside_any x y i (by omega) (by omega) _).mono ?_
        rintro r W2 ⟨rfl, hb2⟩
        have hb2 := drewBelow8 hb2
        have P2 := P1.below hb2
        have s2 := s1.below hb2
        obtain ⟨v', w3, hap, O3, G3⟩ := append_pair W2 (.slice va vn vc) (pre.map (Tree.osd i)) (Tree.osd i (x, y)).1 (Tree.osd i (x, y)).2 P2.col.own hcl
        obtain ⟨bx3, P3, M3⟩ := P2.push (by omega) O3 G3
        refine hK.out _ _ ⟨s2.c0, s2.c1, P2.bi.cell⟩ (fun hHeld => ?_)
        refine wpAnyH_ready (rs := [0, 5]) (by kernel_rfl) (by decide) (AllReadyH.cons rfl (fun K' hK => ?_) (AllReadyH.cons rfl (fun K' hK => ?_) AllReadyH.nil))
        · rw [if_pos (by rfl)]
          have b0 : W2.cell? ⟨w.heap.size + 1, 0, none⟩ = some (.slice va vn vc) := P2.col.box.cell
          go_wp2
          refine hK.out _ _ ⟨s2.c0, s2.c1, P2.bi.cell⟩ (fun hHeld => ?_)
          refine wpAnyH_ready (rs := [5]) (by kernel_rfl) (by decide) (AllReadyH.cons rfl (fun K' hK => ?_) AllReadyH.nil)
          rw [if_pos (by rfl)]
          go_wp2
          have hbB := (Below.refl _ W2).alloc (Nat.le_refl _) (.cells #[.int .i64 ((Tree.osd i (x, y)).1 : Int), .int .i64 ((Tree.osd i (x, y)).2 : Int)] 45)
          refine hK.out _ _ ⟨(s2.below hbB).c0, (s2.below hbB).c1, (P2.below hbB).bi.cell⟩ (fun hHeld => ?_)
          refine wpAnyH_ready (rs := [6]) (by kernel_rfl) (by decide) (AllReadyH.cons rfl (fun K' hK => ?_) AllReadyH.nil)
          refine step_append_run rfl _ _ 34 rfl (.slice va vn vc) _ v' w3 rfl rfl hap ?_
          have kA := (Mvs.alloc (fun _ => False) W2 (.cells #[.int .i64 ((Tree.osd i (x, y)).1 : Int), .int .i64 ((Tree.osd i (x, y)).2 : Int)] 45)).keep
          have s3 : SpI w3 go x y := s2.keep G3.keep hgo
          have bi3 : Boxed w3 (w.heap.size) 3 (.int .i64 (m : Int)) := P2.bi.keepF G3.keep P2.ne
          refine hK.out _ _ ⟨s3.c0, s3.c1, bi3.cell⟩ (fun hHeld => ?_)
          refine wpAnyH_ready (rs := [7]) (by kernel_rfl) (by decide) (AllReadyH.cons rfl (fun K' hK => ?_) AllReadyH.nil)
          rw [if_pos (by rfl)]
          have c3 := bx3.cell
          have f3 := bx3.frozen
          obtain ⟨va', vn', vc', rfl⟩ := ownM_sl O3
          go_wp2
          have s4 := s3.far (w.heap.size + 1) 0 (.slice va' vn' vc') hgb
          refine hK.out _ _ ⟨s4.c0, s4.c1, P3.bi.cell⟩ (fun _ => wpAnyH_done (by kernel_rfl) ?_ _)
          have M5 : Mvs F1 W W2 F1 := ⟨Keep.ofBelow hb2, fun k hk => .inl hk⟩
          have M6 := (hMv.trans M5).trans M3
          simp only [OnlyN, Exit.then]
          gi_wp2
          refine ⟨_, M6, ⟨.slice va' vn' vc', ?_⟩, hgt.snoc hy⟩
          rw [List.map_append]
          exact P3
        · rw [if_pos (by rfl)]
          go_wp2
          have hbB := (Below.refl _ W2).alloc (Nat.le_refl _) (.cells #[.int .i64 ((Tree.osd i (x, y)).1 : Int), .int .i64 ((Tree.osd i (x, y)).2 : Int)] 45)
          refine hK.out _ _ ⟨(s2.below hbB).c0, (s2.below hbB).c1, (P2.below hbB).bi.cell⟩ (fun hHeld => ?_)
          refine wpAnyH_ready (rs := [0]) (by kernel_rfl) (by decide) (AllReadyH.cons rfl (fun K' hK => ?_) AllReadyH.nil)
          have PB := P2.below hbB
          rw [if_pos (by rfl)]
          have b0 : (W2.alloc (.cells #[.int .i64 ((Tree.osd i (x, y)).1 : Int), .int .i64 ((Tree.osd i (x, y)).2 : Int)] 45)).cell? ⟨w.heap.size + 1, 0, none⟩ = some (.slice va vn vc) := PB.col.box.cell
          go_wp2
          refine hK.out _ _ ⟨(s2.below hbB).c0, (s2.below hbB).c1, (P2.below hbB).bi.cell⟩ (fun hHeld => ?_)
          refine wpAnyH_ready (rs := [6]) (by kernel_rfl) (by decide) (AllReadyH.cons rfl (fun K' hK => ?_) AllReadyH.nil)
          refine step_append_run rfl _ _ 34 rfl (.slice va vn vc) _ v' w3 rfl rfl hap ?_
          have kA := (Mvs.alloc (fun _ => False) W2 (.cells #[.int .i64 ((Tree.osd i (x, y)).1 : Int), .int .i64 ((Tree.osd i (x, y)).2 : Int)] 45)).keep
          have s3 : SpI w3 go x y := s2.keep G3.keep hgo
          have bi3 : Boxed w3 (w.heap.size) 3 (.int .i64 (m : Int)) := P2.bi.keepF G3.keep P2.ne
          refine hK.out _ _ ⟨s3.c0, s3.c1, bi3.cell⟩ (fun hHeld => ?_)
          refine wpAnyH_ready (rs := [7]) (by kernel_rfl) (by decide) (AllReadyH.cons rfl (fun K' hK => ?_) AllReadyH.nil)
          rw [if_pos (by rfl)]
          have c3 := bx3.cell
          have f3 := bx3.frozen
          obtain ⟨va', vn', vc', rfl⟩ := ownM_sl O3
          go_wp2
          have s4 := s3.far (w.heap.size + 1) 0 (.slice va' vn' vc') hgb
          refine hK.out _ _ ⟨s4.c0, s4.c1, P3.bi.cell⟩ (fun _ => wpAnyH_done (by kernel_rfl) ?_ _)
          have M5 : Mvs F1 W W2 F1 := ⟨Keep.ofBelow hb2, fun k hk => .inl hk⟩
          have M6 := (hMv.trans M5).trans M3
          simp only [OnlyN, Exit.then]
          gi_wp2
          refine ⟨_, M6, ⟨.slice va' vn' vc', ?_⟩, hgt.snoc hy⟩
          rw [List.map_append]
          exact P3
    · have hy' : ¬ (m : Int) < (y : Int) := by omega
      have hro : Hid (Tree.rcol m (Tree.wayF n 0 n i) = pre.map (Tree.osd i) ++ (if 0 < x then [(x, y)] else [])) := by
        have := Tree.rcol_split (m := m) (pre := pre) (x := (x, y)) (rest := rest) hgt hy
        rw [show m - 1 = i by have := hm.out; omega] at this
        unfold Hid
        rw [hx]
        exact this
      clear hx
      by_cases hx0 : 0 < x
      · have hx0' : (0 : Int) < (x : Int) := by omega
        have b0 := h1.col.box.cell
        obtain ⟨v', w3, hap, O3, G3⟩ := append_pair W (.slice va vn vc) (pre.map (Tree.osd i)) x y h1.col.own hcl
        obtain ⟨bx3, P3, M3⟩ := h1.push (by omega) O3 G3
        have c3 := bx3.cell
        have f3 := bx3.frozen
        obtain ⟨va', vn', vc', rfl⟩ := ownM_sl O3
        gi_wp2_with (gi_at_builtin; refine wpListIn_append_run rfl _ _ 34 rfl (.slice va vn vc) _ _ w3 rfl rfl hap ?_)
        refine ⟨_, hMv.trans M3, rfl, .slice va' vn' vc', ?_⟩
        rw [hro.out, if_pos hx0]
        exact P3
      · have hx0' : ¬ (0 : Int) < (x : Int) := by omega
        gi_wp2
        refine ⟨_, hMv, rfl, .slice va vn vc, ?_⟩
        rw [hro.out, if_neg hx0, List.append_nil]
        exact h1
  case done =>
    rintro D F W ⟨⟨v, h1⟩, hgt⟩ ha
    obtain ⟨p, hp⟩ := Tree.wayF_last n 0 n i (Nat.le_refl _) (by omega) (by omega)
    have := hgt (i, i + 1) (by rw [hp]; exact List.mem_append.2 (.inr (by simp)))
    have : m < i + 1 := this
    omega
  case stop =>
    rintro D c F pre W hp ⟨rfl, v, h1⟩ ha
    have hFe := h1.F
    have hvD : v.ownBlock ≠ some D := fun e => ha.out (by rw [hFe]; exact .inr (.inr e))
    have hvB : ∀ k, v.ownBlock = some k → w.heap.size ≤ k := fun k e => by
      rcases ha.new k (by rw [hFe]; exact .inr (.inr e)) with (q | q | q) | q
      · omega
      · omega
      · cases q
      · omega
    have hL : Hid (Tree.rcol m (Tree.wayF n 0 n i) = (Tree.prfF n 0 n m).reverse) := hrc
    have O1 := hid h1.col.own
    have hlen : Hid ((Tree.rcol m (Tree.wayF n 0 n i)).length ≤ 1099511627776) := by
      unfold Hid; exact hrl
    clear hrl
    have i5 := rev_any _ v W h1.col.own hlen.out
    rw [hL.out, List.reverse_reverse] at i5
    have bx := hid h1.col.box
    have hne := h1.col.ne
    obtain ⟨va, vn, vc, rfl⟩ := ownM_sl O1.out
    have c0 := bx.out.cell
    clear hFe h1
    gi_wp2
    refine ⟨trivial, (callsIn_wide.2 i5).mono ?_⟩
    rintro r W5 ⟨rfl, O5, K5⟩
    have b5 := (bx.out.keepF K5 hne)
    have c5 := b5.cell
    clear i5 c0
    gi_wp2
    have hm5 : W5.heap[D]? = some (.deferred (some [])) := (K5.block D (Array.getElem?_eq_some_iff.1 ha.mark).1 hvD).trans ha.mark
    refine ⟨by simp, .inl ⟨_, _, rfl, run_takeDeferred hm5, ?_⟩⟩
    refine ⟨_, results_tmp2 rfl _ _ _, ?_, _, rfl, O5.keep (Keep.ofPut (S := fun k => k = D) _ D (.deferred none) rfl) (fun k hk e => hvD (e ▸ hk)), hvB⟩
    have k1 : Keep (fun k => w.heap.size ≤ k) W4 W := ha.keep.mono fun k _ h => by
      rcases h with (h | h | h) | h
      · omega
      · omega
      · cases h
      · exact h.elim
    have k2 := (k1.trans (K5.mono (T := fun k => w.heap.size ≤ k) fun k _ h => hvB k h) fun _ _ h => h).trans (Keep.ofPut (S := fun k => w.heap.size ≤ k) W5 D (.deferred none) (by have := ha.hi; omega)) fun _ _ h => h
    exact B4.trans (k2.belowOf (by omega) fun _ h => h)
theorem proof8_any (m n : Int) (w : World) : Calls Tryd.prog 46 #[.int .i64 m, .int .i64 n] w (SpP w (proofE m n) (proofL m n)) := by
  by_cases h : proofE m n = 0
  · have hc : 1 ≤ m ∧ m ≤ n ∧ n ≤ 1099511627776 := by
      unfold proofE at h
      split at h
      · assumption
      · cases h
    unfold proofL
    rw [if_pos h, h]
    obtain ⟨m, rfl⟩ := Int.eq_ofNat_of_zero_le (show 0 ≤ m by omega)
    obtain ⟨n, rfl⟩ := Int.eq_ofNat_of_zero_le (show 0 ≤ n by omega)
    rw [Int.toNat_natCast, Int.toNat_natCast]
    exact proof8_ok m n (m - 1) w (show m = m - 1 + 1 by omega) (by omega) (by omega)
  · exact proof8_bad m n w h
end Go.Proofs.YtappjeepajjioaaDoor

namespace Go.Proofs.YtappjeepajjioaaDoor
open Go.RowKit Go.Shelf
def BsP (is : List Nat) (p : Nat) (w : World) (e : Ending) (w' : World) : Prop := (∃ q, e = .returned (.tuple #[.int .i64 (Tree.cnt p is : Nat), .bool q])) ∧ w' = w
end Go.Proofs.YtappjeepajjioaaDoor

namespace Go.Proofs.YtappjeepajjioaaDoor
open Go.RowKit Go.Shelf
theorem cnt_filter (p : Nat) (is : List Nat) (hs : is.Pairwise (· < ·)) : Tree.cnt p is = (is.filter (· < p)).length := by
  rw [← Tree.cnt_take p is hs, List.length_take, Nat.min_eq_left (Tree.cnt_le p is)]
theorem wit_count (is : List Nat) {b e : Nat} (h : b ≤ e) : (is.filter (· < e)).length = (is.filter (· < b)).length + (Tree.wit is b e).length := by
  unfold Tree.wit
  induction is with
  | nil => rfl
  | cons i is ih =>
    by_cases h1 : i < b
    · rw [List.filter_cons_of_pos (by simpa using (show i < e by omega)), List.filter_cons_of_pos (by simpa using h1), List.filter_cons_of_neg (by simp; omega)]
      simp only [List.length_cons]; omega
    · by_cases h2 : i < e
      · rw [List.filter_cons_of_pos (by simpa using h2), List.filter_cons_of_neg (by simpa using h1), List.filter_cons_of_pos (by simp; omega)]
        simp only [List.length_cons]; omega
      · rw [List.filter_cons_of_neg (by simpa using h2), List.filter_cons_of_neg (by simpa using h1), List.filter_cons_of_neg (by simp; omega)]
        exact ih
theorem cnt_wit (is : List Nat) (hs : is.Pairwise (· < ·)) {b e : Nat} (h : b ≤ e) : Tree.cnt e is = Tree.cnt b is + (Tree.wit is b e).length := by
  rw [cnt_filter e is hs, cnt_filter b is hs, wit_count is h]
/-- a function that counts the wanted leaves of a span, by c; it looks at what lies below B and at the block cb -/
def Cnts (f : Nat) (lb : Array Value) (N : Nat) (c : Nat → Nat → Nat) (C : Nat → Prop) (w : World) : Prop :=
  (∀ args w, (callFunc f args).run Tryd.prog w = .ok (.enter f args) w) ∧
  ∀ (b e : Nat) (W : World), b ≤ e → e ≤ N → (∀ k, C k → W.heap[k]? = w.heap[k]?) → w.heap.size ≤ W.heap.size →
    Calls Tryd.prog f (#[sg b e] ++ lb) W fun r W' => r = .returned (.int .i64 (c b e : Nat)) ∧ Below W.heap.size W W'
theorem AtI.keepB {w w' : World} {a : Option Addr} {l : List Int} {B : Nat} (h : AtI w a l) (hk : ∀ k, k < B → w'.heap[k]? = w.heap[k]?) (hB : w.heap.size ≤ B) (hs : w.heap.size ≤ w'.heap.size) : AtI w' a l := fun j p hp => by
  obtain ⟨x, hx, hlt, hc⟩ := h j p hp
  refine ⟨x, hx, by omega, ?_⟩
  rw [← hc]
  exact World.cell?_of_block (a := x.add j) (hk _ (by rw [addr_block]; omega))
end Go.Proofs.YtappjeepajjioaaDoor

namespace Go.Proofs.YtappjeepajjioaaDoor
open Go.RowKit Go.Shelf
attribute [local go_sem] Oper.semAt_some
/-- append of two pairs that lie in a row of their own -/
theorem append_two (w : World) (v : Value) (l : List (Nat × Nat)) (x y x' y' : Nat) (h : OwnP w v l) (hl : l.length ≤ 1099511627776) :
    ∃ v' w', (Builtin.append_ #[34, 34] 34 #[v, .slice (some ⟨w.heap.size, 0, none⟩) 2 2]).run Tryd.prog (w.alloc (.cells #[.int .i64 (x : Int), .int .i64 (y : Int), .int .i64 (x' : Int), .int .i64 (y' : Int)] 45)) = .ok v' w' ∧ OwnP w' v' (l ++ [(x, y), (x', y')]) ∧ Grow w w' v v' := by
  obtain ⟨i0, hi, hz0, hz1, hz2⟩ := info_parts infoSp8
  have hsrc : Src Tryd.prog 2 34 (.slice (some ⟨w.heap.size, 0, none⟩) 2 2) 2 [.int .i64 (x : Int), .int .i64 (y : Int), .int .i64 (x' : Int), .int .i64 (y' : Int)] (w.alloc (.cells [.int .i64 (x : Int), .int .i64 (y : Int), .int .i64 (x' : Int), .int .i64 (y' : Int)].toArray 45)) :=
    Src.ofSlice _ Tryd.underlying34 ⟨w.heap.size, 0, none⟩ 2 2 _ rfl (fun j u hj => by
      rw [Addr.add_mid, cell_of_row _ _ _ _ _ _ (heap_alloc_new w _), Nat.zero_add]; simpa using hj) (fun u hu => by
      simp only [List.mem_cons, List.not_mem_nil, or_false] at hu
      rcases hu with rfl | rfl | rfl | rfl <;> rfl)
  obtain ⟨v', w', a1, a2, a3⟩ := run_append_M (P := Tryd.prog) (w.alloc (.cells [.int .i64 (x : Int), .int .i64 (y : Int), .int .i64 (x' : Int), .int .i64 (y' : Int)].toArray 45)) 34 34 34 45 i0 (.agg #[.int .i64 0, .int .i64 0]) Tryd.underlying34 hi hz0 hz1 rfl v l.length (prs l) (OwnM.alloc h _) _ 2 _ hsrc
    (by rw [hz2]; omega) (by rw [maxLen]; omega) (fun _ => by omega)
  have hs := a3.size
  rw [size_alloc] at hs
  refine ⟨v', w', a1, ?_, ⟨a3.os, a3.tape, a3.output, by omega, fun k hk hne => (a3.old k (by rw [size_alloc]; omega) hne).trans (Below.heap_alloc w _ k hk), ?_⟩⟩
  · unfold OwnP
    rw [prs_append, List.length_append]; exact a2
  rcases a3.alt with h4 | ⟨h4, h5⟩
  · exact .inl h4
  · refine .inr ⟨fun k hk => ?_, fun k hk => (h5 k (by rw [size_alloc]; omega)).trans (Below.heap_alloc w _ k hk)⟩
    have := h4 k hk
    rw [size_alloc] at this
    omega
/-- what is to be done: how much -/
def stW (l : List (Nat × Nat)) : Nat := (l.map fun s => 2 * (s.2 - s.1) - 1).sum
def stM (v : Value) (w : World) : Nat := match v with
  | .slice (some x) n _ => ((List.range n).map fun j => 2 * (memN w x.block (j * 2 + 1) - memN w x.block (j * 2)) - 1).sum
  | _ => 0
theorem stM_eq {w : World} {v : Value} {l : List (Nat × Nat)} (h : OwnP w v l) : stM v w = stW l := by
  rcases h with ⟨rfl, h1, h2⟩ | ⟨g, cap, rfl, h2, h3, h0, h4, h5, h6⟩
  · rw [List.length_eq_zero_iff.1 h1]; rfl
  · show List.sum _ = List.sum _
    refine congrArg List.sum (List.ext_getElem? fun j => ?_)
    by_cases hj : j < l.length
    · have hq : l[j]? = some l[j] := List.getElem?_eq_getElem hj
      have a0 := h4 _ _ (prs_get hq).1
      have a1 := h4 _ _ (prs_get hq).2
      rw [Nat.zero_add] at a0 a1
      have e0 : memN w g (j * 2) = (l[j]).1 := by unfold memN; rw [a0]; exact Int.toNat_natCast _
      have e1 : memN w g (j * 2 + 1) = (l[j]).2 := by unfold memN; rw [a1]; exact Int.toNat_natCast _
      rw [List.getElem?_map, List.getElem?_map, hq, List.getElem?_range hj]
      simp only [Option.map_some, e0, e1]
    · rw [List.getElem?_eq_none (by rw [List.length_map, List.length_range]; omega), List.getElem?_eq_none (by rw [List.length_map]; omega)]
theorem stW_snoc (l : List (Nat × Nat)) (s : Nat × Nat) : stW (l ++ [s]) = stW l + (2 * (s.2 - s.1) - 1) := by simp [stW, List.sum_append]
/-- the leaves of all of them -/
def stL (l : List (Nat × Nat)) : Nat := (l.map fun s => s.2 - s.1).sum
theorem stL_snoc (l : List (Nat × Nat)) (s : Nat × Nat) : stL (l ++ [s]) = stL l + (s.2 - s.1) := by simp [stL, List.sum_append]
theorem stL_len {l : List (Nat × Nat)} (h : ∀ s ∈ l, s.1 < s.2) : l.length ≤ stL l := by
  induction l with
  | nil => exact Nat.le_refl _
  | cons s l ih =>
    have h1 := h s List.mem_cons_self
    have h2 := ih fun t ht => h t (List.mem_cons_of_mem _ ht)
    have : stL (s :: l) = (s.2 - s.1) + stL l := by simp [stL]
    rw [List.length_cons, this]; omega
/-- what they will tell: the last is looked at first -/
def stO (n : Nat) (c : Nat → Nat → Nat) : List (Nat × Nat) → List (Nat × Nat)
  | [] => []
  | s :: l => stO n c l ++ Tree.barF n s.1 (s.2 - s.1) c
theorem stO_snoc (n : Nat) (c : Nat → Nat → Nat) : ∀ (l : List (Nat × Nat)) (s : Nat × Nat), stO n c (l ++ [s]) = Tree.barF n s.1 (s.2 - s.1) c ++ stO n c l
  | [], s => by simp [stO]
  | t :: l, s => by rw [List.cons_append, stO, stO_snoc n c l s, stO, List.append_assoc]
end Go.Proofs.YtappjeepajjioaaDoor

namespace Go.Proofs.YtappjeepajjioaaDoor
open Go.RowKit Go.Shelf
attribute [local go_sem] Oper.semAt_some
/-- what lies to be done, in memory; W: the world at the beginning, F the blocks of the rounds -/
structure Stk (W wr : World) (F F' : Nat → Prop) (v : Value) (st : List (Nat × Nat)) (N : Nat) : Prop where
  own : OwnP wr v st
  hi : ∀ k, v.ownBlock = some k → W.heap.size ≤ k
  out : ∀ k, v.ownBlock = some k → ¬ F' k
  keep : Keep F W wr
  new : ∀ k, F' k → F k ∨ W.heap.size ≤ k
  lt : ∀ s ∈ st, s.1 < s.2 ∧ s.2 ≤ N
  sum : stL st ≤ N
theorem Stk.below {W wr w' : World} {F F' : Nat → Prop} {v : Value} {st : List (Nat × Nat)} {N : Nat} (h : Stk W wr F F' v st N) (hb : Below wr.heap.size wr w') : Stk W w' F F' v st N :=
  ⟨h.own.below hb, h.hi, h.out, h.keep.trans (Keep.ofBelow (S := F) hb) fun _ _ e => e, h.new, h.lt, h.sum⟩
/-- behind a round -/
theorem Stk.round {W wr w' : World} {F F' F3 : Nat → Prop} {v : Value} {st : List (Nat × Nat)} {N : Nat} (h : Stk W wr F F' v st N) (hm : Mvs F' wr w' F3) : Stk W w' F F3 v st N := by
  have h0 := h.keep.size
  refine ⟨h.own.keep hm.keep h.out, h.hi, fun k hk e => ?_, ?_, fun k hk => ?_, h.lt, h.sum⟩
  · rcases hm.new k e with q | q
    · exact h.out k hk q
    · have := h.own.lt k hk; omega
  · refine h.keep.trans hm.keep fun k hk e => ?_
    rcases h.new k e with q | q
    · exact q
    · omega
  · rcases hm.new k hk with q | q
    · exact h.new k q
    · exact .inr (by omega)
/-- the last one is taken off -/
theorem Stk.pop {W wr : World} {F F' : Nat → Prop} {g n c : Nat} {st : List (Nat × Nat)} {s : Nat × Nat} {N : Nat} (h : Stk W wr F F' (.slice (some ⟨g, 0, none⟩) n c) (st ++ [s]) N) : Stk W wr F F' (.slice (some ⟨g, 0, none⟩) st.length c) st N := by
  have hs := h.sum
  rw [stL_snoc] at hs
  refine ⟨?_, h.hi, h.out, h.keep, h.new, fun t ht => h.lt t (List.mem_append.2 (.inl ht)), by omega⟩
  have ho := h.own
  obtain ⟨a', c', e, _, _⟩ := ho.shape
  injection e with _ e _
  subst e
  have := OwnM.cut ho (k := st.length) (by rw [List.length_append]; omega)
  rw [prs_append, List.take_left' (by rw [prs_len])] at this
  exact this
/-- two are laid behind -/
theorem Stk.push {W wr w' : World} {F F' : Nat → Prop} {v v' : Value} {st : List (Nat × Nat)} {N b m e : Nat} (h : Stk W wr F F' v st N) (h1 : OwnP w' v' (st ++ [(m, e), (b, m)])) (g : Grow wr w' v v') (hbm : b < m) (hme : m < e) (heN : e ≤ N) (hsum : stL st + (e - b) ≤ N) (hF : ∀ k, F' k → k < wr.heap.size) :
    Stk W w' F F' v' (st ++ [(m, e), (b, m)]) N ∧ Keep (fun k => v.ownBlock = some k) wr w' := by
  have h0 := h.keep.size
  refine ⟨⟨h1, fun k hk => ?_, fun k hk e' => ?_, ?_, h.new, ?_, ?_⟩, g.keep⟩
  · rcases g.alt with q | ⟨q, _⟩
    · exact h.hi k (by rw [← q]; exact hk)
    · have := q k hk; omega
  · rcases g.alt with q | ⟨q, _⟩
    · exact h.out k (by rw [← q]; exact hk) e'
    · have := q k hk; have := hF k e'; omega
  · exact h.keep.trans g.keep fun k hk e' => by have := h.hi k e'; omega
  · intro s hs
    rcases List.mem_append.1 hs with q | q
    · exact h.lt s q
    · rcases List.mem_cons.1 q with rfl | q
      · exact ⟨hme, heN⟩
      · obtain rfl : s = (b, m) := by simpa using q
        exact ⟨hbm, by show m ≤ N; omega⟩
  · rw [show st ++ [(m, e), (b, m)] = (st ++ [(m, e)]) ++ [(b, m)] by simp, stL_snoc, stL_snoc]
    show stL st + (e - m) + (m - b) ≤ N
    omega
/-- a word with which one looks at the last pair -/
theorem Stk.top {W wr : World} {F F' : Nat → Prop} {v : Value} {st : List (Nat × Nat)} {b e N : Nat} (h : Stk W wr F F' v (st ++ [(b, e)]) N) : ∃ g c, v = .slice (some ⟨g, 0, none⟩) (st.length + 1) c ∧ st.length + 1 ≤ c ∧ c ≤ 9223372036854775807 ∧ wr.cell? ⟨g, st.length * 2, none⟩ = some (.int .i64 (b : Int)) ∧ wr.cell? ⟨g, st.length * 2 + 1, none⟩ = some (.int .i64 (e : Int)) := by
  have hq : (st ++ [(b, e)])[st.length]? = some (b, e) := by simp
  obtain ⟨g, c, rfl, c0, _⟩ := h.own.cell (prs_get hq).1
  obtain ⟨g', c', e1, c1, _⟩ := h.own.cell (prs_get hq).2
  injection e1 with e1 _ e3
  injection e1 with e1
  injection e1 with e1
  subst e1 e3
  obtain ⟨_, _, e4, h1, h2⟩ := h.own.shape
  injection e4 with _ e5 e6
  rw [List.length_append] at h1
  subst e6
  exact ⟨g, c, by rw [List.length_append]; rfl, h1, h2, c0, c1⟩
end Go.Proofs.YtappjeepajjioaaDoor

namespace Go.Proofs.YtappjeepajjioaaDoor
open Go.RowKit Go.Shelf
attribute [local go_sem] Oper.semAt_some
end Go.Proofs.YtappjeepajjioaaDoor

namespace Go.Proofs.YtappjeepajjioaaDoor
open Go.RowKit Go.Shelf
attribute [local go_sem] Oper.semAt_some
theorem Cnts.below {f : Nat} {lb : Array Value} {N : Nat} {c : Nat → Nat → Nat} {C : Nat → Prop} {w w' : World} (h : Cnts f lb N c C w) (hC : ∀ k, C k → k < w.heap.size) (hb : Below w.heap.size w w') : Cnts f lb N c C w' :=
  ⟨h.1, fun b e W hbe he hk hs => h.2 b e W hbe he (fun k hk' => (hk k hk').trans (hb.block k (hC k hk'))) (Nat.le_trans hb.size hs)⟩
end Go.Proofs.YtappjeepajjioaaDoor

namespace Go.Proofs.YtappjeepajjioaaDoor
open Go.RowKit Go.Shelf
/-- each is above the one ahead of it -/
def Rsg (l : List Int) : Prop := ∀ j x y, l[j]? = some x → l[j + 1]? = some y → x < y
theorem rsg_pair : ∀ {l : List Int}, Rsg l → l.Pairwise (· < ·)
  | [], _ => List.Pairwise.nil
  | x :: l, h => by
    have ih : l.Pairwise (· < ·) := rsg_pair fun j a b ha hb => h (j + 1) a b (by simpa using ha) (by simpa using hb)
    refine List.Pairwise.cons (fun y hy => ?_) ih
    obtain ⟨k, hk⟩ := List.getElem?_of_mem hy
    have : ∀ (k : Nat) (y : Int), l[k]? = some y → x < y := fun k => by
      induction k with
      | zero => exact fun y hy => h 0 x y rfl (by simpa using hy)
      | succ k ihk =>
        intro y hy
        have hlt : k < l.length := by have := (List.getElem?_eq_some_iff.1 hy).1; omega
        have h1 := ihk l[k] (List.getElem?_eq_getElem hlt)
        have h2 := h (k + 1) l[k] y (by simp [hlt]) (by simpa using hy)
        omega
    exact this k y hk
theorem rsg_of_pair {l : List Int} (h : l.Pairwise (· < ·)) : Rsg l := fun j x y hx hy => by
  obtain ⟨h1, rfl⟩ := List.getElem?_eq_some_iff.1 hx
  obtain ⟨h2, rfl⟩ := List.getElem?_eq_some_iff.1 hy
  exact List.pairwise_iff_getElem.1 h j (j + 1) h1 h2 (by omega)
def rsgB (l : List Int) : Bool := decide (l.Pairwise (· < ·))
end Go.Proofs.YtappjeepajjioaaDoor

namespace Go.Proofs.YtappjeepajjioaaDoor
open Go.RowKit Go.Shelf
/-- H4 -/
def batchE (n : Int) (l : List Int) : Int :=
  if 1 ≤ n ∧ n ≤ 1099511627776 then (if l.length = 0 ∨ 256 < l.length then 83 else if rsgB l = true then (if 0 ≤ l.getD 0 0 ∧ l.getD 0 0 < n then (if 0 ≤ l.getD (l.length - 1) 0 ∧ l.getD (l.length - 1) 0 < n then 0 else 80) else 80) else 82) else 81
def batchL (n : Int) (l : List Int) : List (Nat × Nat) := if batchE n l = 0 then Tree.othF n.toNat 0 n.toNat (toN l) else []
theorem getD_at {l : List Int} {k : Nat} (h : k < l.length) : l.getD k 0 = l[k] := by simp [List.getD, h]
structure BatOk (n : Int) (l : List Int) : Prop where
  n1 : 1 ≤ n
  n2 : n ≤ 1099511627776
  l1 : 0 < l.length
  l2 : l.length ≤ 256
  so : l.Pairwise (· < ·)
  f0 : 0 ≤ l.getD 0 0
  fn : l.getD 0 0 < n
  e0 : 0 ≤ l.getD (l.length - 1) 0
  en : l.getD (l.length - 1) 0 < n
theorem batchE_ok {n : Int} {l : List Int} (h : BatOk n l) : batchE n l = 0 := by
  unfold batchE
  rw [if_pos ⟨h.n1, h.n2⟩, if_neg (by have := h.l1; have := h.l2; omega), if_pos (by unfold rsgB; exact decide_eq_true h.so), if_pos ⟨h.f0, h.fn⟩, if_pos ⟨h.e0, h.en⟩]
theorem BatOk.of {n : Int} {l : List Int} (h : batchE n l = 0) : BatOk n l := by
  unfold batchE at h
  split at h
  · rename_i h1
    split at h
    · cases h
    · rename_i h2
      split at h
      · rename_i h3
        split at h
        · rename_i h4
          split at h
          · rename_i h5
            exact ⟨h1.1, h1.2, by omega, by omega, of_decide_eq_true h3, h4.1, h4.2, h5.1, h5.2⟩
          · cases h
        · cases h
      · cases h
  · cases h
theorem BatOk.all {n : Int} {l : List Int} (h : BatOk n l) : ∀ i ∈ l, 0 ≤ i ∧ i < n := fun i hi => by
  obtain ⟨k, hk, rfl⟩ := List.mem_iff_getElem.1 hi
  have f0 := h.f0
  have en := h.en
  have l1 := h.l1
  rw [getD_at h.l1] at f0
  rw [getD_at (show l.length - 1 < l.length by omega)] at en
  have hp := List.pairwise_iff_getElem.1 h.so
  constructor
  · by_cases e : 0 = k
    · subst e; exact f0
    · have := hp 0 k h.l1 hk (by omega); omega
  · by_cases e : k = l.length - 1
    · subst e; exact en
    · have := hp k (l.length - 1) hk (by omega) (by omega); omega
theorem BatOk.ix {n : Int} {l : List Int} (h : BatOk n l) : ix (toN l) = l := by
  refine List.ext_getElem? fun k => ?_
  unfold Go.Proofs.YtappjeepajjioaaDoor.ix toN
  rw [List.getElem?_map, List.getElem?_map]
  cases hk : l[k]? with
  | none => rfl
  | some x =>
    have := h.all x (List.mem_of_getElem? hk)
    simp only [Option.map_some]
    rw [Int.toNat_of_nonneg this.1]
theorem BatOk.sorted {n : Int} {l : List Int} (h : BatOk n l) : (toN l).Pairwise (· < ·) := by
  unfold toN
  rw [List.pairwise_map]
  refine h.so.imp_of_mem fun {a b} ha hb hab => ?_
  have := h.all a ha
  have := h.all b hb
  omega
theorem BatOk.len {n : Int} {l : List Int} (_ : BatOk n l) : (toN l).length = l.length := by unfold toN; rw [List.length_map]
theorem BatOk.lt {n : Int} {l : List Int} (h : BatOk n l) : ∀ i ∈ toN l, i < n.toNat := fun i hi => by
  unfold toN at hi
  obtain ⟨x, hx, rfl⟩ := List.mem_map.1 hi
  have := h.all x hx
  omega
/-- a list, as a value -/
def OneV (v : Value) : Prop := ∃ a n c, v = .slice a n c
theorem SpP.bad {w w' : World} {c : Int} (hb : Below w.heap.size w w') : SpP w c [] (.returned (.tuple #[.slice none 0 0, .int .i64 c])) w' := ⟨hb, _, rfl, OwnM.nil 2 _, fun k hk => by cases hk⟩
end Go.Proofs.YtappjeepajjioaaDoor

namespace Go.Proofs.YtappjeepajjioaaDoor
open Go.RowKit Go.Shelf
/-- H4 -/
def runE (n x y : Int) : Int := if 1 ≤ n ∧ n ≤ 1099511627776 then (if 0 ≤ x ∧ x < y ∧ y ≤ n then 0 else 80) else 81
def runL (n x y : Int) : List (Nat × Nat) := if runE n x y = 0 then Tree.runF n.toNat 0 n.toNat x.toNat y.toNat else []
end Go.Proofs.YtappjeepajjioaaDoor

namespace Go.Proofs.YtappjeepajjioaaDoor
namespace Cut
open Tree
theorem push_len : ∀ (l : List (Nat × Nat)) (b n : Nat), (push l b n).length ≤ l.length + 1
  | [], _, _ => Nat.le_refl _
  | (p, m) :: l, b, n => by
    rw [push]
    split
    · have := push_len l p (2 * n)
      simp only [List.length_cons]; omega
    · simp
theorem pushAll_len : ∀ (l st : List (Nat × Nat)), (pushAll st l).length ≤ st.length + l.length
  | [], st => Nat.le_refl _
  | (b, n) :: l, st => by
    rw [pushAll]
    have := pushAll_len l (push st b n)
    have := push_len st b n
    simp only [List.length_cons]; omega
theorem cut_len_add {a b c : Nat} (h0 : c ≤ 1099511627776) (h1 : a ≤ b) (h2 : b ≤ c) : (cut a c).length ≤ (cut a b).length + (cut b c).length := by
  rw [← join_cut h0 h1 h2, List.length_reverse]
  have := pushAll_len (cut b c) (cut a b).reverse
  rwa [List.length_reverse] at this
theorem cut_len_end {a b k : Nat} (h0 : b + 2 ^ k ≤ 1099511627776) (h1 : a ≤ b) (hb : b % 2 ^ k = 0) (h2 : ¬ (b / 2 ^ k % 2 = 1 ∧ a + 2 ^ k ≤ b)) : (cut a (b + 2 ^ k)).length = (cut a b).length + 1 := by
  have hl : (List.replicate (cut a b).length ([] : T)).length = (cut a b).length := List.length_replicate
  have e1 := takeH_length (x := []) h0 h1 ⟨k, rfl⟩ hb hl
  have e2 := takeH_end (x := []) (by omega) h1 h2 hl
  rw [← e1, e2, List.length_append, hl]
  rfl
/-- from an aligned place on -/
theorem cut_len_right : ∀ (K a b : Nat), b ≤ 1099511627776 → a % 2 ^ K = 0 → a ≤ b → b < a + 2 ^ K → (cut a b).length ≤ K
  | 0, a, b, _, _, h2, h3 => by
    have : (2 : Nat) ^ 0 = 1 := rfl
    obtain rfl : a = b := by omega
    rw [cut_nil]; exact Nat.le_refl _
  | K + 1, a, b, h0, h1, h2, h3 => by
    have hK := two_pos K
    have hd := pow_double K
    have h1' := mod_of_le (Nat.le_succ K) h1
    by_cases h : b < a + 2 ^ K
    · have := cut_len_right K a b h0 h1' h2 h
      omega
    · have hg : grow 40 1 a b = 2 ^ K := grow_one h0 (by omega) h1' (by omega) (fun hh => by omega)
      rw [cut_cons h0 (by omega), hg, List.length_cons]
      have := cut_len_right K (a + 2 ^ K) b h0 (by rw [Nat.add_mod_right]; exact h1') (by omega) (by omega)
      omega
/-- up to an aligned place -/
theorem cut_len_left : ∀ (K a b : Nat), b ≤ 1099511627776 → b % 2 ^ K = 0 → a ≤ b → b < a + 2 ^ K → (cut a b).length ≤ K
  | 0, a, b, _, _, h2, h3 => by
    have : (2 : Nat) ^ 0 = 1 := rfl
    obtain rfl : a = b := by omega
    rw [cut_nil]; exact Nat.le_refl _
  | K + 1, a, b, h0, h1, h2, h3 => by
    have hK := two_pos K
    have hd := pow_double K
    have h1' := mod_of_le (Nat.le_succ K) h1
    by_cases h : b < a + 2 ^ K
    · have := cut_len_left K a b h0 h1' h2 h
      omega
    · obtain ⟨c, rfl⟩ : ∃ c, b = c + 2 ^ K := ⟨b - 2 ^ K, by omega⟩
      have hc : c % 2 ^ K = 0 := by rw [Nat.add_mod_right] at h1'; exact h1'
      rw [cut_len_end h0 (by omega) hc (fun hh => by omega)]
      have := cut_len_left K a c (by omega) hc (by omega) (by omega)
      omega
theorem cut_len_one {a k : Nat} (h0 : a + 2 ^ k ≤ 1099511627776) (h1 : a % 2 ^ k = 0) : (cut a (a + 2 ^ k)).length = 1 := by
  have hK := two_pos k
  rw [cut_len_end h0 (Nat.le_refl _) h1 (fun hh => by omega), cut_nil]
  rfl
theorem cut_len_in : ∀ (K c a b : Nat), b ≤ 1099511627776 → c % 2 ^ K = 0 → c ≤ a → a ≤ b → b ≤ c + 2 ^ K → (cut a b).length ≤ 2 * K + 1
  | 0, c, a, b, h0, _, h2, h3, h4 => by
    have := cov_len (cut_cov h0 h3)
    have : (2 : Nat) ^ 0 = 1 := rfl
    omega
  | K + 1, c, a, b, h0, h1, h2, h3, h4 => by
    have hK := two_pos K
    have hd := pow_double K
    have h1' := mod_of_le (Nat.le_succ K) h1
    have hm : (c + 2 ^ K) % 2 ^ K = 0 := by rw [Nat.add_mod_right]; exact h1'
    by_cases hb : b ≤ c + 2 ^ K
    · have := cut_len_in K c a b h0 h1' h2 h3 hb
      omega
    · by_cases ha : c + 2 ^ K ≤ a
      · have := cut_len_in K (c + 2 ^ K) a b h0 hm ha h3 (by omega)
        omega
      · have hadd := cut_len_add (a := a) (b := c + 2 ^ K) (c := b) h0 (by omega) (by omega)
        have h5 : (cut a (c + 2 ^ K)).length ≤ K + 1 := by
          by_cases e : a = c
          · subst e; rw [cut_len_one (by omega) h1']; omega
          · have := cut_len_left K a (c + 2 ^ K) (by omega) hm (by omega) (by omega); omega
        have h6 : (cut (c + 2 ^ K) b).length ≤ K + 1 := by
          by_cases e : b = c + 2 ^ K + 2 ^ K
          · subst e; rw [cut_len_one h0 hm]; omega
          · have := cut_len_right K (c + 2 ^ K) b h0 hm (by omega) (by omega); omega
        omega
/-- a span has few subtrees -/
theorem cut_len {a b : Nat} (h0 : b ≤ 1099511627776) (h : a ≤ b) : (cut a b).length ≤ 81 :=
  cut_len_in 40 0 a b h0 (Nat.zero_mod _) (Nat.zero_le _) h (Nat.le_trans h0 (by decide))
end Cut
end Go.Proofs.YtappjeepajjioaaDoor

namespace Go.Proofs.YtappjeepajjioaaDoor
open Go.RowKit Go.Shelf
/-- H1: the complete subtrees of a span: level, index -/
def covL (b e : Nat) : List (Nat × Nat) := (Cut.cut b e).map fun q => (q.2.log2, q.1 / q.2)
theorem covL_nil (b : Nat) : covL b b = [] := by unfold covL; rw [Cut.cut_nil]; rfl
theorem covL_cons {b e : Nat} (h0 : e ≤ 1099511627776) (h : b < e) : covL b e = (Cut.lev b e, b / 2 ^ Cut.lev b e) :: covL (b + 2 ^ Cut.lev b e) e := by
  unfold covL
  rw [Cut.cut_cons h0 h, List.map_cons, Cut.lev_grow h0 h]
  simp only [Nat.log2_two_pow]
theorem covL_len {b e : Nat} (h0 : e ≤ 1099511627776) (h : b ≤ e) : (covL b e).length ≤ 81 := by unfold covL; rw [List.length_map]; exact Cut.cut_len h0 h
end Go.Proofs.YtappjeepajjioaaDoor

namespace Go.Proofs.YtappjeepajjioaaDoor
open Go.RowKit Go.Shelf
attribute [local go_sem] Oper.semAt_some
/-- a node as it is handed to a loop -/
abbrev enN (s : Nat × Nat) : Array Value := #[.agg #[.int .i64 (s.1 : Int), .int .i64 (s.2 : Int)]]
end Go.Proofs.YtappjeepajjioaaDoor

namespace Go.Proofs.YtappjeepajjioaaDoor
open Go.RowKit Go.Shelf
attribute [local go_sem] Oper.semAt_some
/-- H1 -/
def coverE (b e : Int) : Int := if 0 ≤ b ∧ b ≤ e ∧ e ≤ 1099511627776 then 0 else 80
def coverL (b e : Int) : List (Nat × Nat) := if coverE b e = 0 then covL b.toNat e.toNat else []
end Go.Proofs.YtappjeepajjioaaDoor

namespace Go.Proofs.YtappjeepajjioaaDoor
open Go.RowKit Go.Shelf
/-- are all of 32 bytes? -/
def hsB8 (l : List (List UInt8)) : Bool := l.all (·.length == 32)
set_option maxRecDepth 100000 in
set_option maxHeartbeats 2000000 in
theorem areHashes8_is (l : List (List UInt8)) (q : Bool) (hq : hsB8 l = q) (a : Option Addr) (cap : Nat) (w : World) (hc : l.length ≤ 9223372036854775807) (hA : At w a l) :
    Calls Tryd.prog 67 #[.slice a l.length cap] w fun r w' => r = .returned (.bool q) ∧ w' = w := by
  have HQ := hid hq
  generalize hn : l.length = k at *
  have HA := hid hA
  clear hA hq
  go_enter Tryd.func67, Tryd.ntmps67
  go_wp2
  go_loopw [7] (fun i w' => ∃ j : Nat, j ≤ k ∧ i = .int .i64 (j : Int) ∧ Hid ((l.take j).all (·.length == 32) = true) ∧ w' = w) (fun i _ => k - (intOf i).toNat)
  case atStart => exact ⟨0, by omega, rfl, rfl, rfl⟩
  case round =>
    obtain ⟨j, hj, rfl, hall, rfl⟩ := hrel
    by_cases hjk : j < k
    · have b0 : (j : Int) < (k : Int) := by omega
      obtain ⟨y, rfl⟩ := HA.out.pos (by omega)
      obtain ⟨s, hs, hcell⟩ := HA.out.cell j (by omega)
      by_cases h32 : s.size = 32
      · have i2 : (s.size : Int) = 32 := by omega
        have e2 := hid (all_take l j (by omega) hall.out (by rw [← hs.out, data_length]; exact h32))
        clear HA hall hs
        go_wp2
        exact ⟨⟨j + 1, by omega, by go_num, e2, trivial⟩, by simp [intOf]; omega⟩
      · have i2 : ((s.size : Int) != 32) = true := by simp; omega
        have i3 : ((s.size : Int) == 32) = false := by simp; omega
        have e2 := all_not l j (by omega) (by rw [← hs.out, data_length]; exact h32)
        have e3 := hid (show q = false by rw [← HQ.out]; exact e2)
        clear HA hall hs e2
        go_wp2
        go_ret
        exact ⟨by rw [e3.out]; rfl, rfl⟩
    · obtain rfl : j = k := by omega
      have b0 : ¬ (j : Int) < (j : Int) := by omega
      rw [← hn, List.take_length] at hall
      have e3 := hid (show q = true by rw [← HQ.out]; exact hall.out)
      clear HA hall
      go_wp2
      go_ret
      exact ⟨by rw [e3.out]; rfl, rfl⟩
/-- is a span that has a leaf within another one? -/
def hasI (b e x y : Int) : Bool := decide (b ≤ x ∧ x < y ∧ y ≤ e)
set_option maxRecDepth 100000 in
set_option maxHeartbeats 2000000 in
theorem has_is (b e x y : Int) (q : Bool) (hq : hasI b e x y = q) (w : World) : Calls Tryd.prog 87 #[sg b e, sg x y] w fun r w' => r = .returned (.bool q) ∧ Below w.heap.size w w' := by
  have S0 := SpI.new w b e
  have hb1 := (Below.refl _ (w.alloc (.cells #[.int .i64 b, .int .i64 e] 45))).alloc (Nat.le_refl _) (.cells #[.int .i64 x, .int .i64 y] 45)
  have S1 := S0.below hb1
  have S2 := SpI.new (w.alloc (.cells #[.int .i64 b, .int .i64 e] 45)) x y
  rw [size_alloc] at S2
  have hb := ((Below.refl _ w).alloc (Nat.le_refl _) (.cells #[.int .i64 b, .int .i64 e] 45)).alloc (by rw [size_alloc]; omega) (.cells #[.int .i64 x, .int .i64 y] 45)
  have c0 := S1.c0
  have c1 := S1.c1
  have d0 := S2.c0
  have d1 := S2.c1
  clear S0 S1 S2 hb1
  by_cases h1 : b ≤ x
  · by_cases h2 : x < y
    · by_cases h3 : y ≤ e
      · have er := hid (show q = true by rw [← hq]; simp [hasI, h1, h2, h3])
        clear hq
        go_enter Tryd.func87, Tryd.ntmps87
        go_wp2
        go_ret
        exact ⟨by rw [er.out]; rfl, hb⟩
      · have er := hid (show q = false by rw [← hq]; simp [hasI, h3])
        clear hq
        go_enter Tryd.func87, Tryd.ntmps87
        go_wp2
        go_ret
        exact ⟨by rw [er.out]; rfl, hb⟩
    · have er := hid (show q = false by rw [← hq]; simp [hasI, h2])
      clear hq
      go_enter Tryd.func87, Tryd.ntmps87
      go_wp2
      go_ret
      exact ⟨by rw [er.out]; rfl, hb⟩
  · have er := hid (show q = false by rw [← hq]; simp [hasI, h1])
    clear hq
    go_enter Tryd.func87, Tryd.ntmps87
    go_wp2
    go_ret
    exact ⟨by rw [er.out]; rfl, hb⟩
/-- known subtrees, with their hashes -/
abbrev Sub := (Int × Int) × ByteArray
def sbc (l : List Sub) : List Value := l.flatMap fun q => [.int .i64 q.1.1, .int .i64 q.1.2, .string q.2]
theorem sbc_len (l : List Sub) : (sbc l).length = l.length * 3 := by
  induction l with
  | nil => rfl
  | cons q l ih => rw [sbc, List.flatMap_cons, List.length_append, ← sbc, ih]; simp; omega
theorem sbc_append (l m : List Sub) : sbc (l ++ m) = sbc l ++ sbc m := List.flatMap_append
theorem sbc_get : ∀ {l : List Sub} {j : Nat} {q : Sub}, l[j]? = some q → (sbc l)[j * 3]? = some (.int .i64 q.1.1) ∧ (sbc l)[j * 3 + 1]? = some (.int .i64 q.1.2) ∧ (sbc l)[j * 3 + 2]? = some (.string q.2)
  | [], j, q, h => by simp at h
  | a :: l, 0, q, h => by
    obtain rfl : a = q := by simpa using h
    exact ⟨rfl, rfl, rfl⟩
  | a :: l, j + 1, q, h => by
    have := sbc_get (l := l) (j := j) (by simpa using h)
    rw [show (j + 1) * 3 = j * 3 + 3 from by omega]
    exact this
abbrev OwnS3 (w : World) (v : Value) (l : List Sub) : Prop := OwnM 3 w v l.length (sbc l)
theorem OwnS3.at {w : World} {v : Value} {l : List Sub} (h : OwnS3 w v l) {j : Nat} {q : Sub} (hq : l[j]? = some q) : ∃ g cap, v = .slice (some ⟨g, 0, none⟩) l.length cap ∧ w.cell? ⟨g, j * 3, none⟩ = some (.int .i64 q.1.1) ∧ w.cell? ⟨g, j * 3 + 1, none⟩ = some (.int .i64 q.1.2) ∧ w.cell? ⟨g, j * 3 + 2, none⟩ = some (.string q.2) := by
  rcases h with ⟨_, h1, _⟩ | ⟨g, cap, rfl, _, _, _, h4, _, _⟩
  · have := (List.getElem?_eq_some_iff.1 hq).1; omega
  · obtain ⟨a, b, c⟩ := sbc_get hq
    have a' := h4 _ _ a
    have b' := h4 _ _ b
    have c' := h4 _ _ c
    rw [Nat.zero_add] at a' b' c'
    exact ⟨g, cap, rfl, a', b', c'⟩
theorem infoSb : (Tryd.prog.info? 127).map (fun i => (i.zero, i.size, i.bytes)) = some (some (.agg #[.int .i64 0, .int .i64 0, .string ⟨#[]⟩]), 3, 32) := by kernel_rfl
theorem append_sub (w : World) (v : Value) (l : List Sub) (x y : Int) (s : ByteArray) (h : OwnS3 w v l) (hl : l.length ≤ 1099511627776) :
    ∃ v' w', (Builtin.append_ #[115, 115] 115 #[v, .slice (some ⟨w.heap.size, 0, none⟩) 1 1]).run Tryd.prog (w.alloc (.cells #[.int .i64 x, .int .i64 y, .string s] 127)) = .ok v' w' ∧ OwnS3 w' v' (l ++ [((x, y), s)]) ∧ Grow w w' v v' := by
  obtain ⟨v', w', h1, h2, h3⟩ := append_oneL 115 127 (.agg #[.int .i64 0, .int .i64 0, .string ⟨#[]⟩]) 32 Tryd.underlying115 infoSb rfl w v l.length (sbc l) [.int .i64 x, .int .i64 y, .string s] rfl (fun u hu => by
    simp only [List.mem_cons, List.not_mem_nil, or_false] at hu
    rcases hu with rfl | rfl | rfl <;> rfl) h (by omega) (by rw [maxLen]; omega)
  refine ⟨v', w', h1, ?_, h3⟩
  unfold OwnS3
  rw [sbc_append, List.length_append]; exact h2
end Go.Proofs.YtappjeepajjioaaDoor
