import Derived.Test.YtkiibcfjjplkaaaDoorCSP9
namespace Go.Proofs.YtkiibcfjjplkaaaDoor
open Go.RowKit Go.Shelf
attribute [local go_sem] Oper.semAt_some
/-- H3 -/
def proofE (m n : Int) : Int := if 1 ≤ m ∧ m ≤ n ∧ n ≤ 1099511627776 then 0 else 81
def proofL (m n : Int) : List (Nat × Nat) := if proofE m n = 0 then Tree.prfF n.toNat 0 n.toNat m.toNat else []
set_option maxRecDepth 100000 in
set_option maxHeartbeats 8000000 in
theorem proof8_bad (m n : Int) (w : World) (h : proofE m n ≠ 0) : Calls Tryd.prog 13 #[.int .i64 m, .int .i64 n] w (SpP w (proofE m n) (proofL m n)) := by
  refine (callsIn_wide (n := 9)).1 ?_
  have c0 := (Boxed.new w 3 (.int .i64 m)).cell
  have eL : Hid (proofL m n = []) := by unfold Hid proofL; rw [if_neg h]
  have eE : proofE m n = 81 := by unfold proofE at h ⊢; split at h; exact absurd rfl h; rw [if_neg ‹_›]
  rw [eL.out, eE]
  have hc : ¬ (1 ≤ m ∧ m ≤ n ∧ n ≤ 1099511627776) := fun hh => h (by unfold proofE; rw [if_pos hh])
  clear eL eE h
  refine callsIn_of_wp_marks Tryd.func13 rfl trivial ?_ rfl
  simp only [Tryd.ntmps13, List.size_toArray, List.length_cons, List.length_nil, Nat.reduceAdd, Nat.reduceSub, Array.replicate_succ, Array.replicate_zero, List.push_toArray, List.append_toArray, List.nil_append, List.cons_append]
  by_cases h1 : m < 1
  · gi_wp2
    refine ⟨_, results_tmp2 rfl _ _ _, (Below.refl _ w).alloc (Nat.le_refl _) _, _, rfl, OwnM.nil 2 _, fun k hk => by cases hk⟩
  · by_cases h2 : n < m
    · gi_wp2
      refine ⟨_, results_tmp2 rfl _ _ _, (Below.refl _ w).alloc (Nat.le_refl _) _, _, rfl, OwnM.nil 2 _, fun k hk => by cases hk⟩
    · have h3 : 1099511627776 < n := by omega
      gi_wp2
      refine ⟨_, results_tmp2 rfl _ _ _, (Below.refl _ w).alloc (Nat.le_refl _) _, _, rfl, OwnM.nil 2 _, fun k hk => by cases hk⟩
def Gt8 (m : Nat) (l : List (Nat × Nat)) : Prop := ∀ s ∈ l, m < s.2
theorem Gt8.snoc {m : Nat} {l : List (Nat × Nat)} {x y : Nat} (h : Gt8 m l) (hq : m < y) : Gt8 m (l ++ [(x, y)]) := fun s hs => by
  rcases List.mem_append.1 hs with h' | h'
  · exact h s h'
  · obtain rfl : s = (x, y) := by simpa using h'
    exact hq
def Exi (c : Code) : Prop := c = .exit 0
set_option maxRecDepth 100000 in
set_option maxHeartbeats 8000000 in
theorem proof8_ok (m n i : Nat) (w : World) (hm : Hid (m = i + 1)) (h2 : m ≤ n) (h3 : n ≤ 1099511627776) : Calls Tryd.prog 13 #[.int .i64 (m : Int), .int .i64 (n : Int)] w (SpP w 0 (Tree.prfF n 0 n m)) := by
  refine (callsIn_wide (n := 9)).1 ?_
  have c0 := (Boxed.new w 3 (.int .i64 (m : Int))).cell
  have c0' := ((Boxed.new w 3 (.int .i64 (m : Int))).alloc (.cells #[.slice none 0 0] 32)).cell
  have q1 : ¬ (m : Int) < 1 := by have := hm.out; omega
  have q2 : ¬ (n : Int) < (m : Int) := by omega
  have q3 : ¬ (1099511627776 : Int) < (n : Int) := by omega
  have q4 : wrap64 ((m : Int) - 1) = (i : Int) := by have := hm.out; unfold wrap64; omega
  have q5 : IntKind.i64.wrap ((m : Int) - 1) = (i : Int) := by have := hm.out; rw [IntKind.wrap_i64]; omega
  have q6 : decide ((m : Int) < 1) = false := by have := hm.out; rw [decide_eq_false]; omega
  have q7 : decide (n < m) = false := by rw [decide_eq_false]; omega
  refine callsIn_of_wp_marks Tryd.func13 rfl trivial ?_ rfl
  simp only [Tryd.ntmps13, List.size_toArray, List.length_cons, List.length_nil, Nat.reduceAdd, Nat.reduceSub, Array.replicate_succ, Array.replicate_zero, List.push_toArray, List.append_toArray, List.nil_append, List.cons_append]
  gi_wp2
  refine ⟨trivial, (callsIn_wide.2 (way_any _ _ _)).mono ?_⟩
  rintro r w1 ⟨rfl, h1⟩
  have h1 := h1.symm
  subst h1
  gi_wp2
  clear c0 c0'
  have hmi : i < m := by have := hm.out; omega
  obtain ⟨W4, hW4⟩ : ∃ W4, Hid (((((w.alloc (.cells #[.int .i64 (m : Int)] 3)).alloc (.cells #[.slice none 0 0] 32)).alloc (.cells #[.int .i64 (n : Int)] 3)).alloc (.cells #[.int .i64 (i : Int)] 3)) = W4) := ⟨_, rfl⟩
  rw [hW4.out]
  have z4 : W4.heap.size = w.heap.size + 4 := by rw [← hW4.out]; simp
  have B4 : Below w.heap.size w W4 := by rw [← hW4.out]; exact ((((Below.refl _ w).alloc (Nat.le_refl _) _).alloc (by rw [size_alloc]; omega) _).alloc (by rw [size_alloc, size_alloc]; omega) _).alloc (by rw [size_alloc, size_alloc, size_alloc]; omega) _
  have R0 : Boxed W4 w.heap.size 3 (.int .i64 (m : Int)) := by rw [← hW4.out]; exact (((Boxed.new w 3 (.int .i64 (m : Int))).alloc _).alloc _).alloc _
  have R1 : Boxed W4 (w.heap.size + 1) 32 (.slice none 0 0) := by
    rw [← hW4.out]
    have := Boxed.new (w.alloc (.cells #[.int .i64 (m : Int)] 3)) 32 (.slice none 0 0)
    rw [size_alloc] at this
    exact (this.alloc _).alloc _
  have R2 : Boxed W4 (w.heap.size + 1 + 1) 3 (.int .i64 (n : Int)) := by
    rw [← hW4.out]
    have := Boxed.new ((w.alloc (.cells #[.int .i64 (m : Int)] 3)).alloc (.cells #[.slice none 0 0] 32)) 3 (.int .i64 (n : Int))
    rw [size_alloc, size_alloc] at this
    exact this.alloc _
  have R3 : Boxed W4 (w.heap.size + 1 + 1 + 1) 3 (.int .i64 (i : Int)) := by
    rw [← hW4.out]
    have := Boxed.new (((w.alloc (.cells #[.int .i64 (m : Int)] 3)).alloc (.cells #[.slice none 0 0] 32)).alloc (.cells #[.int .i64 (n : Int)] 3)) 3 (.int .i64 (i : Int))
    rw [size_alloc, size_alloc, size_alloc] at this
    exact this
  clear hW4
  have hway := Tree.wayF_has n 0 n i (Nat.le_refl _) (by omega) (by omega)
  have hwl := Tree.wayF_len n 0 n i (Nat.le_refl _) (by omega)
  have P0 : PthI w.heap.size (w.heap.size + 1) (m : Int) (fun k => k = w.heap.size ∨ Col.F (w.heap.size + 1) (.slice none 0 0) k) [] (.slice none 0 0) W4 := ⟨rfl, R0, ⟨R1, OwnM.nil 2 W4, fun h => by cases h⟩, fun h => by cases h⟩
  have hrc : Hid (Tree.rcol m (Tree.wayF n 0 n i) = (Tree.prfF n 0 n m).reverse) := by
    unfold Hid
    have := Tree.rcol_way m n 0 n (Nat.le_refl _) (by have := hm.out; omega) (by omega)
    rwa [show m - 1 = i by have := hm.out; omega] at this
  have hrl : (Tree.rcol m (Tree.wayF n 0 n i)).length ≤ 1099511627776 := by
    have h1 : ∀ l : List (Nat × Nat), (Tree.rcol m l).length ≤ l.length := fun l => by
      induction l with
      | nil => exact Nat.le_refl _
      | cons s l ih =>
        rw [Tree.rcol]
        split
        · rw [List.length_cons, List.length_cons]; omega
        · split
          · rw [List.length_cons]; simp
          · exact Nat.zero_le _
    have := h1 (Tree.wayF n 0 n i)
    omega
  refine range_foot (n := 9) (gf := 55) (lb := #[.pointer (some ⟨w.heap.size + 1 + 1, 0, none⟩), .pointer (some ⟨w.heap.size + 1 + 1 + 1, 0, none⟩)]) rfl (enters_of Tryd.func55 (by kernel_rfl) rfl)
    (way_iter n i _ _ (by omega) (by omega) (by omega) W4 R2.cell R3.cell) (fun _ => rfl)
    (fun F pre W => (∃ v, PthI w.heap.size (w.heap.size + 1) (m : Int) F (pre.map (Tree.osd i)) v W) ∧ Gt8 m pre)
    (fun c F _ W => Exi c ∧ ∃ v, PthI w.heap.size (w.heap.size + 1) (m : Int) F (Tree.rcol m (Tree.wayF n 0 n i)) v W)
    ⟨fun F pre W W' S ⟨⟨v, h⟩, hg⟩ hk hs => ⟨⟨v, h.keep hk hs⟩, hg⟩, fun F pre W ⟨⟨v, h⟩, _⟩ => h.lt⟩ (fun c => ⟨fun F pre W W' S ⟨hc, v, h⟩ hk hs => ⟨hc, v, h.keep hk hs⟩, fun F pre W ⟨_, v, h⟩ => h.lt⟩)
    (fun k => k = w.heap.size ∨ Col.F (w.heap.size + 1) (.slice none 0 0) k) ⟨⟨_, P0⟩, fun _ h => by cases h⟩ ?dis ?cl
    (fun F pre x a W => ∃ v go F1, PthI w.heap.size (w.heap.size + 1) (m : Int) F1 (pre.map (Tree.osd i)) v W ∧ Gt8 m pre ∧ F = (fun k => F1 k ∨ k = go) ∧ ¬ F1 go ∧ SpI W go x.1 x.2 ∧ a = { tmps := #[.int .i64 (m : Int), .int .i64 (n : Int), .pointer (some ⟨w.heap.size, 0, none⟩), undef, .slice none 0 0, .int .i64 0, .pointer (some ⟨w.heap.size + 1, 0, none⟩), .pointer (some ⟨go, 0, none⟩), .int .i64 (m : Int), .bool false, .bool false, .int .i64 (m : Int), .int .i64 (n : Int), .bool false, .bool false, .bool false, .int .i64 (n : Int), .bool false, .bool false, .int .i64 (n : Int), .int .i64 (m : Int), .int .i64 (i : Int), .func (.func 55) #[] #[.pointer (some ⟨w.heap.size + 1 + 1, 0, none⟩), .pointer (some ⟨w.heap.size + 1 + 1 + 1, 0, none⟩)], sg x.1 x.2, undef, undef, undef, undef, undef, undef, undef, undef, undef, undef, undef, undef, undef, undef, undef, undef, undef, undef, undef, undef, undef], defers := [] })
    ?fA ?assign ?body ?done ?stop
  case dis =>
    rintro k (rfl | rfl | e) (h | h)
    · omega
    · omega
    · omega
    · omega
    · cases e
    · cases e
  case cl => rintro k (rfl | rfl) <;> omega
  case fA =>
    rintro x a
    refine ⟨?_, ?_⟩
    · rintro F pre W W' S ⟨v, go, F1, h1, hgt, rfl, h2, h3, h4⟩ hk hs
      exact ⟨v, go, F1, h1.keep hk fun k e => hs k (.inl e), hgt, rfl, h2, h3.keep hk (hs _ (.inr rfl)), h4⟩
    · rintro F pre W ⟨v, go, F1, h1, _, rfl, h2, h3, h4⟩ k (e | rfl)
      · exact h1.lt k e
      · exact lt_of_heap h3
  case assign =>
    rintro l F pre x rest W ⟨⟨v, h1⟩, hgt⟩ hx
    clear q1 q2 q3 q4 q5 q6 q7
    gi_wp2
    have hb := (Below.refl _ W).alloc (Nat.le_refl _) (.cells #[.int .i64 (x.1 : Int), .int .i64 (x.2 : Int)] 38)
    exact ⟨_, Mvs.alloc F W _, v, W.heap.size, F, h1.below hb, hgt, rfl, fun h => by have := h1.lt _ h; omega, SpI.new W x.1 x.2, rfl⟩
  case body =>
    rintro l F pre x rest a W ⟨v, go, F1, h1, hgt, rfl, h2, h3, rfl⟩ hx
    obtain ⟨x, y⟩ := x
    have hxy := hway (x, y) (by rw [hx]; exact List.mem_append.2 (.inr List.mem_cons_self))
    have hxi : x ≤ i := hxy.2.1
    have hiy : i < y := hxy.2.2.1
    have hyn : y ≤ n := by have := hxy.2.2.2; omega
    have hpl : (pre.map (Tree.osd i)).length ≤ 1099511627776 := by
      have := congrArg List.length hx
      rw [List.length_append] at this
      rw [List.length_map]
      omega
    have c0 := h3.c0
    have c1 := h3.c1
    have d0 := h1.bi.cell
    have hFe := h1.F
    have hgo : ¬ v.ownBlock = some go := fun e => h2 (by rw [hFe]; exact .inr (.inr e))
    have hgb : go ≠ w.heap.size + 1 := fun e => h2 (by rw [hFe]; exact .inr (.inl e))
    have hMv : Mvs (fun k => F1 k ∨ k = go) W W F1 := ⟨Keep.refl _ _, fun k hk => .inl (.inl hk)⟩
    clear hFe hxy q1 q2 q3 q4 q6 q7 hrl hway
    obtain ⟨va, vc, hv, _, _⟩ := h1.col.own.shape
    obtain ⟨vn, hvn⟩ : ∃ vn, (pre.map (Tree.osd i)).length = vn := ⟨_, rfl⟩
    rw [hvn] at hv
    subst hv
    clear hvn
    have hcl := hpl
    by_cases hy : m < y
    · have hy' : (m : Int) < (y : Int) := by omega
      gi_wp2
      clear hy'
      have P1 := h1
      have s1 := h3
      refine round_held (S := (fun w' => w'.cell? ⟨go, 0, none⟩ = some (.int .i64 (x : Int)) ∧ w'.cell? ⟨go, 1, none⟩ = some (.int .i64 (y : Int)) ∧ w'.cell? ⟨w.heap.size, 0, none⟩ = some (.int .i64 (m : Int)))) (by kernel_rfl) (noDefer (by kernel_rfl)) ⟨s1.c0, s1.c1, P1.bi.cell⟩ (fun hHeld => ?_)
      refine wpAnyH_take (i := 1) (v := sg x y) rfl (by kernel_rfl) (by kernel_rfl) (by kernel_rfl) (fun _ _ _ h => h) (Or.inl ⟨by rfl, ?_⟩) hHeld ?_
      · intro w' hw'
        obtain ⟨y0, y1, y2⟩ := hw'
        simp [go_sem, y0, y1]
      dsimp only [Act.put]
      refine wpAnyH_take (i := 2) (v := .int .i64 (m : Int)) rfl (by kernel_rfl) (by kernel_rfl) (by kernel_rfl) (fun _ _ _ h => h) (Or.inl ⟨by rfl, ?_⟩) hHeld ?_
      · intro w' hw'
        obtain ⟨y0, y1, y2⟩ := hw'
        simp [go_sem, y2]
      dsimp only [Act.put]
      refine wpAnyH_take (i := 3) (v := .int .i64 (i : Int)) rfl (by kernel_rfl) (by kernel_rfl) (by kernel_rfl) (fun _ _ _ h => h) (Or.inl ⟨by rfl, ?_⟩) hHeld ?_
      · intro w' hw'
        simp [go_sem, q5]
      dsimp only [Act.put]
      refine wpAnyH_ready (rs := [0, 4]) (by kernel_rfl) (by decide) (AllReadyH.cons rfl (fun K' hK => ?_) (AllReadyH.cons rfl (fun K' hK => ?_) AllReadyH.nil))
      · rw [if_pos (by rfl)]
        have b0 : W.drew.cell? ⟨w.heap.size + 1, 0, none⟩ = some (.slice va vn vc) := P1.col.box.cell
        go_wp2
        refine hK.out _ _ ⟨s1.c0, s1.c1, P1.bi.cell⟩ (fun hHeld => ?_)
        refine wpAnyH_ready (rs := [4]) (by kernel_rfl) (by decide) (AllReadyH.cons rfl (fun K' hK => ?_) AllReadyH.nil)
        rw [if_pos (by rfl)]
        go_wp2_with (go_at_call 38; fail)
        refine (beside_any x y i (by omega) (by omega) _).mono ?_
        rintro r W2 ⟨rfl, hb2⟩
        have hb2 := drewBelow8 hb2
        have P2 := P1.below hb2
        have s2 := s1.below hb2
        obtain ⟨v', w3, hap, O3, G3⟩ := append_pair W2 (.slice va vn vc) (pre.map (Tree.osd i)) (Tree.osd i (x, y)).1 (Tree.osd i (x, y)).2 P2.col.own hcl
        obtain ⟨bx3, P3, M3⟩ := P2.push (by omega) O3 G3
        refine hK.out _ _ ⟨s2.c0, s2.c1, P2.bi.cell⟩ (fun hHeld => ?_)
        refine wpAnyH_ready (rs := [5]) (by kernel_rfl) (by decide) (AllReadyH.cons rfl (fun K' hK => ?_) AllReadyH.nil)
        rw [if_pos (by rfl)]
        go_wp2
        have hbB := (Below.refl _ W2).alloc (Nat.le_refl _) (.cells #[.int .i64 ((Tree.osd i (x, y)).1 : Int), .int .i64 ((Tree.osd i (x, y)).2 : Int)] 38)
        refine hK.out _ _ ⟨(s2.below hbB).c0, (s2.below hbB).c1, (P2.below hbB).bi.cell⟩ (fun hHeld => ?_)
        refine wpAnyH_ready (rs := [6]) (by kernel_rfl) (by decide) (AllReadyH.cons rfl (fun K' hK => ?_) AllReadyH.nil)
        refine step_append_run rfl _ _ 32 rfl (.slice va vn vc) _ v' w3 rfl rfl hap ?_
        have kA := (Mvs.alloc (fun _ => False) W2 (.cells #[.int .i64 ((Tree.osd i (x, y)).1 : Int), .int .i64 ((Tree.osd i (x, y)).2 : Int)] 38)).keep
        have s3 : SpI w3 go x y := s2.keep G3.keep hgo
        have bi3 : Boxed w3 (w.heap.size) 3 (.int .i64 (m : Int)) := P2.bi.keepF G3.keep P2.ne
        refine hK.out _ _ ⟨s3.c0, s3.c1, bi3.cell⟩ (fun hHeld => ?_)
        refine wpAnyH_ready (rs := [7]) (by kernel_rfl) (by decide) (AllReadyH.cons rfl (fun K' hK => ?_) AllReadyH.nil)
        rw [if_pos (by rfl)]
        have c3 := bx3.cell
        have f3 := bx3.frozen
        obtain ⟨va', vn', vc', rfl⟩ := ownM_sl O3
        go_wp2
        have s4 := s3.far (w.heap.size + 1) 0 (.slice va' vn' vc') hgb
        refine hK.out _ _ ⟨s4.c0, s4.c1, P3.bi.cell⟩ (fun _ => wpAnyH_done (by kernel_rfl) ?_ _)
        have M5 : Mvs F1 W W2 F1 := ⟨Keep.ofBelow hb2, fun k hk => .inl hk⟩
        have M6 := (hMv.trans M5).trans M3
        simp only [OnlyN, Exit.then]
        gi_wp2
        refine ⟨_, M6, ⟨.slice va' vn' vc', ?_⟩, hgt.snoc hy⟩
        rw [List.map_append]
        exact P3
      · rw [if_pos (by rfl)]
        go_wp2_with (go_at_call 38; fail)
        refine (beside_any x y i (by omega) (by omega) _).mono ?_
        rintro r W2 ⟨rfl, hb2⟩
        have hb2 := drewBelow8 hb2
        have P2 := P1.below hb2
        have s2 := s1.below hb2
        obtain ⟨v', w3, hap, O3, G3⟩ := append_pair W2 (.slice va vn vc) (pre.map (Tree.osd i)) (Tree.osd i (x, y)).1 (Tree.osd i (x, y)).2 P2.col.own hcl
        obtain ⟨bx3, P3, M3⟩ := P2.push (by omega) O3 G3
        refine hK.out _ _ ⟨s2.c0, s2.c1, P2.bi.cell⟩ (fun hHeld => ?_)
        refine wpAnyH_ready (rs := [0, 5]) (by kernel_rfl) (by decide) (AllReadyH.cons rfl (fun K' hK => ?_) (AllReadyH.cons rfl (fun K' hK => ?_) AllReadyH.nil))
        · rw [if_pos (by rfl)]
          have b0 : W2.cell? ⟨w.heap.size + 1, 0, none⟩ = some (.slice va vn vc) := P2.col.box.cell
          go_wp2
          refine hK.out _ _ ⟨s2.c0, s2.c1, P2.bi.cell⟩ (fun hHeld => ?_)
          refine wpAnyH_ready (rs := [5]) (by kernel_rfl) (by decide) (AllReadyH.cons rfl (fun K' hK => ?_) AllReadyH.nil)
          rw [if_pos (by rfl)]
          go_wp2
          have hbB := (Below.refl _ W2).alloc (Nat.le_refl _) (.cells #[.int .i64 ((Tree.osd i (x, y)).1 : Int), .int .i64 ((Tree.osd i (x, y)).2 : Int)] 38)
          refine hK.out _ _ ⟨(s2.below hbB).c0, (s2.below hbB).c1, (P2.below hbB).bi.cell⟩ (fun hHeld => ?_)
          refine wpAnyH_ready (rs := [6]) (by kernel_rfl) (by decide) (AllReadyH.cons rfl (fun K' hK => ?_) AllReadyH.nil)
          refine step_append_run rfl _ _ 32 rfl (.slice va vn vc) _ v' w3 rfl rfl hap ?_
          have kA := (Mvs.alloc (fun _ => False) W2 (.cells #[.int .i64 ((Tree.osd i (x, y)).1 : Int), .int .i64 ((Tree.osd i (x, y)).2 : Int)] 38)).keep
          have s3 : SpI w3 go x y := s2.keep G3.keep hgo
          have bi3 : Boxed w3 (w.heap.size) 3 (.int .i64 (m : Int)) := P2.bi.keepF G3.keep P2.ne
          refine hK.out _ _ ⟨s3.c0, s3.c1, bi3.cell⟩ (fun hHeld => ?_)
          refine wpAnyH_ready (rs := [7]) (by kernel_rfl) (by decide) (AllReadyH.cons rfl (fun K' hK => ?_) AllReadyH.nil)
          rw [if_pos (by rfl)]
          have c3 := bx3.cell
          have f3 := bx3.frozen
          obtain ⟨va', vn', vc', rfl⟩ := ownM_sl O3
          go_wp2
          have s4 := s3.far (w.heap.size + 1) 0 (.slice va' vn' vc') hgb
          refine hK.out _ _ ⟨s4.c0, s4.c1, P3.bi.cell⟩ (fun _ => wpAnyH_done (by kernel_rfl) ?_ _)
          have M5 : Mvs F1 W W2 F1 := ⟨Keep.ofBelow hb2, fun k hk => .inl hk⟩
          have M6 := (hMv.trans M5).trans M3
          simp only [OnlyN, Exit.then]
          gi_wp2
          refine ⟨_, M6, ⟨.slice va' vn' vc', ?_⟩, hgt.snoc hy⟩
          rw [List.map_append]
          exact P3
        · rw [if_pos (by rfl)]
          go_wp2
          have hbB := (Below.refl _ W2).alloc (Nat.le_refl _) (.cells #[.int .i64 ((Tree.osd i (x, y)).1 : Int), .int .i64 ((Tree.osd i (x, y)).2 : Int)] 38)
          refine hK.out _ _ ⟨(s2.below hbB).c0, (s2.below hbB).c1, (P2.below hbB).bi.cell⟩ (fun hHeld => ?_)
          refine wpAnyH_ready (rs := [0]) (by kernel_rfl) (by decide) (AllReadyH.cons rfl (fun K' hK => ?_) AllReadyH.nil)
          have PB := P2.below hbB
          rw [if_pos (by rfl)]
          have b0 : (W2.alloc (.cells #[.int .i64 ((Tree.osd i (x, y)).1 : Int), .int .i64 ((Tree.osd i (x, y)).2 : Int)] 38)).cell? ⟨w.heap.size + 1, 0, none⟩ = some (.slice va vn vc) := PB.col.box.cell
          go_wp2
          refine hK.out _ _ ⟨(s2.below hbB).c0, (s2.below hbB).c1, (P2.below hbB).bi.cell⟩ (fun hHeld => ?_)
          refine wpAnyH_ready (rs := [6]) (by kernel_rfl) (by decide) (AllReadyH.cons rfl (fun K' hK => ?_) AllReadyH.nil)
          refine step_append_run rfl _ _ 32 rfl (.slice va vn vc) _ v' w3 rfl rfl hap ?_
          have kA := (Mvs.alloc (fun _ => False) W2 (.cells #[.int .i64 ((Tree.osd i (x, y)).1 : Int), .int .i64 ((Tree.osd i (x, y)).2 : Int)] 38)).keep
          have s3 : SpI w3 go x y := s2.keep G3.keep hgo
          have bi3 : Boxed w3 (w.heap.size) 3 (.int .i64 (m : Int)) := P2.bi.keepF G3.keep P2.ne
          refine hK.out _ _ ⟨s3.c0, s3.c1, bi3.cell⟩ (fun hHeld => ?_)
          refine wpAnyH_ready (rs := [7]) (by kernel_rfl) (by decide) (AllReadyH.cons rfl (fun K' hK => ?_) AllReadyH.nil)
          rw [if_pos (by rfl)]
          have c3 := bx3.cell
          have f3 := bx3.frozen
          obtain ⟨va', vn', vc', rfl⟩ := ownM_sl O3
          go_wp2
          have s4 := s3.far (w.heap.size + 1) 0 (.slice va' vn' vc') hgb
          refine hK.out _ _ ⟨s4.c0, s4.c1, P3.bi.cell⟩ (fun _ => wpAnyH_done (by kernel_rfl) ?_ _)
          have M5 : Mvs F1 W W2 F1 := ⟨Keep.ofBelow hb2, fun k hk => .inl hk⟩
          have M6 := (hMv.trans M5).trans M3
          simp only [OnlyN, Exit.then]
          gi_wp2
          refine ⟨_, M6, ⟨.slice va' vn' vc', ?_⟩, hgt.snoc hy⟩
          rw [List.map_append]
          exact P3
    · have hy' : ¬ (m : Int) < (y : Int) := by omega
      have hro : Hid (Tree.rcol m (Tree.wayF n 0 n i) = pre.map (Tree.osd i) ++ (if 0 < x then [(x, y)] else [])) := by
        have := Tree.rcol_split (m := m) (pre := pre) (x := (x, y)) (rest := rest) hgt hy
        rw [show m - 1 = i by have := hm.out; omega] at this
        unfold Hid
        rw [hx]
        exact this
      clear hx
      by_cases hx0 : 0 < x
      · have hx0' : (0 : Int) < (x : Int) := by omega
        have b0 := h1.col.box.cell
        obtain ⟨v', w3, hap, O3, G3⟩ := append_pair W (.slice va vn vc) (pre.map (Tree.osd i)) x y h1.col.own hcl
        obtain ⟨bx3, P3, M3⟩ := h1.push (by omega) O3 G3
        have c3 := bx3.cell
        have f3 := bx3.frozen
        obtain ⟨va', vn', vc', rfl⟩ := ownM_sl O3
        gi_wp2_with (gi_at_builtin; refine wpListIn_append_run rfl _ _ 32 rfl (.slice va vn vc) _ _ w3 rfl rfl hap ?_)
        refine ⟨_, hMv.trans M3, rfl, .slice va' vn' vc', ?_⟩
        rw [hro.out, if_pos hx0]
        exact P3
      · have hx0' : ¬ (0 : Int) < (x : Int) := by omega
        gi_wp2
        refine ⟨_, hMv, rfl, .slice va vn vc, ?_⟩
        rw [hro.out, if_neg hx0, List.append_nil]
        exact h1
  case done =>
    rintro D F W ⟨⟨v, h1⟩, hgt⟩ ha
    obtain ⟨p, hp⟩ := Tree.wayF_last n 0 n i (Nat.le_refl _) (by omega) (by omega)
    have := hgt (i, i + 1) (by rw [hp]; exact List.mem_append.2 (.inr (by simp)))
    have : m < i + 1 := this
    omega
  case stop =>
    rintro D c F pre W hp ⟨rfl, v, h1⟩ ha
    have hFe := h1.F
    have hvD : v.ownBlock ≠ some D := fun e => ha.out (by rw [hFe]; exact .inr (.inr e))
    have hvB : ∀ k, v.ownBlock = some k → w.heap.size ≤ k := fun k e => by
      rcases ha.new k (by rw [hFe]; exact .inr (.inr e)) with (q | q | q) | q
      · omega
      · omega
      · cases q
      · omega
    have hL : Hid (Tree.rcol m (Tree.wayF n 0 n i) = (Tree.prfF n 0 n m).reverse) := hrc
    have O1 := hid h1.col.own
    have hlen : Hid ((Tree.rcol m (Tree.wayF n 0 n i)).length ≤ 1099511627776) := by
      unfold Hid; exact hrl
    clear hrl
    have i5 := rev_any _ v W h1.col.own hlen.out
    rw [hL.out, List.reverse_reverse] at i5
    have bx := hid h1.col.box
    have hne := h1.col.ne
    obtain ⟨va, vn, vc, rfl⟩ := ownM_sl O1.out
    have c0 := bx.out.cell
    clear hFe h1
    gi_wp2
    refine ⟨trivial, (callsIn_wide.2 i5).mono ?_⟩
    rintro r W5 ⟨rfl, O5, K5⟩
    have b5 := (bx.out.keepF K5 hne)
    have c5 := b5.cell
    clear i5 c0
    gi_wp2
    have hm5 : W5.heap[D]? = some (.deferred (some [])) := (K5.block D (Array.getElem?_eq_some_iff.1 ha.mark).1 hvD).trans ha.mark
    refine ⟨by simp, .inl ⟨_, _, rfl, run_takeDeferred hm5, ?_⟩⟩
    refine ⟨_, results_tmp2 rfl _ _ _, ?_, _, rfl, O5.keep (Keep.ofPut (S := fun k => k = D) _ D (.deferred none) rfl) (fun k hk e => hvD (e ▸ hk)), hvB⟩
    have k1 : Keep (fun k => w.heap.size ≤ k) W4 W := ha.keep.mono fun k _ h => by
      rcases h with (h | h | h) | h
      · omega
      · omega
      · cases h
      · exact h.elim
    have k2 := (k1.trans (K5.mono (T := fun k => w.heap.size ≤ k) fun k _ h => hvB k h) fun _ _ h => h).trans (Keep.ofPut (S := fun k => w.heap.size ≤ k) W5 D (.deferred none) (by have := ha.hi; omega)) fun _ _ h => h
    exact B4.trans (k2.belowOf (by omega) fun _ h => h)
theorem proof8_any (m n : Int) (w : World) : Calls Tryd.prog 13 #[.int .i64 m, .int .i64 n] w (SpP w (proofE m n) (proofL m n)) := by
  by_cases h : proofE m n = 0
  · have hc : 1 ≤ m ∧ m ≤ n ∧ n ≤ 1099511627776 := by
      unfold proofE at h
      split at h
      · assumption
      · cases h
    unfold proofL
    rw [if_pos h, h]
    obtain ⟨m, rfl⟩ := Int.eq_ofNat_of_zero_le (show 0 ≤ m by omega)
    obtain ⟨n, rfl⟩ := Int.eq_ofNat_of_zero_le (show 0 ≤ n by omega)
    rw [Int.toNat_natCast, Int.toNat_natCast]
    exact proof8_ok m n (m - 1) w (show m = m - 1 + 1 by omega) (by omega) (by omega)
  · exact proof8_bad m n w h
end Go.Proofs.YtkiibcfjjplkaaaDoor
