import Derived.Test.YtmpaliocfikifaaGreatDoorCBM2
import Derived.Test.YtmpaliocfikifaaGreatDoorCO4
namespace Go.Proofs.YtmpaliocfikifaaGreatDoor
open Go.RowKit Go.Shelf
attribute [local go_sem] Oper.semAt_some
theorem ownM_sl {m : Nat} {w : World} {v : Value} {n : Nat} {cs : List Value} (h : OwnM m w v n cs) : ∃ a k c, v = .slice a k c := by
  obtain ⟨a, c, rfl, _⟩ := h.shape
  exact ⟨a, n, c, rfl⟩
/-- what a call that makes a list of spans answers: a list of its own, and an error -/
def SpP (w : World) (c : Int) (L : List (Nat × Nat)) (r : Ending) (w' : World) : Prop :=
  Below w.heap.size w w' ∧ ∃ v, r = .returned (.tuple #[v, .int .i64 c]) ∧ OwnP w' v L ∧ ∀ k, v.ownBlock = some k → w.heap.size ≤ k
/-- H2 -/
def pathE (n i : Int) : Int := if 1 ≤ n ∧ n ≤ 1099511627776 then (if 0 ≤ i ∧ i < n then 0 else 80) else 81
def pathL (n i : Int) : List (Nat × Nat) := if pathE n i = 0 then Tree.pthF n.toNat 0 n.toNat i.toNat else []
/-- the world ahead of Path's loop, and what is said between two rounds -/
structure PthI (gi gb : Nat) (i : Int) (F : Nat → Prop) (L : List (Nat × Nat)) (v : Value) (W : World) : Prop where
  F : F = fun k => k = gi ∨ Col.F gb v k
  bi : Boxed W gi 3 (.int .i64 i)
  col : Col W gb 55 v L
  ne : v.ownBlock ≠ some gi
theorem PthI.keep {gi gb : Nat} {i : Int} {F : Nat → Prop} {L : List (Nat × Nat)} {v : Value} {W W' : World} {S : Nat → Prop} (h : PthI gi gb i F L v W) (hk : Keep S W W') (hs : ∀ k, F k → ¬ S k) : PthI gi gb i F L v W' := by
  have hF := h.F
  subst hF
  exact ⟨rfl, h.bi.keepF hk (hs _ (.inl rfl)), h.col.keep hk fun k e => hs k (.inr e), h.ne⟩
theorem PthI.below {gi gb : Nat} {i : Int} {F : Nat → Prop} {L : List (Nat × Nat)} {v : Value} {W W' : World} (h : PthI gi gb i F L v W) (hk : Below W.heap.size W W') : PthI gi gb i F L v W' := h.keep (Keep.ofBelow (S := fun _ => False) hk) fun _ _ e => e
theorem PthI.lt {gi gb : Nat} {i : Int} {F : Nat → Prop} {L : List (Nat × Nat)} {v : Value} {W : World} (h : PthI gi gb i F L v W) : ∀ k, F k → k < W.heap.size := by
  have hF := h.F
  subst hF
  rintro k (rfl | e)
  · exact h.bi.lt
  · exact h.col.lt k e
/-- a span is laid behind -/
theorem PthI.push {gi gb : Nat} {i : Int} {F : Nat → Prop} {L L' : List (Nat × Nat)} {v v' : Value} {W w' : World} (h : PthI gi gb i F L v W) (hgb : gi ≠ gb) (h1 : OwnP w' v' L') (g : Grow W w' v v') :
    Boxed w' gb 55 v ∧ PthI gi gb i (fun k => k = gi ∨ Col.F gb v' k) L' v' (w'.setCell ⟨gb, 0, none⟩ v') ∧ Mvs F W (w'.setCell ⟨gb, 0, none⟩ v') (fun k => k = gi ∨ Col.F gb v' k) := by
  obtain ⟨b1, c1, m1⟩ := h.col.push h1 g
  have hne : v'.ownBlock ≠ some gi := fun e => by
    rcases m1.new gi (.inr e) with (q | q) | q
    · exact hgb q
    · exact h.ne q
    · have := h.bi.lt; omega
  have hF := h.F
  subst hF
  refine ⟨b1, ⟨rfl, ?_, c1, hne⟩, m1.keep.mono fun k _ e => .inr e, ?_⟩
  · refine h.bi.keepF m1.keep fun e => ?_
    rcases e with e | e
    · exact hgb e
    · exact h.ne e
  · rintro k (e | e)
    · exact .inl (.inl e)
    · rcases m1.new k e with q | q
      · exact .inl (.inr q)
      · exact .inr q
set_option maxRecDepth 100000 in
set_option maxHeartbeats 8000000 in
theorem path8_any (n i : Int) (w : World) : Calls Tryz.prog 71 #[.int .i64 n, .int .i64 i] w (SpP w (pathE n i) (pathL n i)) := by
  refine (callsIn_wide (n := 9)).1 ?_
  have c0 := (Boxed.new w 3 (.int .i64 i)).cell
  refine callsIn_of_wp_marks Tryz.func71 rfl trivial ?_ rfl
  simp only [Tryz.ntmps71, List.size_toArray, List.length_cons, List.length_nil, Nat.reduceAdd, Nat.reduceSub, Array.replicate_succ, Array.replicate_zero, List.push_toArray, List.append_toArray, List.nil_append, List.cons_append]
  by_cases hn : 1 ≤ n ∧ n ≤ 1099511627776
  · have i1 := fun w' => isSize_is n true (by simpa using hn) w'
    by_cases hb : 0 ≤ i ∧ i < n
    · have i2 := fun w' => isLeaf8_is n i true (by simpa using hb) w'
      have eE : pathE n i = 0 := by unfold pathE; rw [if_pos hn, if_pos hb]
      have eL : Hid (pathL n i = Tree.pthF n.toNat 0 n.toNat i.toNat) := by unfold Hid pathL; rw [if_pos eE]
      rw [eE, eL.out]
      clear eE eL
      obtain ⟨n, rfl⟩ := Int.eq_ofNat_of_zero_le (show 0 ≤ n by omega)
      obtain ⟨i, rfl⟩ := Int.eq_ofNat_of_zero_le hb.1
      rw [Int.toNat_natCast, Int.toNat_natCast]
      gi_wp2
      refine ⟨trivial, (callsIn_wide.2 (i1 _)).mono ?_⟩
      rintro r w1 ⟨rfl, h1⟩
      have h1 := h1.symm
      subst h1
      gi_wp2
      refine ⟨trivial, (callsIn_wide.2 (i2 _)).mono ?_⟩
      rintro r w1 ⟨rfl, h1⟩
      have h1 := h1.symm
      subst h1
      gi_wp2
      refine ⟨trivial, (callsIn_wide.2 (way_any _ _ _)).mono ?_⟩
      rintro r w1 ⟨rfl, h1⟩
      have h1 := h1.symm
      subst h1
      gi_wp2
      clear i1 i2 c0
      obtain ⟨W4, hW4⟩ : ∃ W4, Hid (((((w.alloc (.cells #[.int .i64 (i : Int)] 3)).alloc (.cells #[.slice none 0 0] 55)).alloc (.cells #[.int .i64 (n : Int)] 3)).alloc (.cells #[.int .i64 (i : Int)] 3)) = W4) := ⟨_, rfl⟩
      rw [hW4.out]
      have z4 : W4.heap.size = w.heap.size + 4 := by rw [← hW4.out]; simp
      have B4 : Below w.heap.size w W4 := by rw [← hW4.out]; exact ((((Below.refl _ w).alloc (Nat.le_refl _) _).alloc (by rw [size_alloc]; omega) _).alloc (by rw [size_alloc, size_alloc]; omega) _).alloc (by rw [size_alloc, size_alloc, size_alloc]; omega) _
      have R0 : Boxed W4 w.heap.size 3 (.int .i64 (i : Int)) := by rw [← hW4.out]; exact (((Boxed.new w 3 (.int .i64 (i : Int))).alloc _).alloc _).alloc _
      have R1 : Boxed W4 (w.heap.size + 1) 55 (.slice none 0 0) := by
        rw [← hW4.out]
        have := Boxed.new (w.alloc (.cells #[.int .i64 (i : Int)] 3)) 55 (.slice none 0 0)
        rw [size_alloc] at this
        exact (this.alloc _).alloc _
      have R2 : Boxed W4 (w.heap.size + 1 + 1) 3 (.int .i64 (n : Int)) := by
        rw [← hW4.out]
        have := Boxed.new ((w.alloc (.cells #[.int .i64 (i : Int)] 3)).alloc (.cells #[.slice none 0 0] 55)) 3 (.int .i64 (n : Int))
        rw [size_alloc, size_alloc] at this
        exact this.alloc _
      have R3 : Boxed W4 (w.heap.size + 1 + 1 + 1) 3 (.int .i64 (i : Int)) := by
        rw [← hW4.out]
        have := Boxed.new (((w.alloc (.cells #[.int .i64 (i : Int)] 3)).alloc (.cells #[.slice none 0 0] 55)).alloc (.cells #[.int .i64 (n : Int)] 3)) 3 (.int .i64 (i : Int))
        rw [size_alloc, size_alloc, size_alloc] at this
        exact this
      clear hW4
      have hway := Tree.wayF_has n 0 n i (Nat.le_refl _) (by omega) (by omega)
      have hwl := Tree.wayF_len n 0 n i (Nat.le_refl _) (by omega)
      have P0 : PthI w.heap.size (w.heap.size + 1) (i : Int) (fun k => k = w.heap.size ∨ Col.F (w.heap.size + 1) (.slice none 0 0) k) [] (.slice none 0 0) W4 := ⟨rfl, R0, ⟨R1, OwnM.nil 2 W4, fun h => by cases h⟩, fun h => by cases h⟩
      refine range_foot (n := 9) (gf := 108) (lb := #[.pointer (some ⟨w.heap.size + 1 + 1, 0, none⟩), .pointer (some ⟨w.heap.size + 1 + 1 + 1, 0, none⟩)]) rfl (enters_of Tryz.func108 (by kernel_rfl) rfl)
        (way_iter n i _ _ (by omega) (by omega) (by omega) W4 R2.cell R3.cell) (fun _ => rfl)
        (fun F pre W => ∃ v, PthI w.heap.size (w.heap.size + 1) (i : Int) F (Tree.pcol i pre) v W)
        (fun _ _ _ _ => False)
        ⟨fun F pre W W' S ⟨v, h⟩ hk hs => ⟨v, h.keep hk hs⟩, fun F pre W ⟨v, h⟩ => h.lt⟩ (fun c => ⟨fun _ _ _ _ _ h _ _ => h, fun _ _ _ h => h.elim⟩)
        (fun k => k = w.heap.size ∨ Col.F (w.heap.size + 1) (.slice none 0 0) k) ⟨_, P0⟩ ?dis ?cl
        (fun F pre x a W => ∃ v go F1, PthI w.heap.size (w.heap.size + 1) (i : Int) F1 (Tree.pcol i pre) v W ∧ F = (fun k => F1 k ∨ k = go) ∧ ¬ F1 go ∧ SpI W go x.1 x.2 ∧ a = { tmps := #[.int .i64 (n : Int), .int .i64 (i : Int), undef, .pointer (some ⟨w.heap.size, 0, none⟩), .slice none 0 0, .int .i64 0, .pointer (some ⟨w.heap.size + 1, 0, none⟩), .pointer (some ⟨go, 0, none⟩), .bool false, .int .i64 (n : Int), .bool true, .bool false, .bool false, .int .i64 (n : Int), .int .i64 (i : Int), .bool true, .bool false, .int .i64 (n : Int), .int .i64 (i : Int), .func (.func 108) #[] #[.pointer (some ⟨w.heap.size + 1 + 1, 0, none⟩), .pointer (some ⟨w.heap.size + 1 + 1 + 1, 0, none⟩)], sg x.1 x.2, undef, undef, undef, undef, undef, undef, undef, undef, undef, undef, undef, undef], defers := [] })
        ?fA ?assign ?body ?done ?stop
      case dis =>
        rintro k (rfl | rfl | e) (h | h)
        · omega
        · omega
        · omega
        · omega
        · cases e
        · cases e
      case cl => rintro k (rfl | rfl) <;> omega
      case fA =>
        rintro x a
        refine ⟨?_, ?_⟩
        · rintro F pre W W' S ⟨v, go, F1, h1, rfl, h2, h3, h4⟩ hk hs
          exact ⟨v, go, F1, h1.keep hk fun k e => hs k (.inl e), rfl, h2, h3.keep hk (hs _ (.inr rfl)), h4⟩
        · rintro F pre W ⟨v, go, F1, h1, rfl, h2, h3, h4⟩ k (e | rfl)
          · exact h1.lt k e
          · exact lt_of_heap h3
      case assign =>
        rintro l F pre x rest W ⟨v, h1⟩ hx
        gi_wp2
        have hb := (Below.refl _ W).alloc (Nat.le_refl _) (.cells #[.int .i64 (x.1 : Int), .int .i64 (x.2 : Int)] 72)
        exact ⟨_, Mvs.alloc F W _, v, W.heap.size, F, h1.below hb, rfl, fun h => by have := h1.lt _ h; omega, SpI.new W x.1 x.2, rfl⟩
      case body =>
        rintro l F pre x rest a W ⟨v, go, F1, h1, rfl, h2, h3, rfl⟩ hx
        obtain ⟨x, y⟩ := x
        have hxy := hway (x, y) (by rw [hx]; exact List.mem_append.2 (.inr List.mem_cons_self))
        have hpl : pre.length ≤ 1099511627776 := by
          have := congrArg List.length hx
          rw [List.length_append] at this
          omega
        have c0 := h3.c0
        have c1 := h3.c1
        have hen := hxy.2.2.2
        gi_wp2
        refine ⟨trivial, (CallsIn.inRound l (callsIn_wide.2 (slen_nat x y (by omega) (by omega) _))).mono ?_⟩
        rintro r W1 ⟨rfl, hb1⟩
        clear c0 c1
        have P1 := h1.below hb1
        have s1 := h3.below hb1
        have hFe := P1.F
        have hgo : ¬ v.ownBlock = some go := fun e => h2 (by rw [hFe]; exact .inr (.inr e))
        have hgb : go ≠ w.heap.size + 1 := fun e => h2 (by rw [hFe]; exact .inr (.inl e))
        have hcl : (Tree.pcol i pre).length ≤ 1099511627776 := Nat.le_trans (Tree.pcol_len i pre) hpl
        have hMv : Mvs (fun k => F1 k ∨ k = go) W W1 F1 := ⟨Keep.ofBelow hb1, fun k hk => .inl (.inl hk)⟩
        clear hFe
        by_cases hd : 1 < y - x
        · have hd' : (1 : Int) < ((y - x : Nat) : Int) := by omega
          obtain ⟨va, vc, hv, _, _⟩ := P1.col.own.shape
          obtain ⟨vn, hvn⟩ : ∃ vn, (Tree.pcol i pre).length = vn := ⟨_, rfl⟩
          rw [hvn] at hv
          subst hv
          clear hvn
          gi_wp2
          clear hd'
          refine round_held (S := (fun w' => w'.cell? ⟨go, 0, none⟩ = some (.int .i64 (x : Int)) ∧ w'.cell? ⟨go, 1, none⟩ = some (.int .i64 (y : Int)) ∧ w'.cell? ⟨w.heap.size, 0, none⟩ = some (.int .i64 (i : Int)))) (by kernel_rfl) (noDefer (by kernel_rfl)) ⟨s1.c0, s1.c1, P1.bi.cell⟩ (fun hHeld => ?_)
          refine wpAnyH_take (i := 1) (v := sg x y) rfl (by kernel_rfl) (by kernel_rfl) (by kernel_rfl) (fun _ _ _ h => h) (Or.inl ⟨by rfl, ?_⟩) hHeld ?_
          · intro w' hw'
            obtain ⟨y0, y1, y2⟩ := hw'
            simp [go_sem, y0, y1]
          dsimp only [Act.put]
          refine wpAnyH_take (i := 2) (v := .int .i64 (i : Int)) rfl (by kernel_rfl) (by kernel_rfl) (by kernel_rfl) (fun _ _ _ h => h) (Or.inl ⟨by rfl, ?_⟩) hHeld ?_
          · intro w' hw'
            obtain ⟨y0, y1, y2⟩ := hw'
            simp [go_sem, y2]
          dsimp only [Act.put]
          refine wpAnyH_ready (rs := [0, 3]) (by kernel_rfl) (by decide) (AllReadyH.cons rfl (fun K' hK => ?_) (AllReadyH.cons rfl (fun K' hK => ?_) AllReadyH.nil))
          · rw [if_pos (by rfl)]
            have b0 : W1.drew.cell? ⟨w.heap.size + 1, 0, none⟩ = some (.slice va vn vc) := P1.col.box.cell
            go_wp2
            refine hK.out _ _ ⟨s1.c0, s1.c1, P1.bi.cell⟩ (fun hHeld => ?_)
            refine wpAnyH_ready (rs := [3]) (by kernel_rfl) (by decide) (AllReadyH.cons rfl (fun K' hK => ?_) AllReadyH.nil)
            rw [if_pos (by rfl)]
            go_wp2_with (go_at_call 91; fail)
            refine (beside_any x y i (by omega) (by omega) _).mono ?_
            rintro r W2 ⟨rfl, hb2⟩
            have hb2 := drewBelow8 hb2
            have P2 := P1.below hb2
            have s2 := s1.below hb2
            obtain ⟨v', w3, hap, O3, G3⟩ := append_pair W2 (.slice va vn vc) (Tree.pcol i pre) (Tree.osd i (x, y)).1 (Tree.osd i (x, y)).2 P2.col.own hcl
            obtain ⟨bx3, P3, M3⟩ := P2.push (by omega) O3 G3
            refine hK.out _ _ ⟨s2.c0, s2.c1, P2.bi.cell⟩ (fun hHeld => ?_)
            refine wpAnyH_ready (rs := [4]) (by kernel_rfl) (by decide) (AllReadyH.cons rfl (fun K' hK => ?_) AllReadyH.nil)
            rw [if_pos (by rfl)]
            go_wp2
            have hbB := (Below.refl _ W2).alloc (Nat.le_refl _) (.cells #[.int .i64 ((Tree.osd i (x, y)).1 : Int), .int .i64 ((Tree.osd i (x, y)).2 : Int)] 72)
            refine hK.out _ _ ⟨(s2.below hbB).c0, (s2.below hbB).c1, (P2.below hbB).bi.cell⟩ (fun hHeld => ?_)
            refine wpAnyH_ready (rs := [5]) (by kernel_rfl) (by decide) (AllReadyH.cons rfl (fun K' hK => ?_) AllReadyH.nil)
            refine step_append_run rfl _ _ 55 rfl (.slice va vn vc) _ v' w3 rfl rfl hap ?_
            have kA := (Mvs.alloc (fun _ => False) W2 (.cells #[.int .i64 ((Tree.osd i (x, y)).1 : Int), .int .i64 ((Tree.osd i (x, y)).2 : Int)] 72)).keep
            have s3 : SpI w3 go x y := s2.keep G3.keep hgo
            have bi3 : Boxed w3 (w.heap.size) 3 (.int .i64 (i : Int)) := P2.bi.keepF G3.keep P2.ne
            refine hK.out _ _ ⟨s3.c0, s3.c1, bi3.cell⟩ (fun hHeld => ?_)
            refine wpAnyH_ready (rs := [6]) (by kernel_rfl) (by decide) (AllReadyH.cons rfl (fun K' hK => ?_) AllReadyH.nil)
            rw [if_pos (by rfl)]
            have c3 := bx3.cell
            have f3 := bx3.frozen
            obtain ⟨va', vn', vc', rfl⟩ := ownM_sl O3
            go_wp2
            have s4 := s3.far (w.heap.size + 1) 0 (.slice va' vn' vc') hgb
            refine hK.out _ _ ⟨s4.c0, s4.c1, P3.bi.cell⟩ (fun _ => wpAnyH_done (by kernel_rfl) ?_ _)
            have M5 : Mvs F1 W1 W2 F1 := ⟨Keep.ofBelow hb2, fun k hk => .inl hk⟩
            have M6 := (hMv.trans M5).trans M3
            refine ⟨_, M6, .slice va' vn' vc', ?_⟩
            rw [Tree.pcol_hit hd]
            exact P3
          · rw [if_pos (by rfl)]
            go_wp2_with (go_at_call 91; fail)
            refine (beside_any x y i (by omega) (by omega) _).mono ?_
            rintro r W2 ⟨rfl, hb2⟩
            have hb2 := drewBelow8 hb2
            have P2 := P1.below hb2
            have s2 := s1.below hb2
            obtain ⟨v', w3, hap, O3, G3⟩ := append_pair W2 (.slice va vn vc) (Tree.pcol i pre) (Tree.osd i (x, y)).1 (Tree.osd i (x, y)).2 P2.col.own hcl
            obtain ⟨bx3, P3, M3⟩ := P2.push (by omega) O3 G3
            refine hK.out _ _ ⟨s2.c0, s2.c1, P2.bi.cell⟩ (fun hHeld => ?_)
            refine wpAnyH_ready (rs := [0, 4]) (by kernel_rfl) (by decide) (AllReadyH.cons rfl (fun K' hK => ?_) (AllReadyH.cons rfl (fun K' hK => ?_) AllReadyH.nil))
            · rw [if_pos (by rfl)]
              have b0 : W2.cell? ⟨w.heap.size + 1, 0, none⟩ = some (.slice va vn vc) := P2.col.box.cell
              go_wp2
              refine hK.out _ _ ⟨s2.c0, s2.c1, P2.bi.cell⟩ (fun hHeld => ?_)
              refine wpAnyH_ready (rs := [4]) (by kernel_rfl) (by decide) (AllReadyH.cons rfl (fun K' hK => ?_) AllReadyH.nil)
              rw [if_pos (by rfl)]
              go_wp2
              have hbB := (Below.refl _ W2).alloc (Nat.le_refl _) (.cells #[.int .i64 ((Tree.osd i (x, y)).1 : Int), .int .i64 ((Tree.osd i (x, y)).2 : Int)] 72)
              refine hK.out _ _ ⟨(s2.below hbB).c0, (s2.below hbB).c1, (P2.below hbB).bi.cell⟩ (fun hHeld => ?_)
              refine wpAnyH_ready (rs := [5]) (by kernel_rfl) (by decide) (AllReadyH.cons rfl (fun K' hK => ?_) AllReadyH.nil)
              refine step_append_run rfl _ _ 55 rfl (.slice va vn vc) _ v' w3 rfl rfl hap ?_
              have kA := (Mvs.alloc (fun _ => False) W2 (.cells #[.int .i64 ((Tree.osd i (x, y)).1 : Int), .int .i64 ((Tree.osd i (x, y)).2 : Int)] 72)).keep
              have s3 : SpI w3 go x y := s2.keep G3.keep hgo
              have bi3 : Boxed w3 (w.heap.size) 3 (.int .i64 (i : Int)) := P2.bi.keepF G3.keep P2.ne
              refine hK.out _ _ ⟨s3.c0, s3.c1, bi3.cell⟩ (fun hHeld => ?_)
              refine wpAnyH_ready (rs := [6]) (by kernel_rfl) (by decide) (AllReadyH.cons rfl (fun K' hK => ?_) AllReadyH.nil)
              rw [if_pos (by rfl)]
              have c3 := bx3.cell
              have f3 := bx3.frozen
              obtain ⟨va', vn', vc', rfl⟩ := ownM_sl O3
              go_wp2
              have s4 := s3.far (w.heap.size + 1) 0 (.slice va' vn' vc') hgb
              refine hK.out _ _ ⟨s4.c0, s4.c1, P3.bi.cell⟩ (fun _ => wpAnyH_done (by kernel_rfl) ?_ _)
              have M5 : Mvs F1 W1 W2 F1 := ⟨Keep.ofBelow hb2, fun k hk => .inl hk⟩
              have M6 := (hMv.trans M5).trans M3
              refine ⟨_, M6, .slice va' vn' vc', ?_⟩
              rw [Tree.pcol_hit hd]
              exact P3
            · rw [if_pos (by rfl)]
              go_wp2
              have hbB := (Below.refl _ W2).alloc (Nat.le_refl _) (.cells #[.int .i64 ((Tree.osd i (x, y)).1 : Int), .int .i64 ((Tree.osd i (x, y)).2 : Int)] 72)
              refine hK.out _ _ ⟨(s2.below hbB).c0, (s2.below hbB).c1, (P2.below hbB).bi.cell⟩ (fun hHeld => ?_)
              refine wpAnyH_ready (rs := [0]) (by kernel_rfl) (by decide) (AllReadyH.cons rfl (fun K' hK => ?_) AllReadyH.nil)
              have PB := P2.below hbB
              rw [if_pos (by rfl)]
              have b0 : (W2.alloc (.cells #[.int .i64 ((Tree.osd i (x, y)).1 : Int), .int .i64 ((Tree.osd i (x, y)).2 : Int)] 72)).cell? ⟨w.heap.size + 1, 0, none⟩ = some (.slice va vn vc) := PB.col.box.cell
              go_wp2
              refine hK.out _ _ ⟨(s2.below hbB).c0, (s2.below hbB).c1, (P2.below hbB).bi.cell⟩ (fun hHeld => ?_)
              refine wpAnyH_ready (rs := [5]) (by kernel_rfl) (by decide) (AllReadyH.cons rfl (fun K' hK => ?_) AllReadyH.nil)
              refine step_append_run rfl _ _ 55 rfl (.slice va vn vc) _ v' w3 rfl rfl hap ?_
              have kA := (Mvs.alloc (fun _ => False) W2 (.cells #[.int .i64 ((Tree.osd i (x, y)).1 : Int), .int .i64 ((Tree.osd i (x, y)).2 : Int)] 72)).keep
              have s3 : SpI w3 go x y := s2.keep G3.keep hgo
              have bi3 : Boxed w3 (w.heap.size) 3 (.int .i64 (i : Int)) := P2.bi.keepF G3.keep P2.ne
              refine hK.out _ _ ⟨s3.c0, s3.c1, bi3.cell⟩ (fun hHeld => ?_)
              refine wpAnyH_ready (rs := [6]) (by kernel_rfl) (by decide) (AllReadyH.cons rfl (fun K' hK => ?_) AllReadyH.nil)
              rw [if_pos (by rfl)]
              have c3 := bx3.cell
              have f3 := bx3.frozen
              obtain ⟨va', vn', vc', rfl⟩ := ownM_sl O3
              go_wp2
              have s4 := s3.far (w.heap.size + 1) 0 (.slice va' vn' vc') hgb
              refine hK.out _ _ ⟨s4.c0, s4.c1, P3.bi.cell⟩ (fun _ => wpAnyH_done (by kernel_rfl) ?_ _)
              have M5 : Mvs F1 W1 W2 F1 := ⟨Keep.ofBelow hb2, fun k hk => .inl hk⟩
              have M6 := (hMv.trans M5).trans M3
              refine ⟨_, M6, .slice va' vn' vc', ?_⟩
              rw [Tree.pcol_hit hd]
              exact P3
        · have hd' : ¬ (1 : Int) < ((y - x : Nat) : Int) := by omega
          gi_wp2
          refine ⟨F1, hMv, v, ?_⟩
          rw [Tree.pcol_miss hd]
          exact P1
      case done =>
        rintro D F W ⟨v, h1⟩ ha
        have hFe := h1.F
        have hvD : v.ownBlock ≠ some D := fun e => ha.out (by rw [hFe]; exact .inr (.inr e))
        have hvB : ∀ k, v.ownBlock = some k → w.heap.size ≤ k := fun k e => by
          rcases ha.new k (by rw [hFe]; exact .inr (.inr e)) with (q | q | q) | q
          · omega
          · omega
          · cases q
          · omega
        have hL : Hid (Tree.pcol i (Tree.wayF n 0 n i) = (Tree.pthF n 0 n i).reverse) := Tree.pcol_way i n 0 n (Nat.le_refl _)
        have O1 := hid h1.col.own
        have hlen : Hid ((Tree.pcol i (Tree.wayF n 0 n i)).length ≤ 1099511627776) := by
          have := Tree.pcol_len i (Tree.wayF n 0 n i)
          unfold Hid; omega
        have i5 := rev_any _ v W h1.col.own hlen.out
        rw [hL.out, List.reverse_reverse] at i5
        have bx := hid h1.col.box
        have hne := h1.col.ne
        obtain ⟨va, vn, vc, rfl⟩ := ownM_sl O1.out
        have c0 := bx.out.cell
        clear hFe h1
        gi_wp2
        refine ⟨trivial, (callsIn_wide.2 i5).mono ?_⟩
        rintro r W5 ⟨rfl, O5, K5⟩
        have b5 := (bx.out.keepF K5 hne)
        have c5 := b5.cell
        clear i5 c0
        gi_wp2
        have hm5 : W5.heap[D]? = some (.deferred (some [])) := (K5.block D (Array.getElem?_eq_some_iff.1 ha.mark).1 hvD).trans ha.mark
        refine ⟨by simp, .inl ⟨_, _, rfl, run_takeDeferred hm5, ?_⟩⟩
        refine ⟨_, results_tmp2 rfl _ _ _, ?_, _, rfl, O5.keep (Keep.ofPut (S := fun k => k = D) _ D (.deferred none) rfl) (fun k hk e => hvD (e ▸ hk)), hvB⟩
        have k1 : Keep (fun k => w.heap.size ≤ k) W4 W := ha.keep.mono fun k _ h => by
          rcases h with (h | h | h) | h
          · omega
          · omega
          · cases h
          · exact h.elim
        have k2 := (k1.trans (K5.mono (T := fun k => w.heap.size ≤ k) fun k _ h => hvB k h) fun _ _ h => h).trans (Keep.ofPut (S := fun k => w.heap.size ≤ k) W5 D (.deferred none) (by have := ha.hi; omega)) fun _ _ h => h
        exact B4.trans (k2.belowOf (by omega) fun _ h => h)
      case stop =>
        rintro D c F pre W hp h ha
        exact h.elim
    · have i2 := fun w' => isLeaf8_is n i false (by simpa using hb) w'
      have eE : pathE n i = 80 := by unfold pathE; rw [if_pos hn, if_neg hb]
      have eL : Hid (pathL n i = []) := by unfold Hid pathL; rw [if_neg (by rw [eE]; omega)]
      rw [eE, eL.out]
      clear eE eL
      gi_wp2
      refine ⟨trivial, (callsIn_wide.2 (i1 _)).mono ?_⟩
      rintro r w1 ⟨rfl, h1⟩
      have h1 := h1.symm
      subst h1
      gi_wp2
      refine ⟨trivial, (callsIn_wide.2 (i2 _)).mono ?_⟩
      rintro r w1 ⟨rfl, h1⟩
      have h1 := h1.symm
      subst h1
      gi_wp2
      refine ⟨_, results_tmp2 rfl _ _ _, (Below.refl _ w).alloc (Nat.le_refl _) _, _, rfl, OwnM.nil 2 _, fun k hk => by cases hk⟩
  · have i1 := fun w' => isSize_is n false (by simpa using hn) w'
    have eE : pathE n i = 81 := by unfold pathE; rw [if_neg hn]
    have eL : Hid (pathL n i = []) := by unfold Hid pathL; rw [if_neg (by rw [eE]; omega)]
    rw [eE, eL.out]
    clear eE eL
    gi_wp2
    refine ⟨trivial, (callsIn_wide.2 (i1 _)).mono ?_⟩
    rintro r w1 ⟨rfl, h1⟩
    have h1 := h1.symm
    subst h1
    gi_wp2
    refine ⟨_, results_tmp2 rfl _ _ _, (Below.refl _ w).alloc (Nat.le_refl _) _, _, rfl, OwnM.nil 2 _, fun k hk => by cases hk⟩
end Go.Proofs.YtmpaliocfikifaaGreatDoor

namespace Go.Proofs.YtmpaliocfikifaaGreatDoor
open Go.RowKit Go.Shelf
attribute [local go_sem] Oper.semAt_some
/-- H3 -/
def proofE (m n : Int) : Int := if 1 ≤ m ∧ m ≤ n ∧ n ≤ 1099511627776 then 0 else 81
def proofL (m n : Int) : List (Nat × Nat) := if proofE m n = 0 then Tree.prfF n.toNat 0 n.toNat m.toNat else []
def Gt8 (m : Nat) (l : List (Nat × Nat)) : Prop := ∀ s ∈ l, m < s.2
theorem Gt8.snoc {m : Nat} {l : List (Nat × Nat)} {x y : Nat} (h : Gt8 m l) (hq : m < y) : Gt8 m (l ++ [(x, y)]) := fun s hs => by
  rcases List.mem_append.1 hs with h' | h'
  · exact h s h'
  · obtain rfl : s = (x, y) := by simpa using h'
    exact hq
def Exi (c : Code) : Prop := c = .exit 0
end Go.Proofs.YtmpaliocfikifaaGreatDoor

namespace Go.Proofs.YtmpaliocfikifaaGreatDoor
open Go.RowKit Go.Shelf
set_option maxRecDepth 100000 in
theorem nanC_any (x : Int) (w : World) : Calls Tryz.prog 121 #[.int .i64 x] w fun r w' => r = .returned (.bool false) ∧ w' = w := by
  go_enter Tryz.func121, Tryz.ntmps121
  go_wp2
  go_ret
  exact ⟨rfl, rfl⟩
set_option maxRecDepth 100000 in
theorem nanS_any (x : Int) (w : World) : Calls Tryz.prog 113 #[.int .i64 x] w fun r w' => r = .returned (.bool false) ∧ w' = w := by
  go_enter Tryz.func113, Tryz.ntmps113
  go_wp2
  go_ret
  exact ⟨rfl, rfl⟩
set_option maxRecDepth 100000 in
theorem less_is (x y : Int) (q : Bool) (hq : decide (x < y) = q) (w : World) : Calls Tryz.prog 112 #[.int .i64 x, .int .i64 y] w fun r w' => r = .returned (.bool q) ∧ w' = w := by
  go_enter Tryz.func112, Tryz.ntmps112
  go_wp2_with (go_at_call 121; refine (nanC_any _ _).mono ?_; rintro e w' ⟨rfl, rfl⟩)
  go_ret
  exact ⟨rfl, rfl⟩
def BsP (is : List Nat) (p : Nat) (w : World) (e : Ending) (w' : World) : Prop := (∃ q, e = .returned (.tuple #[.int .i64 (Tree.cnt p is : Nat), .bool q])) ∧ w' = w
set_option maxRecDepth 100000 in
set_option maxHeartbeats 2000000 in
theorem bsearch_any (is : List Nat) (p : Nat) (a : Option Addr) (cap : Nat) (w : World) (hn : is.length ≤ 1099511627776) (hs : is.Pairwise (· < ·)) (hA : AtI w a (ix is)) :
    Calls Tryz.prog 99 #[.slice a is.length cap, .int .i64 (p : Int)] w (BsP is p w) := by
  have HA := hid hA
  clear hA
  have hso : Hid (∀ j k x y : Nat, j ≤ k → is[j]? = some x → is[k]? = some y → x ≤ y) := fun j k x y hjk hx hy => by
    by_cases e : j = k
    · subst e; rw [hx] at hy; injection hy with hy; omega
    · obtain ⟨h1, rfl⟩ := List.getElem?_eq_some_iff.1 hx
      obtain ⟨h2, rfl⟩ := List.getElem?_eq_some_iff.1 hy
      exact Nat.le_of_lt (List.pairwise_iff_getElem.1 hs j k h1 h2 (by omega))
  clear hs
  generalize hl : is.length = n at *
  go_enter Tryz.func99, Tryz.ntmps99
  go_wp2
  go_loopw [7, 8] (fun vi vj w' => ∃ i j : Nat, vi = .int .i64 (i : Int) ∧ vj = .int .i64 (j : Int) ∧ i ≤ j ∧ j ≤ n ∧ Hid (∀ k x : Nat, k < i → is[k]? = some x → x < p) ∧ Hid (∀ k x : Nat, j ≤ k → is[k]? = some x → ¬ x < p) ∧ w' = w) (fun vi vj _ => (intOf vj).toNat - (intOf vi).toNat)
  case atStart => exact ⟨0, n, rfl, rfl, by omega, Nat.le_refl _, fun k x hk => by omega, fun k x hk hx => by have := (List.getElem?_eq_some_iff.1 hx).1; omega, rfl⟩
  case round =>
    obtain ⟨i, j, rfl, rfl, hij, hjn, hlo, hhi, rfl⟩ := hrel
    by_cases hlt : i < j
    · have b0 : (i : Int) < (j : Int) := by omega
      obtain ⟨h, hh⟩ : ∃ h : Nat, Hid ((i + j) / 2 = h) := ⟨_, rfl⟩
      have hh' := hh.out
      have u0 : IntKind.i64.wrap ((i : Int) + (j : Int)) = (i : Int) + (j : Int) := by rw [IntKind.wrap_i64]; omega
      have u1 : IntKind.u64.wrap ((i : Int) + (j : Int)) = (i : Int) + (j : Int) := by rw [IntKind.wrap_u64]; omega
      have u2 : ((i : Int) + (j : Int)) / 2 = (h : Int) := by omega
      have u3 : IntKind.i64.wrap (h : Int) = (h : Int) := by rw [IntKind.wrap_i64]; omega
      have hhn : h < n := by omega
      have b1 : (h : Int) < (n : Int) := by omega
      have b2 : (0 : Int) ≤ (h : Int) := by omega
      obtain ⟨x, rfl⟩ := HA.out.pos (by rw [ix_len]; omega)
      have hcell := HA.out.cell h (by rw [ix_len]; omega)
      have hi : is[h]? = some is[h] := List.getElem?_eq_getElem (by omega)
      have hv : (ix is)[h]'(by rw [ix_len]; omega) = ((is[h] : Nat) : Int) := by simp [ix]
      rw [hv] at hcell
      generalize is[h] = t at *
      by_cases htp : t < p
      · have i1 := fun w' => less_is (t : Int) (p : Int) true (by rw [decide_eq_true]; omega) w'
        have hlo' : Hid (∀ k x : Nat, k < h + 1 → is[k]? = some x → x < p) := fun k x hk hx => by
          have := hso.out k h x t (by omega) hx hi; omega
        clear HA hi hlo hh' hv
        go_wp2_with (go_at_call 112; refine (i1 _).mono ?_; rintro e w' ⟨rfl, rfl⟩)
        exact ⟨⟨h + 1, j, by go_num, rfl, by omega, hjn, hlo', hhi, trivial⟩, by simp [intOf]; omega⟩
      · have i1 := fun w' => less_is (t : Int) (p : Int) false (by rw [decide_eq_false]; omega) w'
        have hhi' : Hid (∀ k x : Nat, h ≤ k → is[k]? = some x → ¬ x < p) := fun k x hk hx => by
          have := hso.out h k t x (by omega) hi hx; omega
        clear HA hi hhi hh' hv
        go_wp2_with (go_at_call 112; refine (i1 _).mono ?_; rintro e w' ⟨rfl, rfl⟩)
        exact ⟨⟨i, h, rfl, rfl, by omega, by omega, hlo, hhi', trivial⟩, by simp [intOf]; omega⟩
    · obtain rfl : i = j := by omega
      have b0 : ¬ (i : Int) < (i : Int) := by omega
      have e := hid (Tree.cnt_of p is i (by omega) hlo.out (fun y hy => hhi.out i y (Nat.le_refl _) hy))
      by_cases hin : i < n
      · have b1 : (i : Int) < (n : Int) := by omega
        have b2 : (0 : Int) ≤ (i : Int) := by omega
        obtain ⟨x, rfl⟩ := HA.out.pos (by rw [ix_len]; omega)
        have hcell := HA.out.cell i (by rw [ix_len]; omega)
        have hv : (ix is)[i]'(by rw [ix_len]; omega) = ((is[i] : Nat) : Int) := by simp [ix]
        rw [hv] at hcell
        generalize is[i] = t at *
        clear hv
        by_cases ht : (t : Int) = (p : Int)
        · rw [ht] at hcell
          go_wp2_with (go_at_call 113; refine (nanS_any _ _).mono ?_; rintro e w' ⟨rfl, rfl⟩)
          go_ret2
          exact ⟨⟨_, by rw [e.out]; rfl⟩, rfl⟩
        · have ht' : ((t : Int) == (p : Int)) = false := by simpa using ht
          go_wp2_with (go_at_call 113; refine (nanS_any _ _).mono ?_; rintro e w' ⟨rfl, rfl⟩)
          go_ret2
          exact ⟨⟨_, by rw [e.out]; rfl⟩, rfl⟩
      · have b1 : ¬ (i : Int) < (n : Int) := by omega
        go_wp2_with (go_at_call 113; refine (nanS_any _ _).mono ?_; rintro e w' ⟨rfl, rfl⟩)
        go_ret2
        exact ⟨⟨_, by rw [e.out]; rfl⟩, rfl⟩
end Go.Proofs.YtmpaliocfikifaaGreatDoor

namespace Go.Proofs.YtmpaliocfikifaaGreatDoor
open Go.RowKit Go.Shelf
theorem cnt_filter (p : Nat) (is : List Nat) (hs : is.Pairwise (· < ·)) : Tree.cnt p is = (is.filter (· < p)).length := by
  rw [← Tree.cnt_take p is hs, List.length_take, Nat.min_eq_left (Tree.cnt_le p is)]
theorem wit_count (is : List Nat) {b e : Nat} (h : b ≤ e) : (is.filter (· < e)).length = (is.filter (· < b)).length + (Tree.wit is b e).length := by
  unfold Tree.wit
  induction is with
  | nil => rfl
  | cons i is ih =>
    by_cases h1 : i < b
    · rw [List.filter_cons_of_pos (by simpa using (show i < e by omega)), List.filter_cons_of_pos (by simpa using h1), List.filter_cons_of_neg (by simp; omega)]
      simp only [List.length_cons]; omega
    · by_cases h2 : i < e
      · rw [List.filter_cons_of_pos (by simpa using h2), List.filter_cons_of_neg (by simpa using h1), List.filter_cons_of_pos (by simp; omega)]
        simp only [List.length_cons]; omega
      · rw [List.filter_cons_of_neg (by simpa using h2), List.filter_cons_of_neg (by simpa using h1), List.filter_cons_of_neg (by simp; omega)]
        exact ih
theorem cnt_wit (is : List Nat) (hs : is.Pairwise (· < ·)) {b e : Nat} (h : b ≤ e) : Tree.cnt e is = Tree.cnt b is + (Tree.wit is b e).length := by
  rw [cnt_filter e is hs, cnt_filter b is hs, wit_count is h]
set_option maxRecDepth 100000 in
theorem listed_any (a : Option Addr) (n c : Nat) (w : World) : Calls Tryz.prog 80 #[.slice a n c] w fun r w' =>
    r = .returned (.func (.func 98) #[] #[.pointer (some ⟨w.heap.size, 0, none⟩)]) ∧ w' = w.alloc (.cells #[.slice a n c] 22) := by
  go_enter Tryz.func80, Tryz.ntmps80
  go_wp2
  go_ret
  exact ⟨rfl, rfl⟩
set_option maxRecDepth 100000 in
set_option maxHeartbeats 2000000 in
theorem listed1_any (is : List Nat) (b e cb : Nat) (a : Option Addr) (cap : Nat) (W : World) (hbe : b ≤ e) (hn : is.length ≤ 1099511627776) (hs : is.Pairwise (· < ·)) (hA : AtI W a (ix is)) (hc : W.cell? ⟨cb, 0, none⟩ = some (.slice a is.length cap)) :
    Calls Tryz.prog 98 #[sg b e, .pointer (some ⟨cb, 0, none⟩)] W fun r W' => r = .returned (.int .i64 ((Tree.wit is b e).length : Nat)) ∧ Below W.heap.size W W' := by
  have S0 := SpI.new W b e
  have hb := (Below.refl _ W).alloc (Nat.le_refl _) (.cells #[.int .i64 (b : Int), .int .i64 (e : Int)] 72)
  have hA1 : AtI (W.alloc (.cells #[.int .i64 (b : Int), .int .i64 (e : Int)] 72)) a (ix is) := hA.below hb (Nat.le_refl _)
  have hc1 : (W.alloc (.cells #[.int .i64 (b : Int), .int .i64 (e : Int)] 72)).cell? ⟨cb, 0, none⟩ = some (.slice a is.length cap) := (hb.cell (p := ⟨cb, 0, none⟩) (World.block_lt_of_cell? W ⟨cb, 0, none⟩ hc)).trans hc
  have i1 := bsearch_any is b a cap _ hn hs hA1
  have i2 := bsearch_any is e a cap _ hn hs hA1
  have c0 := S0.c0
  have c1 := S0.c1
  have hw := hid (cnt_wit is hs hbe)
  have hsub : IntKind.i64.wrap ((Tree.cnt e is : Nat) - (Tree.cnt b is : Nat) : Int) = ((Tree.wit is b e).length : Nat) := by
    have := hw.out
    have := Tree.cnt_le e is
    rw [IntKind.wrap_i64]; omega
  clear hA hA1 hs S0
  generalize is.length = n at *
  go_enter Tryz.func98, Tryz.ntmps98
  go_wp2_with (first
    | (go_at_call 99; (with_reducible refine i1.mono ?_); clear i1; rintro e w' ⟨⟨q, rfl⟩, rfl⟩)
    | (go_at_call 99; (with_reducible refine i2.mono ?_); clear i2; rintro e w' ⟨⟨q, rfl⟩, rfl⟩))
  go_ret
  exact ⟨by rw [← hsub]; rfl, hb⟩
/-- a function that counts the wanted leaves of a span, by c; it looks at what lies below B and at the block cb -/
def Cnts (f : Nat) (lb : Array Value) (N : Nat) (c : Nat → Nat → Nat) (C : Nat → Prop) (w : World) : Prop :=
  (∀ args w, (callFunc f args).run Tryz.prog w = .ok (.enter f args) w) ∧
  ∀ (b e : Nat) (W : World), b ≤ e → e ≤ N → (∀ k, C k → W.heap[k]? = w.heap[k]?) → w.heap.size ≤ W.heap.size →
    Calls Tryz.prog f (#[sg b e] ++ lb) W fun r W' => r = .returned (.int .i64 (c b e : Nat)) ∧ Below W.heap.size W W'
theorem AtI.keepB {w w' : World} {a : Option Addr} {l : List Int} {B : Nat} (h : AtI w a l) (hk : ∀ k, k < B → w'.heap[k]? = w.heap[k]?) (hB : w.heap.size ≤ B) (hs : w.heap.size ≤ w'.heap.size) : AtI w' a l := fun j p hp => by
  obtain ⟨x, hx, hlt, hc⟩ := h j p hp
  refine ⟨x, hx, by omega, ?_⟩
  rw [← hc]
  exact World.cell?_of_block (a := x.add j) (hk _ (by rw [addr_block]; omega))
theorem cnts_listed (is : List Nat) (a : Option Addr) (cap N : Nat) (w0 : World) (w : World) (cb : Nat) (hn : is.length ≤ 1099511627776) (hs : is.Pairwise (· < ·)) (hA : AtI w0 a (ix is)) (hb : Below w0.heap.size w0 w) (hc : Boxed w cb 22 (.slice a is.length cap)) :
    Cnts 98 #[.pointer (some ⟨cb, 0, none⟩)] N (fun b e => (Tree.wit is b e).length) (fun k => k < w0.heap.size ∨ k = cb) w := by
  refine ⟨enters_of Tryz.func98 (by kernel_rfl) rfl, fun b e W hbe _ hk hsz => ?_⟩
  refine listed1_any is b e cb a cap W hbe hn hs (hA.keepB (B := w0.heap.size) (fun k h => (hk k (.inl h)).trans (hb.block k h)) (Nat.le_refl _) (Nat.le_trans hb.size hsz)) ?_
  have : Boxed W cb 22 (.slice a is.length cap) := (hk cb (.inr rfl)).trans hc
  exact this.cell
end Go.Proofs.YtmpaliocfikifaaGreatDoor

namespace Go.Proofs.YtmpaliocfikifaaGreatDoor
open Go.RowKit Go.Shelf
attribute [local go_sem] Oper.semAt_some
set_option maxRecDepth 100000 in
theorem bare_any (n : Int) (f : Nat) (lb : Array Value) (w : World) : Calls Tryz.prog 97 #[.int .i64 n, .func (.func f) #[] lb] w fun r w' =>
    r = .returned (.func (.func 111) #[] #[.pointer (some ⟨w.heap.size, 0, none⟩), .pointer (some ⟨w.heap.size + 1, 0, none⟩)]) ∧ w' = (w.alloc (.cells #[.int .i64 n] 3)).alloc (.cells #[.func (.func f) #[] lb] 125) := by
  go_enter Tryz.func97, Tryz.ntmps97
  go_wp2
  go_ret
  exact ⟨rfl, rfl⟩
/-- append of two pairs that lie in a row of their own -/
theorem append_two (w : World) (v : Value) (l : List (Nat × Nat)) (x y x' y' : Nat) (h : OwnP w v l) (hl : l.length ≤ 1099511627776) :
    ∃ v' w', (Builtin.append_ #[55, 55] 55 #[v, .slice (some ⟨w.heap.size, 0, none⟩) 2 2]).run Tryz.prog (w.alloc (.cells #[.int .i64 (x : Int), .int .i64 (y : Int), .int .i64 (x' : Int), .int .i64 (y' : Int)] 72)) = .ok v' w' ∧ OwnP w' v' (l ++ [(x, y), (x', y')]) ∧ Grow w w' v v' := by
  obtain ⟨i0, hi, hz0, hz1, hz2⟩ := info_parts infoSp8
  have hsrc : Src Tryz.prog 2 55 (.slice (some ⟨w.heap.size, 0, none⟩) 2 2) 2 [.int .i64 (x : Int), .int .i64 (y : Int), .int .i64 (x' : Int), .int .i64 (y' : Int)] (w.alloc (.cells [.int .i64 (x : Int), .int .i64 (y : Int), .int .i64 (x' : Int), .int .i64 (y' : Int)].toArray 72)) :=
    Src.ofSlice _ Tryz.underlying55 ⟨w.heap.size, 0, none⟩ 2 2 _ rfl (fun j u hj => by
      rw [Addr.add_mid, cell_of_row _ _ _ _ _ _ (heap_alloc_new w _), Nat.zero_add]; simpa using hj) (fun u hu => by
      simp only [List.mem_cons, List.not_mem_nil, or_false] at hu
      rcases hu with rfl | rfl | rfl | rfl <;> rfl)
  obtain ⟨v', w', a1, a2, a3⟩ := run_append_M (P := Tryz.prog) (w.alloc (.cells [.int .i64 (x : Int), .int .i64 (y : Int), .int .i64 (x' : Int), .int .i64 (y' : Int)].toArray 72)) 55 55 55 72 i0 (.agg #[.int .i64 0, .int .i64 0]) Tryz.underlying55 hi hz0 hz1 rfl v l.length (prs l) (OwnM.alloc h _) _ 2 _ hsrc
    (by rw [hz2]; omega) (by rw [maxLen]; omega) (fun _ => by omega)
  have hs := a3.size
  rw [size_alloc] at hs
  refine ⟨v', w', a1, ?_, ⟨a3.os, a3.tape, a3.output, by omega, fun k hk hne => (a3.old k (by rw [size_alloc]; omega) hne).trans (Below.heap_alloc w _ k hk), ?_⟩⟩
  · unfold OwnP
    rw [prs_append, List.length_append]; exact a2
  rcases a3.alt with h4 | ⟨h4, h5⟩
  · exact .inl h4
  · refine .inr ⟨fun k hk => ?_, fun k hk => (h5 k (by rw [size_alloc]; omega)).trans (Below.heap_alloc w _ k hk)⟩
    have := h4 k hk
    rw [size_alloc] at this
    omega
/-- what is to be done: how much -/
def stW (l : List (Nat × Nat)) : Nat := (l.map fun s => 2 * (s.2 - s.1) - 1).sum
def stM (v : Value) (w : World) : Nat := match v with
  | .slice (some x) n _ => ((List.range n).map fun j => 2 * (memN w x.block (j * 2 + 1) - memN w x.block (j * 2)) - 1).sum
  | _ => 0
theorem stM_eq {w : World} {v : Value} {l : List (Nat × Nat)} (h : OwnP w v l) : stM v w = stW l := by
  rcases h with ⟨rfl, h1, h2⟩ | ⟨g, cap, rfl, h2, h3, h0, h4, h5, h6⟩
  · rw [List.length_eq_zero_iff.1 h1]; rfl
  · show List.sum _ = List.sum _
    refine congrArg List.sum (List.ext_getElem? fun j => ?_)
    by_cases hj : j < l.length
    · have hq : l[j]? = some l[j] := List.getElem?_eq_getElem hj
      have a0 := h4 _ _ (prs_get hq).1
      have a1 := h4 _ _ (prs_get hq).2
      rw [Nat.zero_add] at a0 a1
      have e0 : memN w g (j * 2) = (l[j]).1 := by unfold memN; rw [a0]; exact Int.toNat_natCast _
      have e1 : memN w g (j * 2 + 1) = (l[j]).2 := by unfold memN; rw [a1]; exact Int.toNat_natCast _
      rw [List.getElem?_map, List.getElem?_map, hq, List.getElem?_range hj]
      simp only [Option.map_some, e0, e1]
    · rw [List.getElem?_eq_none (by rw [List.length_map, List.length_range]; omega), List.getElem?_eq_none (by rw [List.length_map]; omega)]
theorem stW_snoc (l : List (Nat × Nat)) (s : Nat × Nat) : stW (l ++ [s]) = stW l + (2 * (s.2 - s.1) - 1) := by simp [stW, List.sum_append]
/-- the leaves of all of them -/
def stL (l : List (Nat × Nat)) : Nat := (l.map fun s => s.2 - s.1).sum
theorem stL_snoc (l : List (Nat × Nat)) (s : Nat × Nat) : stL (l ++ [s]) = stL l + (s.2 - s.1) := by simp [stL, List.sum_append]
theorem stL_len {l : List (Nat × Nat)} (h : ∀ s ∈ l, s.1 < s.2) : l.length ≤ stL l := by
  induction l with
  | nil => exact Nat.le_refl _
  | cons s l ih =>
    have h1 := h s List.mem_cons_self
    have h2 := ih fun t ht => h t (List.mem_cons_of_mem _ ht)
    have : stL (s :: l) = (s.2 - s.1) + stL l := by simp [stL]
    rw [List.length_cons, this]; omega
/-- what they will tell: the last is looked at first -/
def stO (n : Nat) (c : Nat → Nat → Nat) : List (Nat × Nat) → List (Nat × Nat)
  | [] => []
  | s :: l => stO n c l ++ Tree.barF n s.1 (s.2 - s.1) c
theorem stO_snoc (n : Nat) (c : Nat → Nat → Nat) : ∀ (l : List (Nat × Nat)) (s : Nat × Nat), stO n c (l ++ [s]) = Tree.barF n s.1 (s.2 - s.1) c ++ stO n c l
  | [], s => by simp [stO]
  | t :: l, s => by rw [List.cons_append, stO, stO_snoc n c l s, stO, List.append_assoc]
end Go.Proofs.YtmpaliocfikifaaGreatDoor

namespace Go.Proofs.YtmpaliocfikifaaGreatDoor
open Go.RowKit Go.Shelf
attribute [local go_sem] Oper.semAt_some
/-- what lies to be done, in memory; W: the world at the beginning, F the blocks of the rounds -/
structure Stk (W wr : World) (F F' : Nat → Prop) (v : Value) (st : List (Nat × Nat)) (N : Nat) : Prop where
  own : OwnP wr v st
  hi : ∀ k, v.ownBlock = some k → W.heap.size ≤ k
  out : ∀ k, v.ownBlock = some k → ¬ F' k
  keep : Keep F W wr
  new : ∀ k, F' k → F k ∨ W.heap.size ≤ k
  lt : ∀ s ∈ st, s.1 < s.2 ∧ s.2 ≤ N
  sum : stL st ≤ N
theorem Stk.below {W wr w' : World} {F F' : Nat → Prop} {v : Value} {st : List (Nat × Nat)} {N : Nat} (h : Stk W wr F F' v st N) (hb : Below wr.heap.size wr w') : Stk W w' F F' v st N :=
  ⟨h.own.below hb, h.hi, h.out, h.keep.trans (Keep.ofBelow (S := F) hb) fun _ _ e => e, h.new, h.lt, h.sum⟩
/-- behind a round -/
theorem Stk.round {W wr w' : World} {F F' F3 : Nat → Prop} {v : Value} {st : List (Nat × Nat)} {N : Nat} (h : Stk W wr F F' v st N) (hm : Mvs F' wr w' F3) : Stk W w' F F3 v st N := by
  have h0 := h.keep.size
  refine ⟨h.own.keep hm.keep h.out, h.hi, fun k hk e => ?_, ?_, fun k hk => ?_, h.lt, h.sum⟩
  · rcases hm.new k e with q | q
    · exact h.out k hk q
    · have := h.own.lt k hk; omega
  · refine h.keep.trans hm.keep fun k hk e => ?_
    rcases h.new k e with q | q
    · exact q
    · omega
  · rcases hm.new k hk with q | q
    · exact h.new k q
    · exact .inr (by omega)
/-- the last one is taken off -/
theorem Stk.pop {W wr : World} {F F' : Nat → Prop} {g n c : Nat} {st : List (Nat × Nat)} {s : Nat × Nat} {N : Nat} (h : Stk W wr F F' (.slice (some ⟨g, 0, none⟩) n c) (st ++ [s]) N) : Stk W wr F F' (.slice (some ⟨g, 0, none⟩) st.length c) st N := by
  have hs := h.sum
  rw [stL_snoc] at hs
  refine ⟨?_, h.hi, h.out, h.keep, h.new, fun t ht => h.lt t (List.mem_append.2 (.inl ht)), by omega⟩
  have ho := h.own
  obtain ⟨a', c', e, _, _⟩ := ho.shape
  injection e with _ e _
  subst e
  have := OwnM.cut ho (k := st.length) (by rw [List.length_append]; omega)
  rw [prs_append, List.take_left' (by rw [prs_len])] at this
  exact this
/-- two are laid behind -/
theorem Stk.push {W wr w' : World} {F F' : Nat → Prop} {v v' : Value} {st : List (Nat × Nat)} {N b m e : Nat} (h : Stk W wr F F' v st N) (h1 : OwnP w' v' (st ++ [(m, e), (b, m)])) (g : Grow wr w' v v') (hbm : b < m) (hme : m < e) (heN : e ≤ N) (hsum : stL st + (e - b) ≤ N) (hF : ∀ k, F' k → k < wr.heap.size) :
    Stk W w' F F' v' (st ++ [(m, e), (b, m)]) N ∧ Keep (fun k => v.ownBlock = some k) wr w' := by
  have h0 := h.keep.size
  refine ⟨⟨h1, fun k hk => ?_, fun k hk e' => ?_, ?_, h.new, ?_, ?_⟩, g.keep⟩
  · rcases g.alt with q | ⟨q, _⟩
    · exact h.hi k (by rw [← q]; exact hk)
    · have := q k hk; omega
  · rcases g.alt with q | ⟨q, _⟩
    · exact h.out k (by rw [← q]; exact hk) e'
    · have := q k hk; have := hF k e'; omega
  · exact h.keep.trans g.keep fun k hk e' => by have := h.hi k e'; omega
  · intro s hs
    rcases List.mem_append.1 hs with q | q
    · exact h.lt s q
    · rcases List.mem_cons.1 q with rfl | q
      · exact ⟨hme, heN⟩
      · obtain rfl : s = (b, m) := by simpa using q
        exact ⟨hbm, by show m ≤ N; omega⟩
  · rw [show st ++ [(m, e), (b, m)] = (st ++ [(m, e)]) ++ [(b, m)] by simp, stL_snoc, stL_snoc]
    show stL st + (e - m) + (m - b) ≤ N
    omega
/-- a word with which one looks at the last pair -/
theorem Stk.top {W wr : World} {F F' : Nat → Prop} {v : Value} {st : List (Nat × Nat)} {b e N : Nat} (h : Stk W wr F F' v (st ++ [(b, e)]) N) : ∃ g c, v = .slice (some ⟨g, 0, none⟩) (st.length + 1) c ∧ st.length + 1 ≤ c ∧ c ≤ 9223372036854775807 ∧ wr.cell? ⟨g, st.length * 2, none⟩ = some (.int .i64 (b : Int)) ∧ wr.cell? ⟨g, st.length * 2 + 1, none⟩ = some (.int .i64 (e : Int)) := by
  have hq : (st ++ [(b, e)])[st.length]? = some (b, e) := by simp
  obtain ⟨g, c, rfl, c0, _⟩ := h.own.cell (prs_get hq).1
  obtain ⟨g', c', e1, c1, _⟩ := h.own.cell (prs_get hq).2
  injection e1 with e1 _ e3
  injection e1 with e1
  injection e1 with e1
  subst e1 e3
  obtain ⟨_, _, e4, h1, h2⟩ := h.own.shape
  injection e4 with _ e5 e6
  rw [List.length_append] at h1
  subst e6
  exact ⟨g, c, by rw [List.length_append]; rfl, h1, h2, c0, c1⟩
end Go.Proofs.YtmpaliocfikifaaGreatDoor
