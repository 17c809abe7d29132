import Derived.Test.YthoekndjeclimaaGreatDoorCEP11
namespace Go.Proofs.YthoekndjeclimaaGreatDoor
open Go.RowKit
/-- new blocks, one behind the other -/
def allocs (w : World) : List Obj → World
  | [] => w
  | o :: l => allocs (w.alloc o) l
theorem allocs_ok : ∀ (l : List Obj) (w : World), (allocs w l).heap.size = w.heap.size + l.length ∧ Below w.heap.size w (allocs w l) ∧ ∀ i o, l[i]? = some o → (allocs w l).heap[w.heap.size + i]? = some o
  | [], w => ⟨rfl, Below.refl _ _, fun i o h => by simp at h⟩
  | a :: l, w => by
    obtain ⟨h1, h2, h3⟩ := allocs_ok l (w.alloc a)
    rw [size_alloc] at h1 h2 h3
    have ha := (Below.refl w.heap.size w).alloc (Nat.le_refl _) a
    refine ⟨by rw [allocs, h1, List.length_cons]; omega, ha.trans (h2.mono (by omega)), fun i o h => ?_⟩
    cases i with
    | zero =>
      simp at h
      subst h
      exact (h2.block _ (by omega)).trans (heap_alloc_new w a)
    | succ i =>
      have := h3 i o (by simpa using h)
      rwa [show w.heap.size + 1 + i = w.heap.size + (i + 1) by omega] at this
set_option maxRecDepth 100000 in
set_option maxHeartbeats 4000000 in
theorem Incl_any (n m : Int) (root leaf other : List UInt8) (path way : List (List UInt8)) (vp vw : Value) (w : World) (hp : Lv w vp path) (hw : Lv w vw way) (T : Tabs w) :
    Calls Tryz.prog 6 #[.int .i64 n, .int .i64 m, sv root, sv leaf, vp, sv other, vw] w fun e w' => e = .returned (.tuple #[prP (incO n m root leaf path other way).1.1 (incO n m root leaf path other way).1.2, .int .i64 (incO n m root leaf path other way).2]) ∧ Below w.heap.size w w' := by
  have HLP := hid hp
  have HLW := hid hw
  obtain ⟨ap, cp, rfl, p1, p2, p3⟩ := hp
  obtain ⟨aw, cw, rfl, q1, q2, q3⟩ := hw
  obtain ⟨np, HNP⟩ : ∃ n, Hid (path.length = n) := ⟨_, rfl⟩
  obtain ⟨nw, HNW⟩ : ∃ n, Hid (way.length = n) := ⟨_, rfl⟩
  have i1 := fun w' (hb : Below w.heap.size w w') => Inclusion_any n m leaf path root ap cp w' (by omega) (p3.below hb (Nat.le_refl _)) (T.below hb T.lt)
  have i2 := fun w' (hb : Below w.heap.size w w') => Inclusion_any n m other way root aw cw w' (by omega) (q3.below hb (Nat.le_refl _)) (T.below hb T.lt)
  have i3 := fun w' (hb : Below w.heap.size w w') => equalS_any path way ap aw cp cw w' (p3.below hb (Nat.le_refl _)) (q3.below hb (Nat.le_refl _)) (by omega) (by omega)
  rw [HNP.out, svS, svS] at i1
  rw [HNW.out, svS, svS] at i2
  rw [HNP.out] at HLP
  rw [HNW.out] at HLW
  rw [HNP.out, HNW.out] at i3 ⊢
  rw [svS root, svS leaf, svS other]
  have HT := hid T
  obtain ⟨za, hza⟩ : ∃ z, incOf4 n m leaf path root = z := ⟨_, rfl⟩
  obtain ⟨zb, hzb⟩ : ∃ z, incOf4 n m other way root = z := ⟨_, rfl⟩
  rw [hza] at i1
  rw [hzb] at i2
  have HZA := hid hza
  have HZB := hid hzb
  obtain ⟨W1, W2, W3⟩ := allocs_ok [.cells #[.int .i64 n] 3, .cells #[.int .i64 m] 3, .cells #[.string ⟨leaf.toArray⟩] 9, .cells #[.slice ap np cp] 22, .cells #[.string ⟨other.toArray⟩] 9, .cells #[.slice aw nw cw] 22, .cells #[.string ⟨#[]⟩, .string ⟨#[]⟩] 26] w
  obtain ⟨w0, hw0⟩ : ∃ w0, (((((((w.alloc (.cells #[.int .i64 n] 3)).alloc (.cells #[.int .i64 m] 3)).alloc (.cells #[.string ⟨leaf.toArray⟩] 9)).alloc (.cells #[.slice ap np cp] 22)).alloc (.cells #[.string ⟨other.toArray⟩] 9)).alloc (.cells #[.slice aw nw cw] 22)).alloc (.cells #[.string ⟨#[]⟩, .string ⟨#[]⟩] 26)) = w0 := ⟨_, rfl⟩
  rw [show allocs w [.cells #[.int .i64 n] 3, .cells #[.int .i64 m] 3, .cells #[.string ⟨leaf.toArray⟩] 9, .cells #[.slice ap np cp] 22, .cells #[.string ⟨other.toArray⟩] 9, .cells #[.slice aw nw cw] 22, .cells #[.string ⟨#[]⟩, .string ⟨#[]⟩] 26] = w0 from hw0] at W1 W2 W3
  have r0 : w0.heap[w.heap.size]? = some (.cells #[.int .i64 n] 3 (0, 0)) := W3 0 _ rfl
  have r1 : w0.heap[w.heap.size + 1]? = some (.cells #[.int .i64 m] 3 (0, 0)) := W3 1 _ rfl
  have r2 : w0.heap[w.heap.size + 1 + 1]? = some (.cells #[.string ⟨leaf.toArray⟩] 9 (0, 0)) := W3 2 _ rfl
  have r3 : w0.heap[w.heap.size + 1 + 1 + 1]? = some (.cells #[.slice ap np cp] 22 (0, 0)) := W3 3 _ rfl
  have r4 : w0.heap[w.heap.size + 1 + 1 + 1 + 1]? = some (.cells #[.string ⟨other.toArray⟩] 9 (0, 0)) := W3 4 _ rfl
  have r5 : w0.heap[w.heap.size + 1 + 1 + 1 + 1 + 1]? = some (.cells #[.slice aw nw cw] 22 (0, 0)) := W3 5 _ rfl
  have r6 : w0.heap[w.heap.size + 1 + 1 + 1 + 1 + 1 + 1]? = some (.cells #[.string ⟨#[]⟩, .string ⟨#[]⟩] 26 (0, 0)) := W3 6 _ rfl
  have HB0 := hid W2
  have CL : ∀ w', Below w0.heap.size w0 w' → w'.heap[w.heap.size]? = some (.cells #[.int .i64 n] 3 (0, 0)) ∧ w'.heap[w.heap.size + 1]? = some (.cells #[.int .i64 m] 3 (0, 0)) ∧ w'.heap[w.heap.size + 1 + 1]? = some (.cells #[.string ⟨leaf.toArray⟩] 9 (0, 0)) ∧ w'.heap[w.heap.size + 1 + 1 + 1]? = some (.cells #[.slice ap np cp] 22 (0, 0)) ∧ w'.heap[w.heap.size + 1 + 1 + 1 + 1]? = some (.cells #[.string ⟨other.toArray⟩] 9 (0, 0)) ∧ w'.heap[w.heap.size + 1 + 1 + 1 + 1 + 1]? = some (.cells #[.slice aw nw cw] 22 (0, 0)) ∧ w'.heap[w.heap.size + 1 + 1 + 1 + 1 + 1 + 1]? = some (.cells #[.string ⟨#[]⟩, .string ⟨#[]⟩] 26 (0, 0)) := fun w' hb => ⟨(hb.block _ (lt_of_heap r0)).trans r0, (hb.block _ (lt_of_heap r1)).trans r1, (hb.block _ (lt_of_heap r2)).trans r2, (hb.block _ (lt_of_heap r3)).trans r3, (hb.block _ (lt_of_heap r4)).trans r4, (hb.block _ (lt_of_heap r5)).trans r5, (hb.block _ (lt_of_heap r6)).trans r6⟩
  have c0 : w0.cell? ⟨w.heap.size, 0, none⟩ = some (.int .i64 n) := by rw [cell_of_row _ _ _ _ _ _ r0]; rfl
  have c1 : w0.cell? ⟨w.heap.size + 1, 0, none⟩ = some (.int .i64 m) := by rw [cell_of_row _ _ _ _ _ _ r1]; rfl
  have c2 : w0.cell? ⟨w.heap.size + 1 + 1, 0, none⟩ = some (.string ⟨leaf.toArray⟩) := by rw [cell_of_row _ _ _ _ _ _ r2]; rfl
  have c3 : w0.cell? ⟨w.heap.size + 1 + 1 + 1, 0, none⟩ = some (.slice ap np cp) := by rw [cell_of_row _ _ _ _ _ _ r3]; rfl
  have c4 : w0.cell? ⟨w.heap.size + 1 + 1 + 1 + 1, 0, none⟩ = some (.string ⟨other.toArray⟩) := by rw [cell_of_row _ _ _ _ _ _ r4]; rfl
  have c5 : w0.cell? ⟨w.heap.size + 1 + 1 + 1 + 1 + 1, 0, none⟩ = some (.slice aw nw cw) := by rw [cell_of_row _ _ _ _ _ _ r5]; rfl
  have j1 := i1 w0 W2
  clear r0 r1 r2 r3 r4 r5 r6 W1 W2 W3 hza hzb p3 q3 T i1
  go_enter Tryz.func6, Tryz.ntmps6
  go_wp2_with (go_at_call 19; fail)
  refine j1.mono ?_
  rintro e w1 ⟨rfl, b1⟩
  clear j1
  obtain ⟨X0, X1, X2, X3, X4, X5, X6⟩ := CL w1 b1
  have d0 : w1.cell? ⟨w.heap.size, 0, none⟩ = some (.int .i64 n) := by rw [cell_of_row _ _ _ _ _ _ X0]; rfl
  have d1 : w1.cell? ⟨w.heap.size + 1, 0, none⟩ = some (.int .i64 m) := by rw [cell_of_row _ _ _ _ _ _ X1]; rfl
  have d2 : w1.cell? ⟨w.heap.size + 1 + 1, 0, none⟩ = some (.string ⟨leaf.toArray⟩) := by rw [cell_of_row _ _ _ _ _ _ X2]; rfl
  have d3 : w1.cell? ⟨w.heap.size + 1 + 1 + 1, 0, none⟩ = some (.slice ap np cp) := by rw [cell_of_row _ _ _ _ _ _ X3]; rfl
  have d4 : w1.cell? ⟨w.heap.size + 1 + 1 + 1 + 1, 0, none⟩ = some (.string ⟨other.toArray⟩) := by rw [cell_of_row _ _ _ _ _ _ X4]; rfl
  have d5 : w1.cell? ⟨w.heap.size + 1 + 1 + 1 + 1 + 1, 0, none⟩ = some (.slice aw nw cw) := by rw [cell_of_row _ _ _ _ _ _ X5]; rfl
  have HX6 := hid X6
  have HB1 := hid (HB0.out.trans (b1.mono HB0.out.size))
  have Hb1 := hid b1
  clear X0 X1 X2 X3 X4 X5 X6 b1
  by_cases hza : za = 0
  · have e1 : (za != 0) = false := by subst hza; rfl
    have j2 := i2 w1 HB1.out
    clear i2
    go_wp2_with (go_at_call 19; fail)
    refine j2.mono ?_
    rintro e w2 ⟨rfl, b2⟩
    clear j2
    have hb2 := Hb1.out.trans (b2.mono Hb1.out.size)
    obtain ⟨X0, X1, X2, X3, X4, X5, X6⟩ := CL w2 hb2
    have g0 : w2.cell? ⟨w.heap.size, 0, none⟩ = some (.int .i64 n) := by rw [cell_of_row _ _ _ _ _ _ X0]; rfl
    have g1 : w2.cell? ⟨w.heap.size + 1, 0, none⟩ = some (.int .i64 m) := by rw [cell_of_row _ _ _ _ _ _ X1]; rfl
    have g2 : w2.cell? ⟨w.heap.size + 1 + 1, 0, none⟩ = some (.string ⟨leaf.toArray⟩) := by rw [cell_of_row _ _ _ _ _ _ X2]; rfl
    have g3 : w2.cell? ⟨w.heap.size + 1 + 1 + 1, 0, none⟩ = some (.slice ap np cp) := by rw [cell_of_row _ _ _ _ _ _ X3]; rfl
    have g4 : w2.cell? ⟨w.heap.size + 1 + 1 + 1 + 1, 0, none⟩ = some (.string ⟨other.toArray⟩) := by rw [cell_of_row _ _ _ _ _ _ X4]; rfl
    have g5 : w2.cell? ⟨w.heap.size + 1 + 1 + 1 + 1 + 1, 0, none⟩ = some (.slice aw nw cw) := by rw [cell_of_row _ _ _ _ _ _ X5]; rfl
    have HY6 := hid X6
    have HB2 := hid (HB1.out.trans (b2.mono HB1.out.size))
    have Hb2 := hid hb2
    clear X0 X1 X2 X3 X4 X5 X6 b2 hb2 Hb1 HB1 HX6
    by_cases hzb : zb = 0
    · have e2 : (zb != 0) = false := by subst hzb; rfl
      have hac : Hid (incOf4 n m leaf path root = 0 ∧ incOf4 n m other way root = 0) := ⟨HZA.out.trans hza, HZB.out.trans hzb⟩
      clear hza hzb
      by_cases hlo : leaf = other
      · have e3 : (leaf == other) = true := by simpa using hlo
        have j3 := i3 w2 HB2.out
        clear i3
        have HLO := hid hlo
        clear hlo
        go_wp2_with (go_at_call 20; fail)
        refine j3.mono ?_
        rintro e w3 ⟨rfl, b3⟩
        clear j3
        have hb3 := Hb2.out.trans (b3.mono Hb2.out.size)
        obtain ⟨X0, X1, X2, X3, X4, X5, X6⟩ := CL w3 hb3
        have HZ6 := hid X6
        have HX := hid (And.intro X0 (And.intro X1 (And.intro X2 (And.intro X3 (And.intro X4 X5)))))
        have HB3 := hid (HB2.out.trans (b3.mono HB2.out.size))
        clear X0 X1 X2 X3 X4 X5 X6 b3 hb3 Hb2 HB2 HY6
        by_cases hpw : path = way
        · rw [decide_eq_true hpw]
          have HO2 : Hid (incO n m root leaf path other way = (([], []), 60)) := by unfold incO; unfold Hid; rw [if_pos hac.out, if_pos ⟨HLO.out, hpw⟩]
          clear hpw
          go_wp2_with ((with_reducible show wpList _ _ _ (Oper.mk _ (Op.store 26 _ _) _ _ _ _ :: _) _ _); go_must (refine wpList_store_row rfl 26 _ _ rfl (w.heap.size + 1 + 1 + 1 + 1 + 1 + 1) _ rfl rfl 26 _ HZ6.out sizePr rfl (onePr [] []) ?_))
          refine bodyPost_ret (results_row6 rfl _ _ (w.heap.size + 1 + 1 + 1 + 1 + 1 + 1) 26 _ (0, 0) _ rfl (setRow_heap _ _ _ _ _ _ HZ6.out) Tryz.underlying26 rfl sizePr) rfl ?_
          exact ⟨by rw [HO2.out]; rfl, Below.setRow HB3.out (by omega) _⟩
        · rw [decide_eq_false hpw]
          have hne : ¬ (leaf = other ∧ path = way) := fun h => hpw h.2
          clear hpw
          obtain ⟨N, M, eN, eM, ia⟩ := Inc.of hac.out.1
          obtain ⟨N', M', eN', eM', ib⟩ := Inc.of hac.out.2
          obtain rfl : N' = N := by omega
          obtain rfl : M' = M := by omega
          obtain ⟨p, q, h1, _, _⟩ := inc_some ia ib hne
          have HO2 : Hid (incO n m root leaf path other way = ((p, q), 0)) := by unfold incO; unfold Hid; rw [if_pos hac.out, if_neg hne, eN, eM, Int.toNat_natCast, Int.toNat_natCast, h1]
          have i4 := foundI_any p q #[.pointer (some ⟨w.heap.size, 0, none⟩), .pointer (some ⟨w.heap.size + 1, 0, none⟩), .pointer (some ⟨w.heap.size + 1 + 1, 0, none⟩), .pointer (some ⟨w.heap.size + 1 + 1 + 1, 0, none⟩), .pointer (some ⟨w.heap.size + 1 + 1 + 1 + 1, 0, none⟩), .pointer (some ⟨w.heap.size + 1 + 1 + 1 + 1 + 1, 0, none⟩)] w3 (fun w' hb' => by
            obtain ⟨x0, x1, x2, x3, x4, x5⟩ := HX.out
            have hbb := HB3.out.trans (hb'.mono HB3.out.size)
            refine incl1_any N' M' leaf other root p q path way _ _ w' _ _ _ _ _ _ (eN ▸ (hb'.block _ (lt_of_heap x0)).trans x0) (eM ▸ (hb'.block _ (lt_of_heap x1)).trans x1) ((hb'.block _ (lt_of_heap x2)).trans x2) ((hb'.block _ (lt_of_heap x3)).trans x3) ((hb'.block _ (lt_of_heap x4)).trans x4) ((hb'.block _ (lt_of_heap x5)).trans x5) ia ib (HLP.out.below hbb) (HLW.out.below hbb) h1 (HT.out.below hbb HT.out.lt))
          clear hne hac ia ib h1 eN eM eN' eM' HLP HLW
          go_wp2_with (go_at_call 21; fail)
          refine i4.mono ?_
          rintro e w4 ⟨rfl, k4⟩
          have HR4 := hid ((k4.block _ (lt_of_heap HZ6.out)).trans HZ6.out)
          have HB4 := hid (HB3.out.trans (k4.mono HB3.out.size))
          clear i4 k4
          go_wp2_with ((with_reducible show wpList _ _ _ (Oper.mk _ (Op.store 26 _ _) _ _ _ _ :: _) _ _); go_must (refine wpList_store_row rfl 26 _ _ rfl (w.heap.size + 1 + 1 + 1 + 1 + 1 + 1) _ rfl rfl 26 _ HR4.out sizePr rfl (onePr p q) ?_))
          refine bodyPost_ret (results_row6 rfl _ _ (w.heap.size + 1 + 1 + 1 + 1 + 1 + 1) 26 _ (0, 0) _ rfl (setRow_heap _ _ _ _ _ _ HR4.out) Tryz.underlying26 rfl sizePr) rfl ?_
          exact ⟨by rw [HO2.out]; rfl, Below.setRow HB4.out (by omega) _⟩
      · have e3 : (leaf == other) = false := by simpa using hlo
        have hne : ¬ (leaf = other ∧ path = way) := fun h => hlo h.1
        clear hlo
        obtain ⟨X0, X1, X2, X3, X4, X5, X6⟩ := CL w2 Hb2.out
        have HX := hid (And.intro X0 (And.intro X1 (And.intro X2 (And.intro X3 (And.intro X4 X5)))))
        clear X0 X1 X2 X3 X4 X5 X6
        obtain ⟨N, M, eN, eM, ia⟩ := Inc.of hac.out.1
        obtain ⟨N', M', eN', eM', ib⟩ := Inc.of hac.out.2
        obtain rfl : N' = N := by omega
        obtain rfl : M' = M := by omega
        obtain ⟨p, q, h1, _, _⟩ := inc_some ia ib hne
        have HO2 : Hid (incO n m root leaf path other way = ((p, q), 0)) := by unfold incO; unfold Hid; rw [if_pos hac.out, if_neg hne, eN, eM, Int.toNat_natCast, Int.toNat_natCast, h1]
        have i4 := foundI_any p q #[.pointer (some ⟨w.heap.size, 0, none⟩), .pointer (some ⟨w.heap.size + 1, 0, none⟩), .pointer (some ⟨w.heap.size + 1 + 1, 0, none⟩), .pointer (some ⟨w.heap.size + 1 + 1 + 1, 0, none⟩), .pointer (some ⟨w.heap.size + 1 + 1 + 1 + 1, 0, none⟩), .pointer (some ⟨w.heap.size + 1 + 1 + 1 + 1 + 1, 0, none⟩)] w2 (fun w' hb' => by
          obtain ⟨x0, x1, x2, x3, x4, x5⟩ := HX.out
          have hbb := HB2.out.trans (hb'.mono HB2.out.size)
          refine incl1_any N' M' leaf other root p q path way _ _ w' _ _ _ _ _ _ (eN ▸ (hb'.block _ (lt_of_heap x0)).trans x0) (eM ▸ (hb'.block _ (lt_of_heap x1)).trans x1) ((hb'.block _ (lt_of_heap x2)).trans x2) ((hb'.block _ (lt_of_heap x3)).trans x3) ((hb'.block _ (lt_of_heap x4)).trans x4) ((hb'.block _ (lt_of_heap x5)).trans x5) ia ib (HLP.out.below hbb) (HLW.out.below hbb) h1 (HT.out.below hbb HT.out.lt))
        clear hne hac ia ib h1 eN eM eN' eM' HLP HLW
        go_wp2_with (go_at_call 21; fail)
        refine i4.mono ?_
        rintro e w4 ⟨rfl, k4⟩
        have HR4 := hid ((k4.block _ (lt_of_heap HY6.out)).trans HY6.out)
        have HB4 := hid (HB2.out.trans (k4.mono HB2.out.size))
        clear i4 k4
        go_wp2_with ((with_reducible show wpList _ _ _ (Oper.mk _ (Op.store 26 _ _) _ _ _ _ :: _) _ _); go_must (refine wpList_store_row rfl 26 _ _ rfl (w.heap.size + 1 + 1 + 1 + 1 + 1 + 1) _ rfl rfl 26 _ HR4.out sizePr rfl (onePr p q) ?_))
        refine bodyPost_ret (results_row6 rfl _ _ (w.heap.size + 1 + 1 + 1 + 1 + 1 + 1) 26 _ (0, 0) _ rfl (setRow_heap _ _ _ _ _ _ HR4.out) Tryz.underlying26 rfl sizePr) rfl ?_
        exact ⟨by rw [HO2.out]; rfl, Below.setRow HB4.out (by omega) _⟩
    · have e2 : (zb != 0) = true := by simpa using hzb
      have HO2 : Hid (incO n m root leaf path other way = (([], []), 61)) := by unfold incO; unfold Hid; rw [if_neg (by rw [HZB.out]; exact fun h => hzb h.2)]
      go_wp2_with ((with_reducible show wpList _ _ _ (Oper.mk _ (Op.store 26 _ _) _ _ _ _ :: _) _ _); go_must (refine wpList_store_row rfl 26 _ _ rfl (w.heap.size + 1 + 1 + 1 + 1 + 1 + 1) _ rfl rfl 26 _ HY6.out sizePr rfl (onePr [] []) ?_))
      refine bodyPost_ret (results_row6 rfl _ _ (w.heap.size + 1 + 1 + 1 + 1 + 1 + 1) 26 _ (0, 0) _ rfl (setRow_heap _ _ _ _ _ _ HY6.out) Tryz.underlying26 rfl sizePr) rfl ?_
      exact ⟨by rw [HO2.out]; rfl, Below.setRow HB2.out (by omega) _⟩
  · have e1 : (za != 0) = true := by simpa using hza
    have HO2 : Hid (incO n m root leaf path other way = (([], []), 61)) := by unfold incO; unfold Hid; rw [if_neg (by rw [HZA.out]; exact fun h => hza h.1)]
    go_wp2_with ((with_reducible show wpList _ _ _ (Oper.mk _ (Op.store 26 _ _) _ _ _ _ :: _) _ _); go_must (refine wpList_store_row rfl 26 _ _ rfl (w.heap.size + 1 + 1 + 1 + 1 + 1 + 1) _ rfl rfl 26 _ HX6.out sizePr rfl (onePr [] []) ?_))
    refine bodyPost_ret (results_row6 rfl _ _ (w.heap.size + 1 + 1 + 1 + 1 + 1 + 1) 26 _ (0, 0) _ rfl (setRow_heap _ _ _ _ _ _ HX6.out) Tryz.underlying26 rfl sizePr) rfl ?_
    exact ⟨by rw [HO2.out]; rfl, Below.setRow HB1.out (by omega) _⟩
end Go.Proofs.YthoekndjeclimaaGreatDoor
