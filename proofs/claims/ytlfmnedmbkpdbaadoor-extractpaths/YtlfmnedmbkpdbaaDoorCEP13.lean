import Derived.Test.YtlfmnedmbkpdbaaDoorCEP10
import Derived.Test.YtlfmnedmbkpdbaaDoorCEX1
namespace Go.Proofs.YtlfmnedmbkpdbaaDoor
open Go.RowKit
/-- new blocks, one behind the other -/
def allocs (w : World) : List Obj → World
  | [] => w
  | o :: l => allocs (w.alloc o) l
theorem allocs_ok : ∀ (l : List Obj) (w : World), (allocs w l).heap.size = w.heap.size + l.length ∧ Below w.heap.size w (allocs w l) ∧ ∀ i o, l[i]? = some o → (allocs w l).heap[w.heap.size + i]? = some o
  | [], w => ⟨rfl, Below.refl _ _, fun i o h => by simp at h⟩
  | a :: l, w => by
    obtain ⟨h1, h2, h3⟩ := allocs_ok l (w.alloc a)
    rw [size_alloc] at h1 h2 h3
    have ha := (Below.refl w.heap.size w).alloc (Nat.le_refl _) a
    refine ⟨by rw [allocs, h1, List.length_cons]; omega, ha.trans (h2.mono (by omega)), fun i o h => ?_⟩
    cases i with
    | zero =>
      simp at h
      subst h
      exact (h2.block _ (by omega)).trans (heap_alloc_new w a)
    | succ i =>
      have := h3 i o (by simpa using h)
      rwa [show w.heap.size + 1 + i = w.heap.size + (i + 1) by omega] at this
set_option maxRecDepth 100000 in
set_option maxHeartbeats 4000000 in
theorem Incl_any (n m : Int) (root leaf other : List UInt8) (path way : List (List UInt8)) (vp vw : Value) (w : World) (hp : Lv w vp path) (hw : Lv w vw way) (T : Tabs w) :
    Calls Tryd.prog 12 #[.int .i64 n, .int .i64 m, sv root, sv leaf, vp, sv other, vw] w fun e w' => e = .returned (.tuple #[prP (incO n m root leaf path other way).1.1 (incO n m root leaf path other way).1.2, .int .i64 (incO n m root leaf path other way).2]) ∧ Below w.heap.size w w' := by
  have HLP := hid hp
  have HLW := hid hw
  obtain ⟨ap, cp, rfl, p1, p2, p3⟩ := hp
  obtain ⟨aw, cw, rfl, q1, q2, q3⟩ := hw
  obtain ⟨np, HNP⟩ : ∃ n, Hid (path.length = n) := ⟨_, rfl⟩
  obtain ⟨nw, HNW⟩ : ∃ n, Hid (way.length = n) := ⟨_, rfl⟩
  have i1 := fun w' (hb : Below w.heap.size w w') => Inclusion_any n m leaf path root ap cp w' (by omega) (p3.below hb (Nat.le_refl _)) (T.below hb T.lt)
  have i2 := fun w' (hb : Below w.heap.size w w') => Inclusion_any n m other way root aw cw w' (by omega) (q3.below hb (Nat.le_refl _)) (T.below hb T.lt)
  have i3 := fun w' (hb : Below w.heap.size w w') => equalS_any path way ap aw cp cw w' (p3.below hb (Nat.le_refl _)) (q3.below hb (Nat.le_refl _)) (by omega) (by omega)
  rw [HNP.out, svS, svS] at i1
  rw [HNW.out, svS, svS] at i2
  rw [HNP.out] at HLP
  rw [HNW.out] at HLW
  rw [HNP.out, HNW.out] at i3 ⊢
  rw [svS root, svS leaf, svS other]
  have HT := hid T
  obtain ⟨za, hza⟩ : ∃ z, incOf4 n m leaf path root = z := ⟨_, rfl⟩
  obtain ⟨zb, hzb⟩ : ∃ z, incOf4 n m other way root = z := ⟨_, rfl⟩
  rw [hza] at i1
  rw [hzb] at i2
  have HZA := hid hza
  have HZB := hid hzb
  obtain ⟨W1, W2, W3⟩ := allocs_ok [.cells #[.int .i64 n] 3, .cells #[.int .i64 m] 3, .cells #[.string ⟨leaf.toArray⟩] 9, .cells #[.slice ap np cp] 22, .cells #[.string ⟨other.toArray⟩] 9, .cells #[.slice aw nw cw] 22, .cells #[.string ⟨#[]⟩, .string ⟨#[]⟩] 25] w
  obtain ⟨w0, hw0⟩ : ∃ w0, (((((((w.alloc (.cells #[.int .i64 n] 3)).alloc (.cells #[.int .i64 m] 3)).alloc (.cells #[.string ⟨leaf.toArray⟩] 9)).alloc (.cells #[.slice ap np cp] 22)).alloc (.cells #[.string ⟨other.toArray⟩] 9)).alloc (.cells #[.slice aw nw cw] 22)).alloc (.cells #[.string ⟨#[]⟩, .string ⟨#[]⟩] 25)) = w0 := ⟨_, rfl⟩
  rw [show allocs w [.cells #[.int .i64 n] 3, .cells #[.int .i64 m] 3, .cells #[.string ⟨leaf.toArray⟩] 9, .cells #[.slice ap np cp] 22, .cells #[.string ⟨other.toArray⟩] 9, .cells #[.slice aw nw cw] 22, .cells #[.string ⟨#[]⟩, .string ⟨#[]⟩] 25] = w0 from hw0] at W1 W2 W3
  have r0 : w0.heap[w.heap.size]? = some (.cells #[.int .i64 n] 3 (0, 0)) := W3 0 _ rfl
  have r1 : w0.heap[w.heap.size + 1]? = some (.cells #[.int .i64 m] 3 (0, 0)) := W3 1 _ rfl
  have r2 : w0.heap[w.heap.size + 1 + 1]? = some (.cells #[.string ⟨leaf.toArray⟩] 9 (0, 0)) := W3 2 _ rfl
  have r3 : w0.heap[w.heap.size + 1 + 1 + 1]? = some (.cells #[.slice ap np cp] 22 (0, 0)) := W3 3 _ rfl
  have r4 : w0.heap[w.heap.size + 1 + 1 + 1 + 1]? = some (.cells #[.string ⟨other.toArray⟩] 9 (0, 0)) := W3 4 _ rfl
  have r5 : w0.heap[w.heap.size + 1 + 1 + 1 + 1 + 1]? = some (.cells #[.slice aw nw cw] 22 (0, 0)) := W3 5 _ rfl
  have r6 : w0.heap[w.heap.size + 1 + 1 + 1 + 1 + 1 + 1]? = some (.cells #[.string ⟨#[]⟩, .string ⟨#[]⟩] 25 (0, 0)) := W3 6 _ rfl
  have HB0 := hid W2
  have CL : ∀ w', Below w0.heap.size w0 w' → w'.heap[w.heap.size]? = some (.cells #[.int .i64 n] 3 (0, 0)) ∧ w'.heap[w.heap.size + 1]? = some (.cells #[.int .i64 m] 3 (0, 0)) ∧ w'.heap[w.heap.size + 1 + 1]? = some (.cells #[.string ⟨leaf.toArray⟩] 9 (0, 0)) ∧ w'.heap[w.heap.size + 1 + 1 + 1]? = some (.cells #[.slice ap np cp] 22 (0, 0)) ∧ w'.heap[w.heap.size + 1 + 1 + 1 + 1]? = some (.cells #[.string ⟨other.toArray⟩] 9 (0, 0)) ∧ w'.heap[w.heap.size + 1 + 1 + 1 + 1 + 1]? = some (.cells #[.slice aw nw cw] 22 (0, 0)) ∧ w'.heap[w.heap.size + 1 + 1 + 1 + 1 + 1 + 1]? = some (.cells #[.string ⟨#[]⟩, .string ⟨#[]⟩] 25 (0, 0)) := fun w' hb => ⟨(hb.block _ (lt_of_heap r0)).trans r0, (hb.block _ (lt_of_heap r1)).trans r1, (hb.block _ (lt_of_heap r2)).trans r2, (hb.block _ (lt_of_heap r3)).trans r3, (hb.block _ (lt_of_heap r4)).trans r4, (hb.block _ (lt_of_heap r5)).trans r5, (hb.block _ (lt_of_heap r6)).trans r6⟩
  have c0 : w0.cell? ⟨w.heap.size, 0, none⟩ = some (.int .i64 n) := by rw [cell_of_row _ _ _ _ _ _ r0]; rfl
  have c1 : w0.cell? ⟨w.heap.size + 1, 0, none⟩ = some (.int .i64 m) := by rw [cell_of_row _ _ _ _ _ _ r1]; rfl
  have c2 : w0.cell? ⟨w.heap.size + 1 + 1, 0, none⟩ = some (.string ⟨leaf.toArray⟩) := by rw [cell_of_row _ _ _ _ _ _ r2]; rfl
  have c3 : w0.cell? ⟨w.heap.size + 1 + 1 + 1, 0, none⟩ = some (.slice ap np cp) := by rw [cell_of_row _ _ _ _ _ _ r3]; rfl
  have c4 : w0.cell? ⟨w.heap.size + 1 + 1 + 1 + 1, 0, none⟩ = some (.string ⟨other.toArray⟩) := by rw [cell_of_row _ _ _ _ _ _ r4]; rfl
  have c5 : w0.cell? ⟨w.heap.size + 1 + 1 + 1 + 1 + 1, 0, none⟩ = some (.slice aw nw cw) := by rw [cell_of_row _ _ _ _ _ _ r5]; rfl
  have j1 := i1 w0 W2
  clear r0 r1 r2 r3 r4 r5 r6 W1 W2 W3 hza hzb p3 q3 T i1
  go_enter Tryd.func12, Tryd.ntmps12
  go_wp2_with (go_at_call 11; fail)
  refine j1.mono ?_
  rintro e w1 ⟨rfl, b1⟩
  clear j1
  obtain ⟨X0, X1, X2, X3, X4, X5, X6⟩ := CL w1 b1
  have d0 : w1.cell? ⟨w.heap.size, 0, none⟩ = some (.int .i64 n) := by rw [cell_of_row _ _ _ _ _ _ X0]; rfl
  have d1 : w1.cell? ⟨w.heap.size + 1, 0, none⟩ = some (.int .i64 m) := by rw [cell_of_row _ _ _ _ _ _ X1]; rfl
  have d2 : w1.cell? ⟨w.heap.size + 1 + 1, 0, none⟩ = some (.string ⟨leaf.toArray⟩) := by rw [cell_of_row _ _ _ _ _ _ X2]; rfl
  have d3 : w1.cell? ⟨w.heap.size + 1 + 1 + 1, 0, none⟩ = some (.slice ap np cp) := by rw [cell_of_row _ _ _ _ _ _ X3]; rfl
  have d4 : w1.cell? ⟨w.heap.size + 1 + 1 + 1 + 1, 0, none⟩ = some (.string ⟨other.toArray⟩) := by rw [cell_of_row _ _ _ _ _ _ X4]; rfl
  have d5 : w1.cell? ⟨w.heap.size + 1 + 1 + 1 + 1 + 1, 0, none⟩ = some (.slice aw nw cw) := by rw [cell_of_row _ _ _ _ _ _ X5]; rfl
  have HX6 := hid X6
  have HB1 := hid (HB0.out.trans (b1.mono HB0.out.size))
  have Hb1 := hid b1
  clear X0 X1 X2 X3 X4 X5 X6 b1
  by_cases hza : za = 0
  · have e1 : (za != 0) = false := by subst hza; rfl
    have j2 := i2 w1 HB1.out
    clear i2
    go_wp2_with (go_at_call 11; fail)
    refine j2.mono ?_
    rintro e w2 ⟨rfl, b2⟩
    clear j2
    have hb2 := Hb1.out.trans (b2.mono Hb1.out.size)
    obtain ⟨X0, X1, X2, X3, X4, X5, X6⟩ := CL w2 hb2
    have g0 : w2.cell? ⟨w.heap.size, 0, none⟩ = some (.int .i64 n) := by rw [cell_of_row _ _ _ _ _ _ X0]; rfl
    have g1 : w2.cell? ⟨w.heap.size + 1, 0, none⟩ = some (.int .i64 m) := by rw [cell_of_row _ _ _ _ _ _ X1]; rfl
    have g2 : w2.cell? ⟨w.heap.size + 1 + 1, 0, none⟩ = some (.string ⟨leaf.toArray⟩) := by rw [cell_of_row _ _ _ _ _ _ X2]; rfl
    have g3 : w2.cell? ⟨w.heap.size + 1 + 1 + 1, 0, none⟩ = some (.slice ap np cp) := by rw [cell_of_row _ _ _ _ _ _ X3]; rfl
    have g4 : w2.cell? ⟨w.heap.size + 1 + 1 + 1 + 1, 0, none⟩ = some (.string ⟨other.toArray⟩) := by rw [cell_of_row _ _ _ _ _ _ X4]; rfl
    have g5 : w2.cell? ⟨w.heap.size + 1 + 1 + 1 + 1 + 1, 0, none⟩ = some (.slice aw nw cw) := by rw [cell_of_row _ _ _ _ _ _ X5]; rfl
    have HY6 := hid X6
    have HB2 := hid (HB1.out.trans (b2.mono HB1.out.size))
    have Hb2 := hid hb2
    clear X0 X1 X2 X3 X4 X5 X6 b2 hb2 Hb1 HB1 HX6
    by_cases hzb : zb = 0
    · have e2 : (zb != 0) = false := by subst hzb; rfl
      have hac : Hid (incOf4 n m leaf path root = 0 ∧ incOf4 n m other way root = 0) := ⟨HZA.out.trans hza, HZB.out.trans hzb⟩
      clear hza hzb
      by_cases hlo : leaf = other
      · have e3 : (leaf == other) = true := by simpa using hlo
        have j3 := i3 w2 HB2.out
        clear i3
        have HLO := hid hlo
        clear hlo
        go_wp2_with (go_at_call 29; fail)
        refine j3.mono ?_
        rintro e w3 ⟨rfl, b3⟩
        clear j3
        have hb3 := Hb2.out.trans (b3.mono Hb2.out.size)
        obtain ⟨X0, X1, X2, X3, X4, X5, X6⟩ := CL w3 hb3
        have HZ6 := hid X6
        have HX := hid (And.intro X0 (And.intro X1 (And.intro X2 (And.intro X3 (And.intro X4 X5)))))
        have HB3 := hid (HB2.out.trans (b3.mono HB2.out.size))
        clear X0 X1 X2 X3 X4 X5 X6 b3 hb3 Hb2 HB2 HY6
        by_cases hpw : path = way
        · rw [decide_eq_true hpw]
          have HO2 : Hid (incO n m root leaf path other way = (([], []), 60)) := by unfold incO; unfold Hid; rw [if_pos hac.out, if_pos ⟨HLO.out, hpw⟩]
          clear hpw
          go_wp2_with ((with_reducible show wpList _ _ _ (Oper.mk _ (Op.store 25 _ _) _ _ _ _ :: _) _ _); go_must (refine wpList_store_row rfl 25 _ _ rfl (w.heap.size + 1 + 1 + 1 + 1 + 1 + 1) _ rfl rfl 25 _ HZ6.out sizePr rfl (onePr [] []) ?_))
          refine bodyPost_ret (results_row6 rfl _ _ (w.heap.size + 1 + 1 + 1 + 1 + 1 + 1) 25 _ (0, 0) _ rfl (setRow_heap _ _ _ _ _ _ HZ6.out) Tryd.underlying25 rfl sizePr) rfl ?_
          exact ⟨by rw [HO2.out]; rfl, Below.setRow HB3.out (by omega) _⟩
        · rw [decide_eq_false hpw]
          have hne : ¬ (leaf = other ∧ path = way) := fun h => hpw h.2
          clear hpw
          obtain ⟨N, M, eN, eM, ia⟩ := Inc.of hac.out.1
          obtain ⟨N', M', eN', eM', ib⟩ := Inc.of hac.out.2
          obtain rfl : N' = N := by omega
          obtain rfl : M' = M := by omega
          obtain ⟨p, q, h1, _, _⟩ := inc_some ia ib hne
          have HO2 : Hid (incO n m root leaf path other way = ((p, q), 0)) := by unfold incO; unfold Hid; rw [if_pos hac.out, if_neg hne, eN, eM, Int.toNat_natCast, Int.toNat_natCast, h1]
          have i4 := foundI_any p q #[.pointer (some ⟨w.heap.size, 0, none⟩), .pointer (some ⟨w.heap.size + 1, 0, none⟩), .pointer (some ⟨w.heap.size + 1 + 1, 0, none⟩), .pointer (some ⟨w.heap.size + 1 + 1 + 1, 0, none⟩), .pointer (some ⟨w.heap.size + 1 + 1 + 1 + 1, 0, none⟩), .pointer (some ⟨w.heap.size + 1 + 1 + 1 + 1 + 1, 0, none⟩)] w3 (fun w' hb' => by
            obtain ⟨x0, x1, x2, x3, x4, x5⟩ := HX.out
            have hbb := HB3.out.trans (hb'.mono HB3.out.size)
            refine incl1_any N' M' leaf other root p q path way _ _ w' _ _ _ _ _ _ (eN ▸ (hb'.block _ (lt_of_heap x0)).trans x0) (eM ▸ (hb'.block _ (lt_of_heap x1)).trans x1) ((hb'.block _ (lt_of_heap x2)).trans x2) ((hb'.block _ (lt_of_heap x3)).trans x3) ((hb'.block _ (lt_of_heap x4)).trans x4) ((hb'.block _ (lt_of_heap x5)).trans x5) ia ib (HLP.out.below hbb) (HLW.out.below hbb) h1 (HT.out.below hbb HT.out.lt))
          clear hne hac ia ib h1 eN eM eN' eM' HLP HLW
          go_wp2_with (go_at_call 20; fail)
          refine i4.mono ?_
          rintro e w4 ⟨rfl, k4⟩
          have HR4 := hid ((k4.block _ (lt_of_heap HZ6.out)).trans HZ6.out)
          have HB4 := hid (HB3.out.trans (k4.mono HB3.out.size))
          clear i4 k4
          go_wp2_with ((with_reducible show wpList _ _ _ (Oper.mk _ (Op.store 25 _ _) _ _ _ _ :: _) _ _); go_must (refine wpList_store_row rfl 25 _ _ rfl (w.heap.size + 1 + 1 + 1 + 1 + 1 + 1) _ rfl rfl 25 _ HR4.out sizePr rfl (onePr p q) ?_))
          refine bodyPost_ret (results_row6 rfl _ _ (w.heap.size + 1 + 1 + 1 + 1 + 1 + 1) 25 _ (0, 0) _ rfl (setRow_heap _ _ _ _ _ _ HR4.out) Tryd.underlying25 rfl sizePr) rfl ?_
          exact ⟨by rw [HO2.out]; rfl, Below.setRow HB4.out (by omega) _⟩
      · have e3 : (leaf == other) = false := by simpa using hlo
        have hne : ¬ (leaf = other ∧ path = way) := fun h => hlo h.1
        clear hlo
        obtain ⟨X0, X1, X2, X3, X4, X5, X6⟩ := CL w2 Hb2.out
        have HX := hid (And.intro X0 (And.intro X1 (And.intro X2 (And.intro X3 (And.intro X4 X5)))))
        clear X0 X1 X2 X3 X4 X5 X6
        obtain ⟨N, M, eN, eM, ia⟩ := Inc.of hac.out.1
        obtain ⟨N', M', eN', eM', ib⟩ := Inc.of hac.out.2
        obtain rfl : N' = N := by omega
        obtain rfl : M' = M := by omega
        obtain ⟨p, q, h1, _, _⟩ := inc_some ia ib hne
        have HO2 : Hid (incO n m root leaf path other way = ((p, q), 0)) := by unfold incO; unfold Hid; rw [if_pos hac.out, if_neg hne, eN, eM, Int.toNat_natCast, Int.toNat_natCast, h1]
        have i4 := foundI_any p q #[.pointer (some ⟨w.heap.size, 0, none⟩), .pointer (some ⟨w.heap.size + 1, 0, none⟩), .pointer (some ⟨w.heap.size + 1 + 1, 0, none⟩), .pointer (some ⟨w.heap.size + 1 + 1 + 1, 0, none⟩), .pointer (some ⟨w.heap.size + 1 + 1 + 1 + 1, 0, none⟩), .pointer (some ⟨w.heap.size + 1 + 1 + 1 + 1 + 1, 0, none⟩)] w2 (fun w' hb' => by
          obtain ⟨x0, x1, x2, x3, x4, x5⟩ := HX.out
          have hbb := HB2.out.trans (hb'.mono HB2.out.size)
          refine incl1_any N' M' leaf other root p q path way _ _ w' _ _ _ _ _ _ (eN ▸ (hb'.block _ (lt_of_heap x0)).trans x0) (eM ▸ (hb'.block _ (lt_of_heap x1)).trans x1) ((hb'.block _ (lt_of_heap x2)).trans x2) ((hb'.block _ (lt_of_heap x3)).trans x3) ((hb'.block _ (lt_of_heap x4)).trans x4) ((hb'.block _ (lt_of_heap x5)).trans x5) ia ib (HLP.out.below hbb) (HLW.out.below hbb) h1 (HT.out.below hbb HT.out.lt))
        clear hne hac ia ib h1 eN eM eN' eM' HLP HLW
        go_wp2_with (go_at_call 20; fail)
        refine i4.mono ?_
        rintro e w4 ⟨rfl, k4⟩
        have HR4 := hid ((k4.block _ (lt_of_heap HY6.out)).trans HY6.out)
        have HB4 := hid (HB2.out.trans (k4.mono HB2.out.size))
        clear i4 k4
        go_wp2_with ((with_reducible show wpList _ _ _ (Oper.mk _ (Op.store 25 _ _) _ _ _ _ :: _) _ _); go_must (refine wpList_store_row rfl 25 _ _ rfl (w.heap.size + 1 + 1 + 1 + 1 + 1 + 1) _ rfl rfl 25 _ HR4.out sizePr rfl (onePr p q) ?_))
        refine bodyPost_ret (results_row6 rfl _ _ (w.heap.size + 1 + 1 + 1 + 1 + 1 + 1) 25 _ (0, 0) _ rfl (setRow_heap _ _ _ _ _ _ HR4.out) Tryd.underlying25 rfl sizePr) rfl ?_
        exact ⟨by rw [HO2.out]; rfl, Below.setRow HB4.out (by omega) _⟩
    · have e2 : (zb != 0) = true := by simpa using hzb
      have HO2 : Hid (incO n m root leaf path other way = (([], []), 61)) := by unfold incO; unfold Hid; rw [if_neg (by rw [HZB.out]; exact fun h => hzb h.2)]
      go_wp2_with ((with_reducible show wpList _ _ _ (Oper.mk _ (Op.store 25 _ _) _ _ _ _ :: _) _ _); go_must (refine wpList_store_row rfl 25 _ _ rfl (w.heap.size + 1 + 1 + 1 + 1 + 1 + 1) _ rfl rfl 25 _ HY6.out sizePr rfl (onePr [] []) ?_))
      refine bodyPost_ret (results_row6 rfl _ _ (w.heap.size + 1 + 1 + 1 + 1 + 1 + 1) 25 _ (0, 0) _ rfl (setRow_heap _ _ _ _ _ _ HY6.out) Tryd.underlying25 rfl sizePr) rfl ?_
      exact ⟨by rw [HO2.out]; rfl, Below.setRow HB2.out (by omega) _⟩
  · have e1 : (za != 0) = true := by simpa using hza
    have HO2 : Hid (incO n m root leaf path other way = (([], []), 61)) := by unfold incO; unfold Hid; rw [if_neg (by rw [HZA.out]; exact fun h => hza h.1)]
    go_wp2_with ((with_reducible show wpList _ _ _ (Oper.mk _ (Op.store 25 _ _) _ _ _ _ :: _) _ _); go_must (refine wpList_store_row rfl 25 _ _ rfl (w.heap.size + 1 + 1 + 1 + 1 + 1 + 1) _ rfl rfl 25 _ HX6.out sizePr rfl (onePr [] []) ?_))
    refine bodyPost_ret (results_row6 rfl _ _ (w.heap.size + 1 + 1 + 1 + 1 + 1 + 1) 25 _ (0, 0) _ rfl (setRow_heap _ _ _ _ _ _ HX6.out) Tryd.underlying25 rfl sizePr) rfl ?_
    exact ⟨by rw [HO2.out]; rfl, Below.setRow HB1.out (by omega) _⟩
end Go.Proofs.YtlfmnedmbkpdbaaDoor

/- which proofs begin with their first hash: those from a size that is no power of two -/
namespace Go.Proofs.YtlfmnedmbkpdbaaDoor
namespace Tree
theorem St_zero : ∀ (f p l : Nat), p ≤ f → ((St p l).1 = 0 ↔ ∃ j, p + 1 = 2 ^ j)
  | f, p, l, hf => by
    by_cases h : p % 2 = 1
    · match f, hf with
      | 0, hf => omega
      | f + 1, hf =>
      rw [St_odd _ h, St_zero f (p / 2) (l / 2) (by omega)]
      constructor
      · rintro ⟨j, hj⟩
        exact ⟨j + 1, by rw [Nat.pow_succ]; omega⟩
      · rintro ⟨j, hj⟩
        match j, hj with
        | 0, hj => simp at hj; omega
        | j + 1, hj => exact ⟨j, by rw [Nat.pow_succ] at hj; omega⟩
    · rw [St_even _ h]
      constructor
      · intro e
        have e : p = 0 := e
        exact ⟨0, by simp; omega⟩
      · rintro ⟨j, hj⟩
        show p = 0
        match j, hj with
        | 0, hj => simp at hj; omega
        | j + 1, hj => rw [Nat.pow_succ] at hj; omega
/-- a size is a power of two: told by what it is made of -/
def pw (m : Nat) : Bool := [1, 2, 4, 8, 16, 32, 64, 128, 256, 512, 1024, 2048, 4096].contains m
theorem pw_iff {m : Nat} (h : m ≤ 4096) : pw m = true ↔ ∃ j, m = 2 ^ j := by
  constructor
  · intro h1
    have h2 : m ∈ [1, 2, 4, 8, 16, 32, 64, 128, 256, 512, 1024, 2048, 4096] := by simpa [pw] using h1
    simp only [List.mem_cons, List.not_mem_nil, or_false] at h2
    rcases h2 with rfl | rfl | rfl | rfl | rfl | rfl | rfl | rfl | rfl | rfl | rfl | rfl | rfl
    · exact ⟨0, rfl⟩
    · exact ⟨1, rfl⟩
    · exact ⟨2, rfl⟩
    · exact ⟨3, rfl⟩
    · exact ⟨4, rfl⟩
    · exact ⟨5, rfl⟩
    · exact ⟨6, rfl⟩
    · exact ⟨7, rfl⟩
    · exact ⟨8, rfl⟩
    · exact ⟨9, rfl⟩
    · exact ⟨10, rfl⟩
    · exact ⟨11, rfl⟩
    · exact ⟨12, rfl⟩
  · rintro ⟨j, rfl⟩
    have hj : j < 13 := by
      refine Nat.lt_of_not_le fun hle => ?_
      have := Nat.pow_le_pow_right (n := 2) (by decide) hle
      omega
    have : ∀ j : Fin 13, pw (2 ^ j.val) = true := by decide
    exact this ⟨j, hj⟩
theorem fl_pw {m n : Nat} (h1 : 1 ≤ m) (h2 : m < n) (h3 : m ≤ 4096) : fl m n true = !pw m := by
  have h := (PD_SU n m n (Nat.le_refl _) h1 h2).2
  unfold fl
  rw [h]
  have hz := St_zero (m - 1) (m - 1) (n - 1) (Nat.le_refl _)
  rw [show m - 1 + 1 = m by omega, ← pw_iff h3] at hz
  by_cases hp : pw m = true
  · rw [hp]
    have := hz.2 hp
    simp [this]
  · have hp' : pw m = false := by simpa using hp
    have : ¬ (St (m - 1) (n - 1)).1 = 0 := fun e => hp (hz.1 e)
    simp [hp', this]
end Tree
end Go.Proofs.YtlfmnedmbkpdbaaDoor

namespace Go.Proofs.YtlfmnedmbkpdbaaDoor
open Go.RowKit
set_option maxRecDepth 100000 in
set_option maxHeartbeats 800000 in
theorem ones64_any (m : Nat) (h : m ≤ 4096) (w : World) : Calls Tryd.prog 61 #[.int .u64 (m : Int)] w fun e w' => ∃ c : Int, e = .returned (.int .i64 c) ∧ w' = w ∧ (c == 1) = Tree.pw m := by
  go_enter Tryd.func61, Tryd.ntmps61
  go_wp2
  go_ret
  refine ⟨_, rfl, rfl, ?_⟩
  clear w
  revert h
  revert m
  decide +kernel
set_option maxRecDepth 100000 in
set_option maxHeartbeats 400000 in
theorem ones_any (m : Nat) (h : m ≤ 4096) (w : World) : Calls Tryd.prog 39 #[.int .u64 (m : Int)] w fun e w' => ∃ c : Int, e = .returned (.int .i64 c) ∧ w' = w ∧ (c == 1) = Tree.pw m := by
  have i1 := ones64_any m h w
  go_enter Tryd.func39, Tryd.ntmps39
  go_wp2_with (go_at_call 61; fail)
  refine i1.mono ?_
  rintro e w1 ⟨c, rfl, rfl, hc⟩
  go_wp2
  go_ret
  exact ⟨c, rfl, rfl, hc⟩
end Go.Proofs.YtlfmnedmbkpdbaaDoor

namespace Go.Proofs.YtlfmnedmbkpdbaaDoor
open Go.RowKit
theorem fvs_take : ∀ (l : List Tree.Fork) (k : Nat), fvs (l.take k) = (fvs l).take (k * 4)
  | [], k => by simp [fvs]
  | f :: l, 0 => by simp [fvs]
  | f :: l, k + 1 => by
    have h4 : (fcs f).length = 4 := rfl
    rw [List.take_succ_cons, fvs, fvs, fvs_take l k, List.take_append, h4, show (k + 1) * 4 - 4 = k * 4 by omega]
    congr 1
    exact (List.take_of_length_le (by omega)).symm
theorem cutE_take : ∀ (m : Nat) (l : List Tree.Fork) (k : Nat), k ≤ l.length → (∀ j f, j < k → l[j]? = some f → Tree.fkE f ≠ m) → (k = l.length ∨ ∃ f, l[k]? = some f ∧ Tree.fkE f = m) → Tree.cutE m l = l.take k
  | m, [], k, hk, _, _ => by simp at hk; subst hk; rfl
  | m, f :: l, 0, _, _, h => by
    rcases h with h | ⟨g, h1, h2⟩
    · simp at h
    · simp at h1
      subst h1
      rw [Tree.cutE_stop h2, List.take_zero]
  | m, f :: l, k + 1, hk, h, h' => by
    rw [Tree.cutE_go (h 0 f (by omega) rfl), List.take_succ_cons, cutE_take m l k (by simpa using hk) (fun j g hj hg => h (j + 1) g (by omega) (by simpa using hg)) (by
      rcases h' with h' | ⟨g, h1, h2⟩
      · exact .inl (by simpa using h')
      · exact .inr ⟨g, by simpa using h1, h2⟩)]
set_option maxRecDepth 100000 in
set_option maxHeartbeats 2000000 in
theorem proofForks_any (n m : Nat) (hn : n ≤ 1099511627776) (hm : 1 ≤ m) (hmn : m ≤ n) (w : World) :
    Calls Tryd.prog 40 #[.int .i64 (n : Int), .int .i64 (m : Int)] w fun e w' => ∃ v, e = .returned v ∧ Fks w' w.heap.size v (Tree.cutE m (Tree.fks n 0 n (m - 1))) ∧ Below w.heap.size w w' := by
  have hlen : (Tree.fks n 0 n (m - 1)).length ≤ 1000 := by rw [fks_length]; exact D_len hn (by omega)
  have i1 := pathForks_any n (m - 1) hn (by omega) hlen w
  obtain ⟨m', hm'⟩ : ∃ m', Hid (m - 1 = m') := ⟨_, rfl⟩
  rw [hm'.out] at i1 hlen ⊢
  obtain ⟨fk, hfk⟩ : ∃ fk, Tree.fks n 0 n m' = fk := ⟨_, rfl⟩
  rw [hfk] at i1 hlen ⊢
  clear hfk
  have e1 : (m : Int) - 1 = (m' : Int) := by have := hm'.out; omega
  have HL := hid hlen
  clear hlen
  go_enter Tryd.func40, Tryd.ntmps40
  go_wp2_with (go_at_call 32; fail)
  refine i1.mono ?_
  rintro e w1 ⟨v1, rfl, F1, b1⟩
  obtain ⟨a1, c1, rfl, k1, k2⟩ := F1.1.shape
  have HF := hid F1
  have HB := hid b1
  clear F1 b1 i1
  obtain ⟨nf, hnf⟩ : ∃ nf, Hid (fk.length = nf) := ⟨_, rfl⟩
  rw [hnf.out] at HF k1 HL ⊢
  have hl1 := HL.out
  go_wp2
  go_loopw [14] (fun i w' => ∃ k : Nat, i = .int .i64 (k : Int) ∧ k ≤ nf ∧ Hid (∀ j f, j < k → fk[j]? = some f → Tree.fkE f ≠ m) ∧ Hid (Below w1.heap.size w1 w')) (fun i _ => nf - (intOf i).toNat)
  case atStart => exact ⟨0, rfl, by omega, hid (fun j f hj => by omega), hid (Below.refl _ _)⟩
  case round =>
    obtain ⟨k, rfl, hk, hno, hb⟩ := hrel
    by_cases hkn : k < nf
    · have c0 : (k : Int) < (nf : Int) := by omega
      obtain ⟨f, hf⟩ : ∃ f, Hid (fk[k]? = some f) := ⟨_, List.getElem?_eq_getElem (by have := hnf.out; omega)⟩
      have HF2 := HF.out.below hb.out
      obtain ⟨z1, z2, z3, z4⟩ := fvs_get fk k f hf.out
      have HM := HF2.1
      rw [hnf.out] at HM
      obtain ⟨g, cc, ev, x0, hgl⟩ := HM.cell z1
      obtain ⟨g', cc', ev', x1, _⟩ := HM.cell z2
      obtain ⟨g'', cc'', ev'', x2, _⟩ := HM.cell z3
      obtain ⟨g3, cc3, ev3, x3, _⟩ := HM.cell z4
      injection ev with ea eb ec
      injection ev' with ea' eb' ec'
      injection ev'' with ea'' eb'' ec''
      injection ev3 with ea3 eb3 ec3
      subst ea
      injection ea' with ea'
      injection ea' with ea'
      injection ea'' with ea''
      injection ea'' with ea''
      injection ea3 with ea3
      injection ea3 with ea3
      subst ea' ea'' ea3
      rw [Nat.mul_comm 4 k] at x0 x1 x2 x3
      clear ec ec' ec'' ec3 eb eb' eb'' eb3 z1 z2 z3 z4 HM HF2
      have HB2 := hid (HB.out.trans (hb.out.mono HB.out.size))
      by_cases hq : Tree.fkE f = m
      · have q1 : ((Tree.fkE f : Int) == (m : Int)) = true := by rw [hq]; simp
        have q2 : (Tree.fkE f == m) = true := by rw [hq]; simp
        have hcut := cutE_take m fk k (by have := hnf.out; omega) hno.out (.inr ⟨f, hf.out, hq⟩)
        have HC : Hid (Fks wr w.heap.size (.slice (some ⟨g, 0, none⟩) k c1) (Tree.cutE m fk)) := by
          have h1 := (HF.out.below hb.out)
          have h2 := h1.1
          rw [hnf.out] at h2
          have h3 := h2.cut (show k ≤ nf by omega)
          rw [← fvs_take] at h3
          have h4 : (fk.take k).length = k := by rw [List.length_take]; have := hnf.out; omega
          unfold Hid
          rw [hcut]
          refine ⟨?_, h1.2⟩
          rw [h4]
          exact h3
        have m1 : (k : Int) ≤ (nf : Int) := by omega
        have m2 : (k : Int) ≤ (c1 : Int) := by omega
        clear hcut hf hno hq
        go_wp2
        go_ret
        exact ⟨_, rfl, HC.out.below ((Below.refl _ _).alloc (Nat.le_refl _) _), HB2.out.trans (((Below.refl _ _).alloc (Nat.le_refl _) _).mono HB2.out.size)⟩
      · have q1 : ((Tree.fkE f : Int) == (m : Int)) = false := beq_false_of_ne (by omega)
        have q2 : (Tree.fkE f == m) = false := beq_false_of_ne hq
        have hno' : Hid (∀ j f, j < k + 1 → fk[j]? = some f → Tree.fkE f ≠ m) := fun j f' hj hf' => by
          by_cases hjk : j < k
          · exact hno.out j f' hjk hf'
          · obtain rfl : j = k := by omega
            rw [hf.out] at hf'
            injection hf' with hf'
            rw [← hf']; exact hq
        clear hf hno hq
        go_wp2
        exact ⟨⟨k + 1, by go_num, by omega, hno', hid (hb.out.trans (((Below.refl _ _).alloc (Nat.le_refl _) _).mono hb.out.size))⟩, by simp [intOf]; omega⟩
    · obtain rfl : k = nf := by omega
      have c0 : ¬ (k : Int) < (k : Int) := by omega
      have hcut := cutE_take m fk k (by have := hnf.out; omega) hno.out (.inl hnf.out.symm)
      have HC : Hid (Fks wr w.heap.size (.slice a1 k c1) (Tree.cutE m fk)) := by
        unfold Hid
        rw [hcut, List.take_of_length_le (by have := hnf.out; omega)]
        exact HF.out.below hb.out
      have HB2 := hid (HB.out.trans (hb.out.mono HB.out.size))
      clear hcut hno
      go_wp2
      go_ret
      exact ⟨_, rfl, HC.out, HB2.out⟩
end Go.Proofs.YtlfmnedmbkpdbaaDoor
