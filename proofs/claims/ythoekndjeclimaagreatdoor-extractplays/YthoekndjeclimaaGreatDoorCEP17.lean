import Derived.Test.YthoekndjeclimaaGreatDoorCEP16
namespace Go.Proofs.YthoekndjeclimaaGreatDoor
open Go.RowKit
/-- a proof that is accepted -/
structure Con (M : Nat) (l : List (List UInt8)) (old : List UInt8) (P : List (List UInt8)) : Prop where
  ge : 1 ≤ M
  le : M ≤ l.length
  len : P.length = Tree.pl M l.length true
  o32 : old.length = 32
  hs : Tree.Hs P
  up : Tree.bth M l.length true old P = (old, Tree.root l)
theorem Con.of {m : Int} {l : List (List UInt8)} {old : List UInt8} {P : List (List UInt8)} (h : conOf4 m (l.length : Int) old (Tree.root l) P = 0) : ∃ M : Nat, m = M ∧ Con M l old P := by
  unfold conOf4 at h
  by_cases h1 : (rootsOf4 m l.length old P).2 = 0
  · rw [if_pos h1] at h
    split at h
    · split at h
      · rename_i _ h3
        unfold rootsOf4 at h1 h3
        by_cases h4 : (prfLen m l.length).2 = 0
        · rw [if_pos h4] at h1 h3
          obtain ⟨a1, a2, a3, a4⟩ := prfLen_ok h4
          by_cases h5 : chk old P (prfLen m l.length).1 = 0
          · rw [if_pos h5] at h3
            obtain ⟨c1, c2, c3⟩ := chk_len h5
            rw [a4, Int.toNat_natCast] at c1
            rw [Int.toNat_natCast] at h3
            refine ⟨m.toNat, by omega, by omega, by omega, ?_, c2, ?_, h3⟩
            · have c4 : (P.length : Int) = ((Tree.pl m.toNat l.length true : Nat) : Int) := c1
              omega
            · rw [List.all_eq_true] at c3
              exact fun x hx => by simpa using c3 x hx
          · rw [if_neg h5] at h1
            exact absurd h1 h5
        · rw [if_neg h4] at h1
          exact absurd h1 h4
      · cases h
    · cases h
  · rw [if_neg h1] at h
    exact absurd h h1
/-- X4 -/
def conO (l : List (List UInt8)) (m : Int) (old : List UInt8) (P : List (List UInt8)) : (List UInt8 × List UInt8) × Int :=
  if wrg l = 0 then (if conOf4 m (l.length : Int) old (Tree.root l) P = 0 then (if Tree.root (l.take m.toNat) = old then (([], []), 60) else match Tree.hi (Tree.txs (Tree.frm m.toNat l.length old P) (Tree.PD m.toNat l.length) (Tree.bsd m.toNat l.length P)) (Tree.txs (Tree.stt l.length m.toNat l) (Tree.PD m.toNat l.length) (Tree.own l.length m.toNat l)) with | some p => (p, 0) | none => (([], []), 60)) else (([], []), 61)) else (([], []), 1)
theorem Con.lt {M : Nat} {l : List (List UInt8)} {old : List UInt8} {P : List (List UInt8)} (h : Con M l old P) (hne : Tree.root (l.take M) ≠ old) : M < l.length := by
  refine Nat.lt_of_le_of_ne h.le fun e => hne ?_
  have h1 := h.up
  rw [← e, Tree.bth_same] at h1
  have h2 : (old, old) = (old, Tree.root l) := h1
  rw [e, List.take_length]
  exact (Prod.mk.inj h2).2.symm
set_option maxRecDepth 100000 in
set_option maxHeartbeats 2000000 in
theorem cons1_any (l : List (List UInt8)) (M : Nat) (old : List UInt8) (P : List (List UInt8)) (p q : List UInt8) (vl vp : Value) (w : World) (g0 g1 g2 g3 : Nat)
    (h0 : w.heap[g0]? = some (.cells #[vl] 22 (0, 0))) (h1 : w.heap[g1]? = some (.cells #[.int .i64 (M : Int)] 3 (0, 0))) (h2 : w.heap[g2]? = some (.cells #[sv old] 9 (0, 0))) (h3 : w.heap[g3]? = some (.cells #[vp] 22 (0, 0)))
    (a : Con M l old P) (ol : Okl l) (hlt : M < l.length) (hl : Lv w vl l) (hP : Lv w vp P) (hf : Tree.hi (Tree.txs (Tree.frm M l.length old P) (Tree.PD M l.length) (Tree.bsd M l.length P)) (Tree.txs (Tree.stt l.length M l) (Tree.PD M l.length) (Tree.own l.length M l)) = some (p, q)) (T : Tabs w) :
    Calls Tryz.prog 37 #[.pointer (some ⟨g0, 0, none⟩), .pointer (some ⟨g1, 0, none⟩), .pointer (some ⟨g2, 0, none⟩), .pointer (some ⟨g3, 0, none⟩)] w fun e w' => e = .panicked [{ v := prI p q, recovered := false }] ∧ Below w.heap.size w w' := by
  have i1 := partProof_any l M old P vl vp w p q hl hP ol a.ge hlt a.len a.o32 a.hs T hf
  obtain ⟨al, cl, rfl, _⟩ := hl
  obtain ⟨ap, cp, rfl, _⟩ := hP
  have c0 : w.cell? ⟨g0, 0, none⟩ = some (.slice al l.length cl) := by rw [cell_of_row _ _ _ _ _ _ h0]; rfl
  have c1 : w.cell? ⟨g1, 0, none⟩ = some (.int .i64 (M : Int)) := by rw [cell_of_row _ _ _ _ _ _ h1]; rfl
  have c2 : w.cell? ⟨g2, 0, none⟩ = some (.string ⟨old.toArray⟩) := by rw [cell_of_row _ _ _ _ _ _ h2]; rfl
  have c3 : w.cell? ⟨g3, 0, none⟩ = some (.slice ap P.length cp) := by rw [cell_of_row _ _ _ _ _ _ h3]; rfl
  rw [svS old] at i1
  clear hf T a ol hlt h0 h1 h2 h3
  generalize l.length = n at *
  generalize P.length = np at *
  go_enter Tryz.func37, Tryz.ntmps37
  go_wp2_with (go_at_call 38; fail)
  refine i1.mono ?_
  rintro e w1 ⟨rfl, k1⟩
  go_wp2
  exact ⟨rfl, rfl, k1⟩
set_option maxRecDepth 100000 in
set_option maxHeartbeats 4000000 in
theorem Cons_any (l : List (List UInt8)) (m : Int) (old : List UInt8) (P : List (List UInt8)) (vl vp : Value) (w : World) (hl : Lv w vl l) (hp : Lv w vp P) (T : Tabs w) :
    Calls Tryz.prog 11 #[vl, .int .i64 m, sv old, vp] w fun e w' => e = .returned (.tuple #[prP (conO l m old P).1.1 (conO l m old P).1.2, .int .i64 (conO l m old P).2]) ∧ Below w.heap.size w w' := by
  have HLL := hid hl
  have HLP := hid hp
  obtain ⟨al, cl, rfl, l1, l2, l3⟩ := hl
  obtain ⟨ap, cp, rfl, p1, p2, p3⟩ := hp
  obtain ⟨n, HN⟩ : ∃ n, Hid (l.length = n) := ⟨_, rfl⟩
  obtain ⟨np, HNP⟩ : ∃ n, Hid (P.length = n) := ⟨_, rfl⟩
  have i1 := fun w' (hb : Below w.heap.size w w') => Root_any l al cl w' l1 l2 (l3.below hb (Nat.le_refl _)) (T.below hb T.lt)
  have i2 := fun w' (hb : Below w.heap.size w w') => Consistency_any m (l.length : Int) old (Tree.root l) P ap cp w' (by omega) (p3.below hb (Nat.le_refl _)) (T.below hb T.lt)
  have i3 := fun (k : Nat) w' (hb : Below w.heap.size w w') => Root_any (l.take k) al cl w' (by rw [List.length_take]; omega) l2 ((l3.below hb (Nat.le_refl _)).take k) (T.below hb T.lt)
  obtain ⟨ra, za, hra0⟩ : ∃ r z, rootOut l = (r, z) := ⟨_, _, rfl⟩
  have HZA : Hid (wrg l = za) := by unfold Hid; rw [← rootOut_snd, hra0]
  have HRA := hid hra0
  rw [hra0, HN.out, svS] at i1
  rw [HNP.out, HN.out, svS, svS] at i2
  rw [HN.out] at HLL l1
  rw [HNP.out] at HLP p1
  rw [HN.out, HNP.out, svS old]
  have HT := hid T
  obtain ⟨zb, hzb⟩ : ∃ z, conOf4 m (n : Int) old (Tree.root l) P = z := ⟨_, rfl⟩
  rw [hzb] at i2
  have HZB := hid hzb
  obtain ⟨W1, W2, W3⟩ := allocs_ok [.cells #[.slice al n cl] 22, .cells #[.int .i64 m] 3, .cells #[.string ⟨old.toArray⟩] 9, .cells #[.slice ap np cp] 22, .cells #[.string ⟨#[]⟩, .string ⟨#[]⟩] 26] w
  obtain ⟨w0, hw0⟩ : ∃ w0, (((((w.alloc (.cells #[.slice al n cl] 22)).alloc (.cells #[.int .i64 m] 3)).alloc (.cells #[.string ⟨old.toArray⟩] 9)).alloc (.cells #[.slice ap np cp] 22)).alloc (.cells #[.string ⟨#[]⟩, .string ⟨#[]⟩] 26)) = w0 := ⟨_, rfl⟩
  rw [show allocs w [.cells #[.slice al n cl] 22, .cells #[.int .i64 m] 3, .cells #[.string ⟨old.toArray⟩] 9, .cells #[.slice ap np cp] 22, .cells #[.string ⟨#[]⟩, .string ⟨#[]⟩] 26] = w0 from hw0] at W1 W2 W3
  have r0 : w0.heap[w.heap.size]? = some (.cells #[.slice al n cl] 22 (0, 0)) := W3 0 _ rfl
  have r1 : w0.heap[w.heap.size + 1]? = some (.cells #[.int .i64 m] 3 (0, 0)) := W3 1 _ rfl
  have r2 : w0.heap[w.heap.size + 1 + 1]? = some (.cells #[.string ⟨old.toArray⟩] 9 (0, 0)) := W3 2 _ rfl
  have r3 : w0.heap[w.heap.size + 1 + 1 + 1]? = some (.cells #[.slice ap np cp] 22 (0, 0)) := W3 3 _ rfl
  have r4 : w0.heap[w.heap.size + 1 + 1 + 1 + 1]? = some (.cells #[.string ⟨#[]⟩, .string ⟨#[]⟩] 26 (0, 0)) := W3 4 _ rfl
  have HB0 := hid W2
  have CL : ∀ w', Below w0.heap.size w0 w' → w'.heap[w.heap.size]? = some (.cells #[.slice al n cl] 22 (0, 0)) ∧ w'.heap[w.heap.size + 1]? = some (.cells #[.int .i64 m] 3 (0, 0)) ∧ w'.heap[w.heap.size + 1 + 1]? = some (.cells #[.string ⟨old.toArray⟩] 9 (0, 0)) ∧ w'.heap[w.heap.size + 1 + 1 + 1]? = some (.cells #[.slice ap np cp] 22 (0, 0)) ∧ w'.heap[w.heap.size + 1 + 1 + 1 + 1]? = some (.cells #[.string ⟨#[]⟩, .string ⟨#[]⟩] 26 (0, 0)) := fun w' hb => ⟨(hb.block _ (lt_of_heap r0)).trans r0, (hb.block _ (lt_of_heap r1)).trans r1, (hb.block _ (lt_of_heap r2)).trans r2, (hb.block _ (lt_of_heap r3)).trans r3, (hb.block _ (lt_of_heap r4)).trans r4⟩
  have c0 : w0.cell? ⟨w.heap.size, 0, none⟩ = some (.slice al n cl) := by rw [cell_of_row _ _ _ _ _ _ r0]; rfl
  have c1 : w0.cell? ⟨w.heap.size + 1, 0, none⟩ = some (.int .i64 m) := by rw [cell_of_row _ _ _ _ _ _ r1]; rfl
  have c2 : w0.cell? ⟨w.heap.size + 1 + 1, 0, none⟩ = some (.string ⟨old.toArray⟩) := by rw [cell_of_row _ _ _ _ _ _ r2]; rfl
  have c3 : w0.cell? ⟨w.heap.size + 1 + 1 + 1, 0, none⟩ = some (.slice ap np cp) := by rw [cell_of_row _ _ _ _ _ _ r3]; rfl
  have j1 := i1 w0 W2
  clear r0 r1 r2 r3 r4 W1 W2 W3 hzb hra0 p3 l3 T i1
  go_enter Tryz.func11, Tryz.ntmps11
  go_wp2_with (go_at_call 16; fail)
  refine j1.mono ?_
  rintro e w1 ⟨rfl, b1⟩
  clear j1
  obtain ⟨X0, X1, X2, X3, X4⟩ := CL w1 b1
  have d0 : w1.cell? ⟨w.heap.size, 0, none⟩ = some (.slice al n cl) := by rw [cell_of_row _ _ _ _ _ _ X0]; rfl
  have d1 : w1.cell? ⟨w.heap.size + 1, 0, none⟩ = some (.int .i64 m) := by rw [cell_of_row _ _ _ _ _ _ X1]; rfl
  have d2 : w1.cell? ⟨w.heap.size + 1 + 1, 0, none⟩ = some (.string ⟨old.toArray⟩) := by rw [cell_of_row _ _ _ _ _ _ X2]; rfl
  have d3 : w1.cell? ⟨w.heap.size + 1 + 1 + 1, 0, none⟩ = some (.slice ap np cp) := by rw [cell_of_row _ _ _ _ _ _ X3]; rfl
  have HX4 := hid X4
  have HB1 := hid (HB0.out.trans (b1.mono HB0.out.size))
  have Hb1 := hid b1
  clear X0 X1 X2 X3 X4 b1 c0 c1 c2 c3
  by_cases hza : za = 0
  · have e1 : (za != 0) = false := by subst hza; rfl
    have ol := Okl.of (HZA.out.trans hza)
    have HOL := hid ol
    have hrae : Hid (ra = Tree.root l) := by have := HRA.out; rw [ol.out] at this; exact (Prod.mk.inj this).1.symm
    have j2 := i2 w1 HB1.out
    rw [← hrae.out] at j2
    clear i2 hza ol
    go_wp2_with (go_at_call 36; fail)
    refine j2.mono ?_
    rintro e w2 ⟨rfl, b2⟩
    clear j2
    have hb2 := Hb1.out.trans (b2.mono Hb1.out.size)
    obtain ⟨X0, X1, X2, X3, X4⟩ := CL w2 hb2
    have g0 : w2.cell? ⟨w.heap.size, 0, none⟩ = some (.slice al n cl) := by rw [cell_of_row _ _ _ _ _ _ X0]; rfl
    have g1 : w2.cell? ⟨w.heap.size + 1, 0, none⟩ = some (.int .i64 m) := by rw [cell_of_row _ _ _ _ _ _ X1]; rfl
    have g2 : w2.cell? ⟨w.heap.size + 1 + 1, 0, none⟩ = some (.string ⟨old.toArray⟩) := by rw [cell_of_row _ _ _ _ _ _ X2]; rfl
    have g3 : w2.cell? ⟨w.heap.size + 1 + 1 + 1, 0, none⟩ = some (.slice ap np cp) := by rw [cell_of_row _ _ _ _ _ _ X3]; rfl
    have HY4 := hid X4
    have HB2 := hid (HB1.out.trans (b2.mono HB1.out.size))
    have Hb2 := hid hb2
    clear X0 X1 X2 X3 X4 b2 hb2 Hb1 HB1 HX4 d0 d1 d2 d3
    by_cases hzb : zb = 0
    · have e2 : (zb != 0) = false := by subst hzb; rfl
      have hac : Hid (conOf4 m (l.length : Int) old (Tree.root l) P = 0) := by unfold Hid; rw [HN.out, HZB.out, hzb]
      clear hzb
      obtain ⟨M, rfl, ic⟩ := Con.of hac.out
      have hMn := ic.le
      rw [HN.out] at hMn
      have HIC := hid ic
      have j3 := i3 M w2 HB2.out
      rw [(HOL.out.take M).out, List.length_take, HN.out, Nat.min_eq_left hMn, svS] at j3
      obtain ⟨rb, hrb⟩ : ∃ rb, Hid (Tree.root (l.take M) = rb) := ⟨_, rfl⟩
      rw [hrb.out] at j3
      have m1 : (M : Int) ≤ (n : Int) := by omega
      have m2 : (M : Int) ≤ (cl : Int) := by omega
      clear i3 ic
      go_wp2_with (go_at_call 16; fail)
      refine j3.mono ?_
      rintro e w3 ⟨rfl, b3⟩
      clear j3
      have hb3 := Hb2.out.trans (b3.mono Hb2.out.size)
      obtain ⟨X0, X1, X2, X3, X4⟩ := CL w3 hb3
      have k0 : w3.cell? ⟨w.heap.size, 0, none⟩ = some (.slice al n cl) := by rw [cell_of_row _ _ _ _ _ _ X0]; rfl
      have k1 : w3.cell? ⟨w.heap.size + 1, 0, none⟩ = some (.int .i64 (M : Int)) := by rw [cell_of_row _ _ _ _ _ _ X1]; rfl
      have k2 : w3.cell? ⟨w.heap.size + 1 + 1, 0, none⟩ = some (.string ⟨old.toArray⟩) := by rw [cell_of_row _ _ _ _ _ _ X2]; rfl
      have k3 : w3.cell? ⟨w.heap.size + 1 + 1 + 1, 0, none⟩ = some (.slice ap np cp) := by rw [cell_of_row _ _ _ _ _ _ X3]; rfl
      have HZ4 := hid X4
      have HX := hid (And.intro X0 (And.intro X1 (And.intro X2 X3)))
      have HB3 := hid (HB2.out.trans (b3.mono HB2.out.size))
      clear X0 X1 X2 X3 X4 b3 hb3 Hb2 HB2 HY4 g0 g1 g2 g3
      by_cases hro : rb = old
      · have e3 : (rb == old) = true := by simpa using hro
        have HO2 : Hid (conO l M old P = (([], []), 60)) := by unfold conO; unfold Hid; rw [if_pos HOL.out.wrg, if_pos hac.out, Int.toNat_natCast, if_pos (hrb.out.trans hro)]
        clear hro
        go_wp2_with ((with_reducible show wpList _ _ _ (Oper.mk _ (Op.store 26 _ _) _ _ _ _ :: _) _ _); go_must (refine wpList_store_row rfl 26 _ _ rfl (w.heap.size + 1 + 1 + 1 + 1) _ rfl rfl 26 _ HZ4.out sizePr rfl (onePr [] []) ?_))
        refine bodyPost_ret (results_row6 rfl _ _ (w.heap.size + 1 + 1 + 1 + 1) 26 _ (0, 0) _ rfl (setRow_heap _ _ _ _ _ _ HZ4.out) Tryz.underlying26 rfl sizePr) rfl ?_
        exact ⟨by rw [HO2.out]; rfl, Below.setRow HB3.out (by omega) _⟩
      · have e3 : (rb == old) = false := by simpa using hro
        have hne : Tree.root (l.take M) ≠ old := by rw [hrb.out]; exact hro
        have hlt := HIC.out.lt hne
        obtain ⟨p, q, h1, _, _⟩ := Tree.con_some HIC.out.ge HIC.out.le HIC.out.len HIC.out.o32 HIC.out.hs HOL.out.1 HIC.out.up (Ne.symm hne)
        have HO2 : Hid (conO l M old P = ((p, q), 0)) := by unfold conO; unfold Hid; rw [if_pos HOL.out.wrg, if_pos hac.out, Int.toNat_natCast, if_neg hne, h1]
        have i4 := foundC_any p q #[.pointer (some ⟨w.heap.size, 0, none⟩), .pointer (some ⟨w.heap.size + 1, 0, none⟩), .pointer (some ⟨w.heap.size + 1 + 1, 0, none⟩), .pointer (some ⟨w.heap.size + 1 + 1 + 1, 0, none⟩)] w3 (fun w' hb' => by
          obtain ⟨x0, x1, x2, x3⟩ := HX.out
          have hbb := HB3.out.trans (hb'.mono HB3.out.size)
          exact cons1_any l M old P p q _ _ w' _ _ _ _ ((hb'.block _ (lt_of_heap x0)).trans x0) ((hb'.block _ (lt_of_heap x1)).trans x1) ((hb'.block _ (lt_of_heap x2)).trans x2) ((hb'.block _ (lt_of_heap x3)).trans x3) HIC.out HOL.out hlt (HLL.out.below hbb) (HLP.out.below hbb) h1 (HT.out.below hbb HT.out.lt))
        clear hne hro hlt h1 hMn
        go_wp2_with (go_at_call 21; fail)
        refine i4.mono ?_
        rintro e w4 ⟨rfl, k4⟩
        have HR4 := hid ((k4.block _ (lt_of_heap HZ4.out)).trans HZ4.out)
        have HB4 := hid (HB3.out.trans (k4.mono HB3.out.size))
        clear i4 k4
        go_wp2_with ((with_reducible show wpList _ _ _ (Oper.mk _ (Op.store 26 _ _) _ _ _ _ :: _) _ _); go_must (refine wpList_store_row rfl 26 _ _ rfl (w.heap.size + 1 + 1 + 1 + 1) _ rfl rfl 26 _ HR4.out sizePr rfl (onePr p q) ?_))
        refine bodyPost_ret (results_row6 rfl _ _ (w.heap.size + 1 + 1 + 1 + 1) 26 _ (0, 0) _ rfl (setRow_heap _ _ _ _ _ _ HR4.out) Tryz.underlying26 rfl sizePr) rfl ?_
        exact ⟨by rw [HO2.out]; rfl, Below.setRow HB4.out (by omega) _⟩
    · have e2 : (zb != 0) = true := by simpa using hzb
      have HO2 : Hid (conO l m old P = (([], []), 61)) := by unfold conO; unfold Hid; rw [if_pos HOL.out.wrg, if_neg (by rw [HN.out, HZB.out]; exact hzb)]
      go_wp2_with ((with_reducible show wpList _ _ _ (Oper.mk _ (Op.store 26 _ _) _ _ _ _ :: _) _ _); go_must (refine wpList_store_row rfl 26 _ _ rfl (w.heap.size + 1 + 1 + 1 + 1) _ rfl rfl 26 _ HY4.out sizePr rfl (onePr [] []) ?_))
      refine bodyPost_ret (results_row6 rfl _ _ (w.heap.size + 1 + 1 + 1 + 1) 26 _ (0, 0) _ rfl (setRow_heap _ _ _ _ _ _ HY4.out) Tryz.underlying26 rfl sizePr) rfl ?_
      exact ⟨by rw [HO2.out]; rfl, Below.setRow HB2.out (by omega) _⟩
  · have e1 : (za != 0) = true := by simpa using hza
    have HO2 : Hid (conO l m old P = (([], []), 1)) := by unfold conO; unfold Hid; rw [if_neg (by rw [HZA.out]; exact hza)]
    go_wp2_with ((with_reducible show wpList _ _ _ (Oper.mk _ (Op.store 26 _ _) _ _ _ _ :: _) _ _); go_must (refine wpList_store_row rfl 26 _ _ rfl (w.heap.size + 1 + 1 + 1 + 1) _ rfl rfl 26 _ HX4.out sizePr rfl (onePr [] []) ?_))
    refine bodyPost_ret (results_row6 rfl _ _ (w.heap.size + 1 + 1 + 1 + 1) 26 _ (0, 0) _ rfl (setRow_heap _ _ _ _ _ _ HX4.out) Tryz.underlying26 rfl sizePr) rfl ?_
    exact ⟨by rw [HO2.out]; rfl, Below.setRow HB1.out (by omega) _⟩
end Go.Proofs.YthoekndjeclimaaGreatDoor
