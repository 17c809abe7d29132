import Derived.Laws.ResultCell
import Derived.Test.YthoekndjeclimaaGreatDoorCI10
namespace Go.Proofs.YthoekndjeclimaaGreatDoor
open Go.RowKit
theorem results_row6 {P : Program} {fn : Func} {p u : Tmp} {ty : TypeId} (h : fn.results = #[.cell p ty, .tmp u]) (tmps : Array Value) (w : World) (g : Nat) (t : TypeId) (cs : Array Value) (fr : Nat × Nat) (d : TypeDesc)
    (hp : tmps.getD p undef = .pointer (some ⟨g, 0, none⟩)) (hg : w.heap[g]? = some (.cells cs t fr))
    (hu : P.underlying ty = some d) (hd : (match d with | .struct _ | .array _ _ => true | _ => false) = true) (hi : (P.info? ty).map (·.size) = some cs.size) :
    (results fn tmps).run P w = .ok (.tuple #[.agg cs, tmps.getD u undef]) w := by
  rw [results_cell_tmp h, hp]
  simp [asAddr, run_loadVar_row w g t ty cs fr d hg hu hd hi, Result.andThen]
theorem sizePr : (Tryz.prog.info? 26).map (·.size) = some 2 := by kernel_rfl
theorem onePr (p q : List UInt8) : (#[sv p, sv q].all (·.oneCell')) = true := all_oneCell_toArray (cs := [sv p, sv q]) fun v hv => by
  simp only [List.mem_cons, List.not_mem_nil, or_false] at hv
  rcases hv with rfl | rfl <;> rfl
/-- three new blocks -/
theorem three6 (w : World) (a b c : Obj) : ∃ w0, ((w.alloc a).alloc b).alloc c = w0 ∧ w0.heap[w.heap.size]? = some a ∧ w0.heap[w.heap.size + 1]? = some b ∧ w0.heap[w.heap.size + 2]? = some c ∧ Below w.heap.size w w0 ∧ w0.heap.size = w.heap.size + 3 := by
  have z1 := size_alloc w a
  have z2 := size_alloc (w.alloc a) b
  have z3 := size_alloc ((w.alloc a).alloc b) c
  refine ⟨_, rfl, ?_, ?_, heap_alloc_at ((w.alloc a).alloc b) c _ (by omega), ?_, by omega⟩
  · rw [Below.heap_alloc _ c _ (by omega), Below.heap_alloc _ b _ (by omega)]; exact heap_alloc_new w a
  · rw [Below.heap_alloc _ c _ (by omega)]; exact heap_alloc_at (w.alloc a) b _ z1
  · exact (((Below.refl w.heap.size w).alloc (Nat.le_refl _) a).alloc (by omega) b).alloc (by omega) c
/-- X2 -/
def lvsO (a b : List (List UInt8)) : (List UInt8 × List UInt8) × Int :=
  if a.length = b.length ∧ wrg a = 0 ∧ wrg b = 0 then (if a = b ∨ Tree.root a ≠ Tree.root b then (([], []), 60) else match Tree.partF a.length a b with | some p => (p, 0) | none => (([], []), 60)) else (([], []), 1)
set_option maxRecDepth 100000 in
set_option maxHeartbeats 4000000 in
theorem leaves1_any (A B : List (List UInt8)) (p q : List UInt8) (va vb : Value) (w : World) (g h : Nat) (hg : w.heap[g]? = some (.cells #[va] 22 (0, 0))) (hh : w.heap[h]? = some (.cells #[vb] 22 (0, 0))) (hA : Lv w va A) (hB : Lv w vb B) (oA : Okl A) (oB : Okl B) (hl : A.length = B.length) (hp : Tree.partF A.length A B = some (p, q)) (T : Tabs w) :
    Calls Tryz.prog 30 #[.pointer (some ⟨g, 0, none⟩), .pointer (some ⟨h, 0, none⟩)] w fun e w' => e = .panicked [{ v := prI p q, recovered := false }] ∧ Below w.heap.size w w' := by
  have i1 := partLeaves_any A B p q A.length va vb w hA hB oA oB hl (Nat.le_refl _) hp T
  obtain ⟨a, ca, rfl, _⟩ := hA
  obtain ⟨b, cb, rfl, _⟩ := hB
  have c0 : w.cell? ⟨g, 0, none⟩ = some (.slice a A.length ca) := by rw [cell_of_row _ _ _ _ _ _ hg]; rfl
  have c1 : w.cell? ⟨h, 0, none⟩ = some (.slice b B.length cb) := by rw [cell_of_row _ _ _ _ _ _ hh]; rfl
  clear hp oA oB T hl
  generalize A.length = n at *
  generalize B.length = m at *
  go_enter Tryz.func30, Tryz.ntmps30
  go_wp2_with (go_at_call 31; fail)
  refine i1.mono ?_
  rintro e w1 ⟨rfl, k1⟩
  go_wp2
  exact ⟨rfl, rfl, k1⟩
theorem rootOut_snd (l : List (List UInt8)) : (rootOut l).2 = wrg l := by
  unfold rootOut
  split
  · rename_i h; rw [h]
  · rfl
set_option maxRecDepth 100000 in
set_option maxHeartbeats 4000000 in
theorem Leaves_any (A B : List (List UInt8)) (va vb : Value) (w : World) (hA : Lv w va A) (hB : Lv w vb B) (T : Tabs w) :
    Calls Tryz.prog 9 #[va, vb] w fun e w' => e = .returned (.tuple #[prP (lvsO A B).1.1 (lvsO A B).1.2, .int .i64 (lvsO A B).2]) ∧ Below w.heap.size w w' := by
  obtain ⟨a, ca, rfl, a1, a2, a3⟩ := hA
  obtain ⟨b, cb, rfl, b1, b2, b3⟩ := hB
  obtain ⟨w0, hw0, r0, r1, r2, B0, z0⟩ := three6 w (.cells #[.slice a A.length ca] 22) (.cells #[.slice b B.length cb] 22) (.cells #[.string ⟨#[]⟩, .string ⟨#[]⟩] 26)
  have i1 := Root_any A a ca w0 a1 a2 (a3.below B0 (Nat.le_refl _)) (T.below B0 T.lt)
  have i2 := fun w' (hb : Below w.heap.size w w') => Root_any B b cb w' b1 b2 (b3.below hb (Nat.le_refl _)) (T.below hb T.lt)
  have c0 : w0.cell? ⟨w.heap.size, 0, none⟩ = some (.slice a A.length ca) := by rw [cell_of_row _ _ _ _ _ _ r0]; rfl
  obtain ⟨ra, za, hra0⟩ : ∃ r z, rootOut A = (r, z) := ⟨_, _, rfl⟩
  obtain ⟨rb, zb, hrb0⟩ : ∃ r z, rootOut B = (r, z) := ⟨_, _, rfl⟩
  have HZA : Hid (wrg A = za) := by unfold Hid; rw [← rootOut_snd, hra0]
  have HZB : Hid (wrg B = zb) := by unfold Hid; rw [← rootOut_snd, hrb0]
  rw [hra0, svS] at i1
  rw [hrb0, svS] at i2
  have HA0 := hid hra0
  have HB0 := hid hrb0
  have HA3 := hid a3
  have HB3 := hid b3
  have HT := hid T
  clear hra0 hrb0 a3 b3 T
  obtain ⟨n, HN⟩ : ∃ n, Hid (A.length = n) := ⟨_, rfl⟩
  obtain ⟨m, HM⟩ : ∃ m, Hid (B.length = m) := ⟨_, rfl⟩
  rw [HN.out] at i1 c0 r0 hw0 a1 ⊢
  rw [HM.out] at i2 r1 hw0 b1 ⊢
  go_enter Tryz.func9, Tryz.ntmps9
  go_wp2_with (go_at_call 16; fail)
  refine i1.mono ?_
  rintro e w1 ⟨rfl, k1⟩
  have R1 := (k1.block _ (lt_of_heap r1)).trans r1
  have c1 : w1.cell? ⟨w.heap.size + 1, 0, none⟩ = some (.slice b m cb) := by rw [cell_of_row _ _ _ _ _ _ R1]; rfl
  have i2 := i2 w1 (B0.trans (k1.mono B0.size))
  clear i1
  go_wp2_with (go_at_call 16; fail)
  refine i2.mono ?_
  rintro e w2 ⟨rfl, k2⟩
  have k12 := k1.trans (k2.mono k1.size)
  have r0' := (k12.block _ (lt_of_heap r0)).trans r0
  have r1' := (k12.block _ (lt_of_heap r1)).trans r1
  have HR2 := hid ((k12.block _ (lt_of_heap r2)).trans r2)
  have d0 : w2.cell? ⟨w.heap.size, 0, none⟩ = some (.slice a n ca) := by rw [cell_of_row _ _ _ _ _ _ r0']; rfl
  have d1 : w2.cell? ⟨w.heap.size + 1, 0, none⟩ = some (.slice b m cb) := by rw [cell_of_row _ _ _ _ _ _ r1']; rfl
  have HB2 := hid (B0.trans (k12.mono B0.size))
  have HR0 := hid r0'
  have HR1 := hid r1'
  clear i2 k1 k2 k12 R1 c1 c0 r0 r1 r2 B0 r0' r1'
  by_cases hnm : n = m
  · have e1 : ((n : Int) != (m : Int)) = false := by subst hnm; simp
    by_cases hza : za = 0
    · have e2 : (za != 0) = false := by subst hza; rfl
      by_cases hzb : zb = 0
      · have e3 : (zb != 0) = false := by subst hzb; rfl
        subst hza hzb hnm
        have oA := Okl.of HZA.out
        have oB := Okl.of HZB.out
        have hra : Hid (ra = Tree.root A) := by unfold Hid; have := HA0.out; rw [oA.out] at this; exact (Prod.mk.inj this).1.symm
        have hrb : Hid (rb = Tree.root B) := by unfold Hid; have := HB0.out; rw [oB.out] at this; exact (Prod.mk.inj this).1.symm
        have i3 := equalS_any A B a b ca cb w2 (HA3.out.below HB2.out (Nat.le_refl _)) (HB3.out.below HB2.out (Nat.le_refl _)) (by have := HN.out; omega) (by have := HM.out; omega)
        rw [HN.out, HM.out] at i3
        have hout : Hid (lvsO A B = if A = B ∨ Tree.root A ≠ Tree.root B then (([], []), (60 : Int)) else match Tree.partF A.length A B with | some p => (p, (0 : Int)) | none => (([], []), (60 : Int))) := by unfold lvsO; unfold Hid; rw [if_pos ⟨by rw [HN.out, HM.out], oA.wrg, oB.wrg⟩]
        go_wp2_with (go_at_call 20; fail)
        refine i3.mono ?_
        rintro e w3 ⟨rfl, k3⟩
        have HR2' := hid ((k3.block _ (lt_of_heap HR2.out)).trans HR2.out)
        have HB3' := hid (HB2.out.trans (k3.mono HB2.out.size))
        have HR0' := hid ((k3.block _ (lt_of_heap HR0.out)).trans HR0.out)
        have HR1' := hid ((k3.block _ (lt_of_heap HR1.out)).trans HR1.out)
        clear i3 k3 HR2 HB2 HR0 HR1 d0 d1
        by_cases hab : A = B
        · rw [decide_eq_true hab]
          have HO2 : Hid (lvsO A B = (([], []), 60)) := by unfold Hid; rw [hout.out, if_pos (.inl hab)]
          go_wp2_with ((with_reducible show wpList _ _ _ (Oper.mk _ (Op.store 26 _ _) _ _ _ _ :: _) _ _); go_must (refine wpList_store_row rfl 26 _ _ rfl (w.heap.size + 2) _ rfl rfl 26 _ HR2'.out sizePr rfl (onePr [] []) ?_))
          refine bodyPost_ret (results_row6 rfl _ _ (w.heap.size + 2) 26 _ (0, 0) _ rfl (setRow_heap _ _ _ _ _ _ HR2'.out) Tryz.underlying26 rfl sizePr) rfl ?_
          exact ⟨by rw [HO2.out]; rfl, Below.setRow HB3'.out (by omega) _⟩
        · rw [decide_eq_false hab]
          by_cases hrr : ra = rb
          · have e4 : (ra == rb) = true := by simpa using hrr
            have e5 : (ra != rb) = false := by rw [bne, e4]; rfl
            obtain ⟨p, q, h1, _, _⟩ := Tree.partF_some A.length A B (Nat.le_refl _) (by rw [HN.out, HM.out]) oA.1 oB.1 (by rw [← hra.out, ← hrb.out]; exact hrr) hab
            have HO2 : Hid (lvsO A B = ((p, q), 0)) := by unfold Hid; rw [hout.out, if_neg (by rw [← hra.out, ← hrb.out]; simp [hab, hrr]), h1]
            have i4 := foundL_any p q #[.pointer (some ⟨w.heap.size, 0, none⟩), .pointer (some ⟨w.heap.size + 1, 0, none⟩)] w3 (fun w' hb' => by
              have s0 := (hb'.block _ (lt_of_heap HR0'.out)).trans HR0'.out
              have s1 := (hb'.block _ (lt_of_heap HR1'.out)).trans HR1'.out
              exact leaves1_any A B p q _ _ w' _ _ s0 s1 ⟨a, ca, by rw [HN.out], by rw [HN.out]; exact a1, a2, HA3.out.below (HB3'.out.trans (hb'.mono HB3'.out.size)) (Nat.le_refl _)⟩ ⟨b, cb, by rw [HM.out], by rw [HM.out]; exact b1, b2, HB3.out.below (HB3'.out.trans (hb'.mono HB3'.out.size)) (Nat.le_refl _)⟩ oA oB (by rw [HN.out, HM.out]) h1 (HT.out.below (HB3'.out.trans (hb'.mono HB3'.out.size)) HT.out.lt))
            clear hrr
            go_wp2_with (go_at_call 21; fail)
            refine i4.mono ?_
            rintro e w4 ⟨rfl, k4⟩
            have HR4 := hid ((k4.block _ (lt_of_heap HR2'.out)).trans HR2'.out)
            have HB4 := hid (HB3'.out.trans (k4.mono HB3'.out.size))
            clear i4 k4
            go_wp2_with ((with_reducible show wpList _ _ _ (Oper.mk _ (Op.store 26 _ _) _ _ _ _ :: _) _ _); go_must (refine wpList_store_row rfl 26 _ _ rfl (w.heap.size + 2) _ rfl rfl 26 _ HR4.out sizePr rfl (onePr p q) ?_))
            refine bodyPost_ret (results_row6 rfl _ _ (w.heap.size + 2) 26 _ (0, 0) _ rfl (setRow_heap _ _ _ _ _ _ HR4.out) Tryz.underlying26 rfl sizePr) rfl ?_
            exact ⟨by rw [HO2.out]; rfl, Below.setRow HB4.out (by omega) _⟩
          · have e4 : (ra == rb) = false := by simpa using hrr
            have e5 : (ra != rb) = true := by rw [bne, e4]; rfl
            have HO2 : Hid (lvsO A B = (([], []), 60)) := by unfold Hid; rw [hout.out, if_pos (.inr (by rw [← hra.out, ← hrb.out]; exact hrr))]
            go_wp2_with ((with_reducible show wpList _ _ _ (Oper.mk _ (Op.store 26 _ _) _ _ _ _ :: _) _ _); go_must (refine wpList_store_row rfl 26 _ _ rfl (w.heap.size + 2) _ rfl rfl 26 _ HR2'.out sizePr rfl (onePr [] []) ?_))
            refine bodyPost_ret (results_row6 rfl _ _ (w.heap.size + 2) 26 _ (0, 0) _ rfl (setRow_heap _ _ _ _ _ _ HR2'.out) Tryz.underlying26 rfl sizePr) rfl ?_
            exact ⟨by rw [HO2.out]; rfl, Below.setRow HB3'.out (by omega) _⟩
      · have e3 : (zb != 0) = true := by simpa using hzb
        have HO2 : Hid (lvsO A B = (([], []), 1)) := by unfold lvsO; unfold Hid; rw [if_neg (by rw [HZB.out]; exact fun h => hzb h.2.2)]
        go_wp2_with ((with_reducible show wpList _ _ _ (Oper.mk _ (Op.store 26 _ _) _ _ _ _ :: _) _ _); go_must (refine wpList_store_row rfl 26 _ _ rfl (w.heap.size + 2) _ rfl rfl 26 _ HR2.out sizePr rfl (onePr [] []) ?_))
        refine bodyPost_ret (results_row6 rfl _ _ (w.heap.size + 2) 26 _ (0, 0) _ rfl (setRow_heap _ _ _ _ _ _ HR2.out) Tryz.underlying26 rfl sizePr) rfl ?_
        exact ⟨by rw [HO2.out]; rfl, Below.setRow HB2.out (by omega) _⟩
    · have e2 : (za != 0) = true := by simpa using hza
      have HO2 : Hid (lvsO A B = (([], []), 1)) := by unfold lvsO; unfold Hid; rw [if_neg (by rw [HZA.out]; exact fun h => hza h.2.1)]
      go_wp2_with ((with_reducible show wpList _ _ _ (Oper.mk _ (Op.store 26 _ _) _ _ _ _ :: _) _ _); go_must (refine wpList_store_row rfl 26 _ _ rfl (w.heap.size + 2) _ rfl rfl 26 _ HR2.out sizePr rfl (onePr [] []) ?_))
      refine bodyPost_ret (results_row6 rfl _ _ (w.heap.size + 2) 26 _ (0, 0) _ rfl (setRow_heap _ _ _ _ _ _ HR2.out) Tryz.underlying26 rfl sizePr) rfl ?_
      exact ⟨by rw [HO2.out]; rfl, Below.setRow HB2.out (by omega) _⟩
  · have e1 : ((n : Int) != (m : Int)) = true := by
      have : ¬ (n : Int) = (m : Int) := by omega
      simpa using this
    have HO2 : Hid (lvsO A B = (([], []), 1)) := by unfold lvsO; unfold Hid; rw [if_neg (by rw [HN.out, HM.out]; exact fun h => hnm h.1)]
    go_wp2_with ((with_reducible show wpList _ _ _ (Oper.mk _ (Op.store 26 _ _) _ _ _ _ :: _) _ _); go_must (refine wpList_store_row rfl 26 _ _ rfl (w.heap.size + 2) _ rfl rfl 26 _ HR2.out sizePr rfl (onePr [] []) ?_))
    refine bodyPost_ret (results_row6 rfl _ _ (w.heap.size + 2) 26 _ (0, 0) _ rfl (setRow_heap _ _ _ _ _ _ HR2.out) Tryz.underlying26 rfl sizePr) rfl ?_
    exact ⟨by rw [HO2.out]; rfl, Below.setRow HB2.out (by omega) _⟩
end Go.Proofs.YthoekndjeclimaaGreatDoor
