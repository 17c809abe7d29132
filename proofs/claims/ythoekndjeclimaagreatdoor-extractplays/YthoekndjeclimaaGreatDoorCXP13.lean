import Derived.Test.YthoekndjeclimaaGreatDoorCI30
namespace Go.Proofs.YthoekndjeclimaaGreatDoor
open Go.RowKit
theorem seg_at {w : World} {x : Addr} {l : List (List UInt8)} (h : At w (some x) l) (b e : Nat) : At w (some (x.add b)) (Tree.seg l b e) := (h.take e).drop b
theorem Okl.seg {l : List (List UInt8)} (h : Okl l) (b e : Nat) : Okl (Tree.seg l b e) := (h.take e).drop b
theorem step_append6 {P : Program} {ops : Array Oper} {o : Oper} {a : Act} {w : World} {K : Act → World → Prop} {Q : Exit → Act → World → Prop} {E : Prop}
    (hg : o.guard = none) (s x : Operand) (t : TypeId) (hop : o.op = Op.call { callee := Callee.builtin Builtin.append, args := #[s, x], argTypes := #[t, t] })
    (v1 v2 v' : Value) (w' : World) (hs : a.eval s = v1) (hx : a.eval x = v2) (hrun : (Builtin.append_ #[t, t] o.type #[v1, v2]).run P w = .ok v' w') (hK : K (a.put o.dst v') w') :
    if Region.wanted o (yielded ops a.tmps) = true then Oper.wp P o a w K Q else E := by
  have hw : Region.wanted o (yielded ops a.tmps) = true := by simp [Region.wanted, hg]
  rw [if_pos hw]
  unfold Oper.wp
  simp [execOp, hop, resolve, invoke, builtin, hs, hx, hrun, Result.andThen]
  exact hK
theorem cell_two {w : World} {g gf i : Nat} (h : gf ≠ g) (u v : Value) : ((w.setCell ⟨g, 0, none⟩ u).setCell ⟨g, 1, none⟩ v).cell? ⟨gf, i, none⟩ = w.cell? ⟨gf, i, none⟩ :=
  World.cell?_of_block (w := w) (a := ⟨gf, i, none⟩) ((Below.heap_setCell (w.setCell ⟨g, 0, none⟩ u) ⟨g, 1, none⟩ v gf h).trans (Below.heap_setCell w ⟨g, 0, none⟩ u gf h))
theorem add0 (x : Addr) : x.add 0 = x := by simp [Addr.add]
set_option maxRecDepth 100000 in
set_option maxHeartbeats 8000000 in
theorem r6Consistency_any (l : List (List UInt8)) (m : Int) (old : List UInt8) (P : List (List UInt8)) (a d : Option Addr) (ca cd : Nat) (w : World) (ha : At w a l) (hd : At w d P) (lA : l.length ≤ ca ∧ ca ≤ 9223372036854775807) (lB : P.length ≤ cd ∧ cd ≤ 9223372036854775807) :
    Calls Tryz.prog 12 #[.slice a l.length ca, .int .i64 m, .string ⟨old.toArray⟩, .slice d P.length cd] w fun e w' => e = .returned (.tuple #[prP (conO l m old P).1.1 (conO l m old P).1.2, .int .i64 (conO l m old P).2]) ∧ Below w.heap.size w w' := by
  have z1 := size_alloc w (.cells #[Value.string ⟨#[]⟩, .string ⟨#[]⟩] 26)
  have al := (Below.refl w.heap.size w).alloc (Nat.le_refl _) (.cells #[Value.string ⟨#[]⟩, .string ⟨#[]⟩] 26)
  have R0 := heap_alloc_new w (.cells #[Value.string ⟨#[]⟩, .string ⟨#[]⟩] 26)
  obtain ⟨w0, hw0⟩ : ∃ w0, w.alloc (.cells #[Value.string ⟨#[]⟩, .string ⟨#[]⟩] 26) = w0 := ⟨_, rfl⟩
  rw [hw0] at al R0 z1
  have HR := hid R0
  have HB := hid al
  have Ha := hid (ha.below al (Nat.le_refl _))
  have Hd := hid (hd.below al (Nat.le_refl _))
  have i1 := r6hashes_any l a ca w0 (by omega) Ha.out
  clear al R0 ha hd
  by_cases wA : wrg l = 0
  · rw [decide_eq_true wA] at i1
    have ol := Okl.of wA
    obtain ⟨rt, hrt⟩ : ∃ r, Hid (Tree.root l = r) := ⟨_, rfl⟩
    have i2 := r6root_any l ol a ca w0 lA.1 lA.2 Ha.out hrt
    obtain ⟨za, hza⟩ : ∃ z, Hid (conOf4 m (l.length : Int) old rt P = z) := ⟨_, rfl⟩
    have i3 := fun w' (hb : Below w0.heap.size w0 w') => rConsistency_at hza d P.length cd w' rfl lB.1 lB.2 (Hd.out.below hb (Nat.le_refl _))
    rw [svS old, svS rt] at i3
    obtain ⟨n, hn⟩ : ∃ n, Hid (l.length = n) := ⟨_, rfl⟩
    obtain ⟨np, hnp⟩ : ∃ n, Hid (P.length = n) := ⟨_, rfl⟩
    by_cases h0 : za = 0
    · subst h0
      have hz2 := hza.out
      rw [← hrt.out] at hz2
      obtain ⟨M, rfl, C⟩ := Con.of hz2
      have HO : Hid (conO l (M : Int) old P = if Tree.root (l.take M) = old then (([], []), (60 : Int)) else hiO (Tree.txs (Tree.frm M l.length old P) (Tree.PD M l.length) (Tree.bsd M l.length P)) (Tree.txs (Tree.stt l.length M l) (Tree.PD M l.length) (Tree.own l.length M l))) := by
        unfold conO hiO
        rw [Hid, if_pos wA, if_pos hz2, Int.toNat_natCast]
        rfl
      have HC := hid C
      have OL := hid ol
      obtain ⟨r1, hr1⟩ : ∃ r, Hid (Tree.root (l.take M) = r) := ⟨_, rfl⟩
      have tl : (l.take M).length = M := by rw [List.length_take]; have := C.le; omega
      have i4 := fun w' (hb : Below w0.heap.size w0 w') => r6root_any (l.take M) (ol.take M) a ca w' (by have := C.le; omega) lA.2 ((Ha.out.below hb (Nat.le_refl _)).take M) hr1
      rw [tl] at i4
      rw [hr1.out] at HO
      have hMn : M ≤ n := by have := C.le; rw [← hn.out]; exact this
      have hM1 : 1 ≤ M := C.ge
      have hn4 : n ≤ 4096 := by rw [← hn.out]; exact ol.2
      have lA2 : n ≤ ca := by rw [← hn.out]; exact lA.1
      have lB2 : np ≤ cd := by rw [← hnp.out]; exact lB.1
      have m1 : (M : Int) ≤ (n : Int) := by omega
      have m2 : (M : Int) ≤ (ca : Int) := by omega
      have m3 : (0 : Int) ≤ (M : Int) := by omega
      rw [hn.out] at i1 i2 i3 ⊢
      rw [hnp.out] at i3 ⊢
      have LA := hid lA
      have LB := hid lB
      clear hza hrt hz2 wA ol C tl lA lB
      by_cases hro : r1 = old
      · have e1 : (old == r1) = true := by simpa using hro.symm
        rw [if_pos hro] at HO
        clear hro
        go_enter Tryz.func12, Tryz.ntmps12
        go_wp2_with (first
          | (go_at_call 32; (with_reducible refine i1.mono ?_); rintro e w9 ⟨rfl, h9⟩; have h9 := h9.symm; subst h9)
          | (go_at_call 33; (with_reducible refine i2.mono ?_); rintro e w1 ⟨rfl, b1⟩)
          | (go_at_call 39; (with_reducible refine (i3 w1 b1).mono ?_); rintro e w2 ⟨rfl, b2⟩; have B2 := hid (b1.trans (b2.mono b1.size)))
          | (go_at_call 33; (with_reducible refine (i4 w2 B2.out).mono ?_); rintro e w3 ⟨rfl, b3⟩; have B3 := hid (B2.out.trans (b3.mono B2.out.size)); have HR2 := hid ((B3.out.block _ (lt_of_heap HR.out)).trans HR.out); have HB2 := hid (HB.out.trans (B3.out.mono HB.out.size)))
          | ((with_reducible show wpList _ _ _ (Oper.mk _ (Op.store 26 _ _) _ _ _ _ :: _) _ _); go_must (refine wpList_store_row rfl 26 _ _ rfl (w.heap.size) _ rfl rfl 26 _ HR2.out sizePr rfl (onePr [] []) ?_)))
        refine bodyPost_ret (results_row6 rfl _ _ (w.heap.size) 26 _ (0, 0) _ rfl (setRow_heap _ _ _ _ _ _ HR2.out) Tryz.underlying26 rfl sizePr) rfl ?_
        exact ⟨by rw [HO.out]; rfl, Below.setRow HB2.out (by omega) _⟩
      · have e1 : (old == r1) = false := by simpa using fun h => hro h.symm
        rw [if_neg hro] at HO
        have hlt : M < n := by rw [← hn.out]; exact HC.out.lt (by rw [hr1.out]; exact hro)
        clear hro
        go_enter Tryz.func12, Tryz.ntmps12
        go_wp2_with (first
          | (go_at_call 32; (with_reducible refine i1.mono ?_); rintro e w9 ⟨rfl, h9⟩; have h9 := h9.symm; subst h9)
          | (go_at_call 33; (with_reducible refine i2.mono ?_); rintro e w1 ⟨rfl, b1⟩)
          | (go_at_call 39; (with_reducible refine (i3 w1 b1).mono ?_); rintro e w2 ⟨rfl, b2⟩; have B2 := hid (b1.trans (b2.mono b1.size)))
          | (go_at_call 33; (with_reducible refine (i4 w2 B2.out).mono ?_); rintro e w3 ⟨rfl, b3⟩; have B3 := hid (B2.out.trans (b3.mono B2.out.size))))
        clear i1 i2 i3 i4 b1 b2 b3 B2 hr1
        obtain ⟨pa, rfl⟩ := Ha.out.pos (by rw [hn.out]; omega)
        go_loopw [12] (fun kv w' => ∃ (j k : Nat), kv = .int .i64 (k : Int) ∧ 1 ≤ k ∧ k ≤ M ∧ Hid (2 ^ j = k) ∧ Hid (2 ^ j ∣ M) ∧ w' = w3) (fun kv _ => M - (intOf kv).toNat)
        case atStart => exact ⟨0, 1, rfl, Nat.le_refl _, hM1, rfl, Nat.one_dvd _, rfl⟩
        case round =>
          obtain ⟨j, k, rfl, hk1, hkM, hjk, hjd, rfl⟩ := hrel
          have hz : ¬ (2 * (k : Int)) = 0 := by omega
          by_cases hmod : M % (2 * k) = 0
          · have em : Int.tmod (M : Int) (2 * (k : Int)) = 0 := by
              rw [Int.tmod_eq_emod_of_nonneg (by omega), show 2 * (k : Int) = ((2 * k : Nat) : Int) from by omega, ← Int.natCast_emod, hmod]
              rfl
            have dv : Hid (2 ^ (j + 1) ∣ M) := by rw [Hid, Nat.pow_succ, hjk.out, Nat.mul_comm]; exact Nat.dvd_of_mod_eq_zero hmod
            have hk2 : Hid (2 ^ (j + 1) = 2 * k) := by rw [Hid, Nat.pow_succ, hjk.out, Nat.mul_comm]
            have hle : 2 * k ≤ M := Nat.le_of_dvd (by omega) (Nat.dvd_of_mod_eq_zero hmod)
            clear hmod
            go_wp2
            exact ⟨⟨j + 1, 2 * k, by go_num, by omega, by omega, hk2, dv, trivial⟩, by simp [intOf]; omega⟩
          · obtain ⟨R, hRm⟩ : ∃ R : Nat, M % (2 * k) = R := ⟨_, rfl⟩
            have em : Int.tmod (M : Int) (2 * (k : Int)) = (R : Int) := by
              rw [Int.tmod_eq_emod_of_nonneg (by omega), show 2 * (k : Int) = ((2 * k : Nat) : Int) from by omega, ← Int.natCast_emod, hRm]
            have hR2 : ((R : Int) == 0) = false := by simp; omega
            have hRl : R < 2 * k := by rw [← hRm]; exact Nat.mod_lt _ (by omega)
            have hRw : IntKind.i64.wrap (R : Int) = (R : Int) := wrap_small _ (by omega) (by omega)
            have nd : Hid (¬ 2 ^ (j + 1) ∣ M) := by
              rw [Hid, Nat.pow_succ, hjk.out, Nat.mul_comm]
              exact fun e => hmod (Nat.mod_eq_zero_of_dvd e)
            clear hmod hRm
            have hMl : M < l.length := by rw [hn.out]; exact hlt
            obtain ⟨p1, p2, p3⟩ := Tree.con_dn hM1 hMl hjd.out nd.out
            have pf := Tree.fl_k hM1 hMl (by omega) hjd.out nd.out
            have pin := Tree.dn_in l.length 0 l.length (M - 2 ^ j) M
            have plen := dn_len l.length 0 l.length (M - 2 ^ j) M
            rw [hjk.out] at p1 p2 p3 pf pin plen
            obtain ⟨fb, hfb⟩ : ∃ fb, Hid (M - k = fb) := ⟨_, rfl⟩
            have fbM : fb < M := by rw [← hfb.out]; omega
            have sb : IntKind.i64.wrap ((M : Int) - (k : Int)) = (fb : Int) := by rw [← hfb.out, IntKind.wrap_i64]; omega
            rw [hfb.out] at p1 p2 p3 pin plen
            have i5 := fun w' : World => r6steps_any l.length fb M w' (by rw [hn.out]; omega) (by omega) (by omega) (by rw [hn.out] at plen ⊢; omega)
            obtain ⟨L, hL⟩ : ∃ L, Hid ((Tree.dn l.length 0 l.length fb M).reverse = L) := ⟨_, rfl⟩
            rw [hL.out] at i5 p1 p2
            have lin : Hid (∀ q ∈ L, q.1 < q.2.1 ∧ q.2.1 ≤ n) := fun q hq => by
              rw [← hL.out] at hq
              have := pin q (List.mem_reverse.1 hq)
              rw [hn.out] at this
              omega
            have llen : L.length ≤ 4096 := by rw [← hL.out, List.length_reverse]; rw [hn.out] at plen ⊢; omega
            obtain ⟨f1, f2, f3⟩ := Tree.frm_ok HC.out.len HC.out.o32 HC.out.hs
            obtain ⟨o1, o2, o3, o4⟩ := Tree.own_all l.length M l (Nat.le_refl _) hM1 HC.out.le OL.out.1
            rw [← p1, ← p2] at HO
            rw [← p1] at f3
            rw [← p1, ← p2] at o1
            rw [← p2] at o2
            rw [← p3] at HO o3
            have P1 := hid p1
            rw [hn.out] at i5
            clear p1 p2 p3 pin plen hfb o4 hL
            have z4 := size_alloc wr (.cells #[Value.int .i64 0, .int .i64 0] 53)
            have b4 := (Below.refl wr.heap.size wr).alloc (Nat.le_refl _) (.cells #[Value.int .i64 0, .int .i64 0] 53)
            have r4 := heap_alloc_new wr (.cells #[Value.int .i64 0, .int .i64 0] 53)
            obtain ⟨w4, hw4⟩ : ∃ w4, wr.alloc (.cells #[Value.int .i64 0, .int .i64 0] 53) = w4 := ⟨_, rfl⟩
            rw [hw4] at z4 b4 r4
            have R4 := hid r4
            have R5 := hid (setRow_heap w4 wr.heap.size _ #[Value.int .i64 (fb : Int), .int .i64 (M : Int)] _ _ r4)
            have B5 := hid (show Below w0.heap.size w0 (w4.setRow wr.heap.size #[Value.int .i64 (fb : Int), .int .i64 (M : Int)]) from Below.setRow (B3.out.trans (b4.mono B3.out.size)) B3.out.size _)
            have oc : (#[Value.int .i64 (fb : Int), .int .i64 (M : Int)].all (·.oneCell')) = true := all_oneCell_toArray (cs := [Value.int .i64 (fb : Int), .int .i64 (M : Int)]) fun v hv => by
              simp only [List.mem_cons, List.not_mem_nil, or_false] at hv
              rcases hv with rfl | rfl <;> rfl
            have hgf := hid (show wr.heap.size ≠ w.heap.size by have := B3.out.size; omega)
            clear b4 r4 z4 B3
            have cf0 : (w4.setRow wr.heap.size #[Value.int .i64 (fb : Int), .int .i64 (M : Int)]).cell? ⟨wr.heap.size, 0, none⟩ = some (.int .i64 (fb : Int)) := by rw [cell_of_row _ _ _ _ _ _ R5.out]; rfl
            have cf1 : (w4.setRow wr.heap.size #[Value.int .i64 (fb : Int), .int .i64 (M : Int)]).cell? ⟨wr.heap.size, 1, none⟩ = some (.int .i64 (M : Int)) := by rw [cell_of_row _ _ _ _ _ _ R5.out]; rfl
            have g13 : wr.heap.size < (w4.setRow wr.heap.size #[Value.int .i64 (fb : Int), .int .i64 (M : Int)]).heap.size := lt_of_heap R5.out
            go_wp2_with (first
              | ((with_reducible show wpList _ _ _ (Oper.mk _ (Op.store 53 _ _) _ _ _ _ :: _) _ _); go_must (refine wpList_store_row rfl 53 _ _ rfl (wr.heap.size) _ rfl rfl 53 _ R4.out size6Sp rfl oc ?_))
              | (go_at_call 27; fail))
            with_reducible refine (i5 _).mono ?_
            rintro e w6 ⟨v6, rfl, S6, b6⟩
            have B6 := hid (B5.out.trans (b6.mono B5.out.size))
            have CF := hid (show ∀ w', Below w6.heap.size w6 w' → w'.cell? ⟨wr.heap.size, 0, none⟩ = some (.int .i64 (fb : Int)) ∧ w'.cell? ⟨wr.heap.size, 1, none⟩ = some (.int .i64 (M : Int)) from fun w' hb => ⟨((hb.cell (p := ⟨wr.heap.size, 0, none⟩) (Nat.lt_of_lt_of_le g13 b6.size)).trans (b6.cell (p := ⟨wr.heap.size, 0, none⟩) g13)).trans cf0, ((hb.cell (p := ⟨wr.heap.size, 1, none⟩) (Nat.lt_of_lt_of_le g13 b6.size)).trans (b6.cell (p := ⟨wr.heap.size, 1, none⟩) g13)).trans cf1⟩)
            have S6 := hid S6
            obtain ⟨sa, sc, rfl, _, _⟩ := S6.out.1.shape
            generalize wr.heap.size = gf at *
            obtain ⟨nl, hnl⟩ : ∃ n, Hid (L.length = n) := ⟨_, rfl⟩
            clear cf0 cf1 g13 b6 R4 R5 B5 i5 hw4 oc sb em hR2 hRl hRw hz
            by_cases hkm : k = M
            · have pf2 : Tree.fl M l.length true = false := by rw [pf]; simp [hkm]
              have ef : Tree.frm M l.length old P = old := by unfold Tree.frm; rw [if_neg (by rw [pf2]; simp)]
              have eb : Tree.bsd M l.length P = P := by unfold Tree.bsd; rw [if_neg (by rw [pf2]; simp)]
              rw [ef, eb] at HO
              rw [ef] at f1
              rw [eb] at f2 f3
              have e2 : ((k : Int) != (M : Int)) = false := by rw [hkm]; simp
              have JB := hid (show ∀ w', Below w6.heap.size w6 w' → At w' d P from fun w' hb => (Hd.out.below B6.out (Nat.le_refl _)).below hb (by have := B6.out.size; omega))
              clear pf pf2 ef eb hkm
              go_wp2
              rw [hnl.out]
              go_loopw [17, 18] (fun ov i w' => ∃ q : Nat, q ≤ nl ∧ i = .int .i64 (q : Int) ∧ Hid (Own w' w6.heap.size ov (svs ((L.map fun s => Tree.root (Tree.seg l s.1 s.2.1)).take q))) ∧ Hid (Below w6.heap.size w6 w')) (fun _ i _ => nl - (intOf i).toNat)
              case atStart => exact ⟨0, Nat.zero_le _, rfl, by unfold Hid; rw [List.take_zero]; exact Own.nil _ _, Below.refl _ _⟩
              case round =>
                obtain ⟨q, hq, rfl, hO, hB⟩ := hrel
                by_cases hqn : q < nl
                · have qL : q < L.length := by rw [hnl.out]; exact hqn
                  have d0 : (q : Int) < (nl : Int) := by omega
                  obtain ⟨g, cap, hg, c0, c1, c2, gl⟩ := S6.out.at (List.getElem?_eq_getElem qL)
                  obtain ⟨rfl, rfl⟩ : sa = some ⟨g, 0, none⟩ ∧ sc = cap := by injection hg with e1 e2 e3; exact ⟨e1, e3⟩
                  obtain ⟨x1, x2⟩ := lin.out _ (List.getElem_mem qL)
                  have ek : (L.map fun s => Tree.root (Tree.seg l s.1 s.2.1)).take (q + 1) = (L.map fun s => Tree.root (Tree.seg l s.1 s.2.1)).take q ++ [Tree.root (Tree.seg l L[q].1 L[q].2.1)] := by
                    rw [List.take_succ_eq_append_getElem (by simpa using qL)]; simp
                  generalize L[q].1 = x at *
                  generalize L[q].2.1 = y at *
                  obtain ⟨r, hr⟩ : ∃ r, Hid (Tree.root (Tree.seg l x y) = r) := ⟨_, rfl⟩
                  rw [hr.out] at ek
                  have sl : (Tree.seg l x y).length = y - x := Tree.seg_len (by rw [hn.out]; omega)
                  have BL := hid (show ∀ w', Below wr.heap.size wr w' → Below w6.heap.size w6 w' from fun w' hb => hB.out.trans (hb.mono hB.out.size))
                  have CC := hid (show ∀ w', Below w6.heap.size w6 w' → w'.cell? ⟨g, q * 3, none⟩ = some (.int .i64 (x : Int)) ∧ w'.cell? ⟨g, q * 3 + 1, none⟩ = some (.int .i64 (y : Int)) from fun w' hb => ⟨(hb.cell (p := ⟨g, q * 3, none⟩) gl).trans c0, (hb.cell (p := ⟨g, q * 3 + 1, none⟩) gl).trans c1⟩)
                  have i6 := r6root_any (Tree.seg l x y) (OL.out.seg x y) (some (pa.add x)) (ca - x) wr.drew (by rw [sl]; omega) (by have := LA.out.2; omega) (seg_at ((Ha.out.below B6.out (Nat.le_refl _)).below (hB.out.drew) (by have := B6.out.size; omega)) x y) hr
                  rw [sl] at i6
                  have tk : ((L.map fun s => Tree.root (Tree.seg l s.1 s.2.1)).take q).length ≤ 1000000 := by rw [List.length_take]; omega
                  have n1 : (0 : Int) ≤ (x : Int) := by omega
                  have n2 : (x : Int) ≤ (y : Int) := by omega
                  have n3 : (y : Int) ≤ (ca : Int) := by omega
                  have n4 : ¬ ca = x := by omega
                  have n5 : (y : Int) ≤ (n : Int) := by omega
                  obtain ⟨ova, ovc, rfl⟩ := hO.out.shape
                  have S0 := CC.out wr hB.out
                  clear c0 c1 c2 hg x1 x2
                  go_wp2
                  go_region_held3 (fun w' => w'.cell? ⟨g, q * 3, none⟩ = some (.int .i64 (x : Int)) ∧ w'.cell? ⟨g, q * 3 + 1, none⟩ = some (.int .i64 (y : Int))) (first | exact S0 | exact S7 | exact S7a | exact S8) (first
                    | (go_at_call 33; (with_reducible refine i6.mono ?_); rintro e w7 ⟨rfl, b7'⟩; have b7 := hid (hB.out.trans (((Below.refl wr.heap.size wr).drew.trans b7').mono hB.out.size)); have S7 := CC.out _ b7.out; obtain ⟨v8, w8, hap, O8, b8⟩ := append_text w7 w6.heap.size _ _ r (hO.out.below (show Below wr.heap.size wr w7 from (Below.refl wr.heap.size wr).drew.trans b7') (Nat.le_refl _)) (by omega) b7.out.size; rw [svS] at hap; have S7a := CC.out (w7.alloc (.cells #[.string ⟨r.toArray⟩] 9)) (b7.out.alloc b7.out.size _); have B8 := hid (b7.out.trans b8); have S8 := CC.out _ B8.out; have O8 := hid O8)
                    | (refine step_append6 rfl _ _ 22 rfl _ _ _ w8 rfl rfl hap ?_))
                  rw [← ek] at O8
                  clear S0 S7 S7a S8 hap b8 b7' b7
                  go_wp2
                  exact ⟨⟨q + 1, by omega, by go_num, O8, B8⟩, by simp [intOf]; omega⟩
                · obtain rfl : q = nl := by omega
                  have d0 : ¬ (q : Int) < (q : Int) := by omega
                  have eO : (L.map fun s => Tree.root (Tree.seg l s.1 s.2.1)).take q = L.map fun s => Tree.root (Tree.seg l s.1 s.2.1) := List.take_of_length_le (by rw [List.length_map, hnl.out]; exact Nat.le_refl _)
                  rw [eO] at hO
                  have lO : (L.map fun s => Tree.root (Tree.seg l s.1 s.2.1)).length = L.length := List.length_map ..
                  obtain ⟨rs, hrs⟩ : ∃ r, Hid (Tree.root (Tree.seg l fb M) = r) := ⟨_, rfl⟩
                  have HO3 := HO.out
                  rw [hrs.out] at HO3
                  have o3' := o3
                  rw [hrs.out] at o3'
                  have x1 := Tree.txs_length old (L.map (·.2.2)) P f3.symm
                  have x2 := Tree.txs_length rs (L.map (·.2.2)) (L.map fun s => Tree.root (Tree.seg l s.1 s.2.1)) (by rw [List.length_map, List.length_map])
                  have t1 := r6texts_any L old P _ _ d cd wr.drew (S6.out.below hB.out.drew) (JB.out _ hB.out.drew) (by rw [f3, List.length_map]) (by omega) f1 f2
                  have sl : (Tree.seg l fb M).length = M - fb := Tree.seg_len (by rw [hn.out]; omega)
                  have t2 := fun w' (hb : Below w6.heap.size w6 w') => r6root_any (Tree.seg l fb M) (OL.out.seg fb M) (some (pa.add fb)) (ca - fb) w' (by rw [sl]; omega) (by have := LA.out.2; omega) (seg_at ((Ha.out.below B6.out (Nat.le_refl _)).below hb (by have := B6.out.size; omega)) fb M) hrs
                  rw [sl] at t2
                  obtain ⟨X, hX⟩ : ∃ X, Hid (Tree.txs old (L.map (·.2.2)) P = X) := ⟨_, rfl⟩
                  have t3 := fun w' (v : Value) (ao : Option Addr) (co : Nat) (hb : Below w6.heap.size w6 w') (hA : At w' ao (L.map fun s => Tree.root (Tree.seg l s.1 s.2.1))) => r6texts_any L rs (L.map fun s => Tree.root (Tree.seg l s.1 s.2.1)) _ _ ao co w' (S6.out.below hb) hA lO (by omega) o3' o2
                  obtain ⟨OW, hOW⟩ : ∃ O, Hid ((L.map fun s => Tree.root (Tree.seg l s.1 s.2.1)) = O) := ⟨_, rfl⟩
                  rw [hOW.out] at hO lO t3 x2 HO3
                  obtain ⟨Y, hY⟩ : ∃ Y, Hid (Tree.txs rs (L.map (·.2.2)) OW = Y) := ⟨_, rfl⟩
                  rw [hX.out] at t1 x1 HO3
                  rw [hY.out] at t3 x2 HO3
                  have t4 := fun w' (a1 a2 : Option Addr) (c1 c2 : Nat) (h1 : At w' a1 X) (h2 : At w' a2 Y) => r6highest_any X Y a1 a2 c1 c2 w' h1 h2 (by omega) (by rw [x1, List.length_map]; omega)
                  rw [lO, hnl.out] at t3
                  rw [hnl.out, hnp.out] at t1
                  have HO4 := hid HO3
                  have HRW := hid (show ∀ w', Below w6.heap.size w6 w' → w'.heap[w.heap.size]? = some (.cells #[Value.string ⟨#[]⟩, .string ⟨#[]⟩] 26 (0, 0)) from fun w' hb => ((hb.block _ (by have := B6.out.size; have := lt_of_heap HR.out; omega)).trans (B6.out.block _ (lt_of_heap HR.out))).trans HR.out)
                  have BW := hid (show ∀ w', Below w6.heap.size w6 w' → Below w.heap.size w w' from fun w' hb => HB.out.trans ((B6.out.trans (hb.mono B6.out.size)).mono HB.out.size))
                  have HRm := hid (show ∀ (w' : World) (u v : Value), w'.heap[w.heap.size]? = some (.cells #[Value.string ⟨#[]⟩, .string ⟨#[]⟩] 26 (0, 0)) → ((w'.setCell ⟨w.heap.size, 0, none⟩ u).setCell ⟨w.heap.size, 1, none⟩ v).heap[w.heap.size]? = some (.cells #[u, v] 26 (0, 0)) from fun w' u v h => heap_setCell_same _ _ 1 _ _ _ (heap_setCell_same w' _ 0 _ _ _ h))
                  have HBm := hid (show ∀ (w' : World) (u v : Value), Below w.heap.size w w' → Below w.heap.size w ((w'.setCell ⟨w.heap.size, 0, none⟩ u).setCell ⟨w.heap.size, 1, none⟩ v) from fun w' u v h => (h.setCell (p := ⟨w.heap.size, 0, none⟩) (Nat.le_refl _) u).setCell (p := ⟨w.heap.size, 1, none⟩) (Nat.le_refl _) v)
                  obtain ⟨oa, oc, eo, _⟩ := own_at hO.out
                  subst eo
                  rw [lO, hnl.out]
                  have n1 : (0 : Int) ≤ (fb : Int) := by omega
                  have n2 : (fb : Int) ≤ (M : Int) := by omega
                  have n3 : (M : Int) ≤ (ca : Int) := by omega
                  have n4 : ¬ ca = fb := by omega
                  have S0 := CF.out wr hB.out
                  clear HO HO3 hX hY hOW hrs x1 x2 eO o1 o2 o3 o3' f1 f2 f3 sl
                  obtain ⟨p, pq, z, hz3⟩ : ∃ p q z, Hid (hiO X Y = ((p, q), z)) := ⟨_, _, _, rfl⟩
                  rw [hz3.out] at HO4 t4
                  rw [show prP ((p, pq), z).1.1 ((p, pq), z).1.2 = Value.agg #[.string ⟨p.toArray⟩, .string ⟨pq.toArray⟩] from rfl] at t4
                  clear hz3
                  go_wp2
                  go_region_held3 (fun w' => w'.cell? ⟨gf, 0, none⟩ = some (.int .i64 (fb : Int)) ∧ w'.cell? ⟨gf, 1, none⟩ = some (.int .i64 (M : Int))) (first | exact S0 | exact S7 | exact S8 | exact S9 | exact S10 | exact S11) (first
                    | (go_at_call 29; (with_reducible refine t1.mono ?_); rintro e w7 ⟨v7, rfl, O7, b7'⟩; have b7 := hid (hB.out.trans (((Below.refl wr.heap.size wr).drew.trans b7').mono hB.out.size)); have S7 := CF.out _ b7.out; have O7 := hid O7; obtain ⟨a7, c7, rfl, _⟩ := own_at O7.out)
                    | (go_at_call 33; (with_reducible refine (t2 w7 b7.out).mono ?_); rintro e w8 ⟨rfl, b8'⟩; have b8 := hid (b7.out.trans (b8'.mono b7.out.size)); have S8 := CF.out _ b8.out; obtain ⟨oa', oc', eo', A8⟩ := own_at ((hO.out.below (show Below wr.heap.size wr w7 from (Below.refl wr.heap.size wr).drew.trans b7') (Nat.le_refl _)).below b8' (Nat.le_refl _)); have t3' := t3 w8 (.bool true) oa' oc' b8.out A8; rw [show oa' = oa from (by injection eo' with e1 e2 e3; exact e1.symm), show oc' = oc from (by injection eo' with e1 e2 e3; exact e3.symm)] at t3'; have O8 := hid (O7.out.below b8' (Nat.le_refl _)))
                    | (go_at_call 29; (with_reducible refine t3'.mono ?_); rintro e w9 ⟨v9, rfl, O9, b9'⟩; have b9 := hid (b8.out.trans (b9'.mono b8.out.size)); have S9 := CF.out _ b9.out; obtain ⟨a9, c9, rfl, A9⟩ := own_at O9; obtain ⟨a7', c7', e7', A7⟩ := own_at (O8.out.below b9' (Nat.le_refl _)); have t4' := t4 w9 a7' a9 c7' c9 A7 A9; rw [← e7'] at t4')
                    | (go_at_call 28; (with_reducible refine t4'.mono ?_); rintro e w10 ⟨rfl, b10'⟩; have b10 := hid (b9.out.trans (b10'.mono b9.out.size)); have S10 := CF.out _ b10.out; have HR10 := hid (HRW.out _ b10.out); have q0 : w10.cell? ⟨w.heap.size, 0, none⟩ = some (.string ⟨#[]⟩) := (by rw [cell_of_row _ _ _ _ _ _ HR10.out]; rfl); have q1 : w10.cell? ⟨w.heap.size, 1, none⟩ = some (.string ⟨#[]⟩) := (by rw [cell_of_row _ _ _ _ _ _ HR10.out]; rfl); have y0 : w10.frozen? ⟨w.heap.size, 0, none⟩ = false := frozen_of_row _ _ _ _ _ HR10.out; have y1 : w10.frozen? ⟨w.heap.size, 1, none⟩ = false := frozen_of_row _ _ _ _ _ HR10.out; have S11 : ((w10.setCell ⟨w.heap.size, 0, none⟩ (.string ⟨p.toArray⟩)).setCell ⟨w.heap.size, 1, none⟩ (.string ⟨pq.toArray⟩)).cell? ⟨gf, 0, none⟩ = some (.int .i64 (fb : Int)) ∧ ((w10.setCell ⟨w.heap.size, 0, none⟩ (.string ⟨p.toArray⟩)).setCell ⟨w.heap.size, 1, none⟩ (.string ⟨pq.toArray⟩)).cell? ⟨gf, 1, none⟩ = some (.int .i64 (M : Int)) := ⟨(cell_two hgf.out _ _).trans S10.1, (cell_two hgf.out _ _).trans S10.2⟩))
                  clear S0 S7 S8 S9 S10 S11 q0 q1 y0 y1 t1 t2 t3 t3' t4 t4'
                  go_wp2
                  refine bodyPost_ret (results_row6 rfl _ _ (w.heap.size) 26 _ (0, 0) _ rfl (HRm.out w10 _ _ HR10.out) Tryz.underlying26 rfl sizePr) rfl ?_
                  exact ⟨by rw [HO4.out]; rfl, HBm.out w10 _ _ (BW.out _ b10.out)⟩
            · have pf2 : Tree.fl M l.length true = true := by rw [pf]; simp [hkm]
              have ef : Tree.frm M l.length old P = P.headD [] := by unfold Tree.frm; rw [if_pos pf2]
              have eb : Tree.bsd M l.length P = P.tail := by unfold Tree.bsd; rw [if_pos pf2]
              rw [ef, eb] at HO
              rw [ef] at f1
              rw [eb] at f2 f3
              have e2 : ((k : Int) != (M : Int)) = true := by
                have : ¬ (k : Int) = (M : Int) := by omega
                simpa using this
              have np1 : 1 ≤ np := by
                have := HC.out.len
                unfold Tree.pl at this
                rw [if_pos pf2, hnp.out] at this
                omega
              obtain ⟨y, rfl⟩ := Hd.out.pos (by rw [hnp.out]; omega)
              obtain ⟨p0, P', rfl⟩ : ∃ p P', P = p :: P' := by
                cases P with
                | nil => have := hnp.out; simp at this; omega
                | cons p P' => exact ⟨p, P', rfl⟩
              have hnp2 := hid (show P'.length = np - 1 by have := hnp.out; simp at this; omega)
              obtain ⟨y', ey, yb, hy0⟩ := Hd.out 0 p0 rfl
              obtain rfl := Option.some.inj ey
              have hy1 := ((B6.out.cell (p := y.add 0) (by rw [addr_block]; exact yb)).trans hy0)
              rw [svS] at hy1
              have hy2 := hy1
              rw [add0] at hy2
              rw [show (p0 :: P').headD [] = p0 from rfl, show (p0 :: P').tail = P' from rfl] at HO
              rw [show (p0 :: P').headD [] = p0 from rfl] at f1
              rw [show (p0 :: P').tail = P' from rfl] at f2 f3
              have g1 : (1 : Int) ≤ (np : Int) := by omega
              have g2 : (1 : Int) ≤ (cd : Int) := by omega
              have g3 : (0 : Int) < (np : Int) := by omega
              have JD := hid (show ∀ w', Below w6.heap.size w6 w' → At w' (some y) (p0 :: P') from fun w' hb => (Hd.out.below B6.out (Nat.le_refl _)).below hb (by have := B6.out.size; omega))
              clear pf pf2 ef eb ey hy0 yb
              by_cases hc1 : cd = 1
              · have hn0 : np = 1 := by omega
                subst hc1 hn0
                have hnp3 := hid (show P'.length = 0 from hnp2.out)
                have JB := hid (show ∀ w', Below w6.heap.size w6 w' → At w' (some y) P' from fun w' hb => by
                  rw [List.length_eq_zero_iff.1 hnp3.out]; exact At.nil _ _)
                clear JD hnp2 g1 g2 g3
                go_wp2
                rw [hnl.out]
                go_loopw [17, 18] (fun ov i w' => ∃ q : Nat, q ≤ nl ∧ i = .int .i64 (q : Int) ∧ Hid (Own w' w6.heap.size ov (svs ((L.map fun s => Tree.root (Tree.seg l s.1 s.2.1)).take q))) ∧ Hid (Below w6.heap.size w6 w')) (fun _ i _ => nl - (intOf i).toNat)
                case atStart => exact ⟨0, Nat.zero_le _, rfl, by unfold Hid; rw [List.take_zero]; exact Own.nil _ _, Below.refl _ _⟩
                case round =>
                  obtain ⟨q, hq, rfl, hO, hB⟩ := hrel
                  by_cases hqn : q < nl
                  · have qL : q < L.length := by rw [hnl.out]; exact hqn
                    have d0 : (q : Int) < (nl : Int) := by omega
                    obtain ⟨g, cap, hg, c0, c1, c2, gl⟩ := S6.out.at (List.getElem?_eq_getElem qL)
                    obtain ⟨rfl, rfl⟩ : sa = some ⟨g, 0, none⟩ ∧ sc = cap := by injection hg with e1 e2 e3; exact ⟨e1, e3⟩
                    obtain ⟨x1, x2⟩ := lin.out _ (List.getElem_mem qL)
                    have ek : (L.map fun s => Tree.root (Tree.seg l s.1 s.2.1)).take (q + 1) = (L.map fun s => Tree.root (Tree.seg l s.1 s.2.1)).take q ++ [Tree.root (Tree.seg l L[q].1 L[q].2.1)] := by
                      rw [List.take_succ_eq_append_getElem (by simpa using qL)]; simp
                    generalize L[q].1 = x at *
                    generalize L[q].2.1 = y at *
                    obtain ⟨r, hr⟩ : ∃ r, Hid (Tree.root (Tree.seg l x y) = r) := ⟨_, rfl⟩
                    rw [hr.out] at ek
                    have sl : (Tree.seg l x y).length = y - x := Tree.seg_len (by rw [hn.out]; omega)
                    have BL := hid (show ∀ w', Below wr.heap.size wr w' → Below w6.heap.size w6 w' from fun w' hb => hB.out.trans (hb.mono hB.out.size))
                    have CC := hid (show ∀ w', Below w6.heap.size w6 w' → w'.cell? ⟨g, q * 3, none⟩ = some (.int .i64 (x : Int)) ∧ w'.cell? ⟨g, q * 3 + 1, none⟩ = some (.int .i64 (y : Int)) from fun w' hb => ⟨(hb.cell (p := ⟨g, q * 3, none⟩) gl).trans c0, (hb.cell (p := ⟨g, q * 3 + 1, none⟩) gl).trans c1⟩)
                    have i6 := r6root_any (Tree.seg l x y) (OL.out.seg x y) (some (pa.add x)) (ca - x) wr.drew (by rw [sl]; omega) (by have := LA.out.2; omega) (seg_at ((Ha.out.below B6.out (Nat.le_refl _)).below (hB.out.drew) (by have := B6.out.size; omega)) x y) hr
                    rw [sl] at i6
                    have tk : ((L.map fun s => Tree.root (Tree.seg l s.1 s.2.1)).take q).length ≤ 1000000 := by rw [List.length_take]; omega
                    have n1 : (0 : Int) ≤ (x : Int) := by omega
                    have n2 : (x : Int) ≤ (y : Int) := by omega
                    have n3 : (y : Int) ≤ (ca : Int) := by omega
                    have n4 : ¬ ca = x := by omega
                    have n5 : (y : Int) ≤ (n : Int) := by omega
                    obtain ⟨ova, ovc, rfl⟩ := hO.out.shape
                    have S0 := CC.out wr hB.out
                    clear c0 c1 c2 hg x1 x2
                    go_wp2
                    go_region_held3 (fun w' => w'.cell? ⟨g, q * 3, none⟩ = some (.int .i64 (x : Int)) ∧ w'.cell? ⟨g, q * 3 + 1, none⟩ = some (.int .i64 (y : Int))) (first | exact S0 | exact S7 | exact S7a | exact S8) (first
                      | (go_at_call 33; (with_reducible refine i6.mono ?_); rintro e w7 ⟨rfl, b7'⟩; have b7 := hid (hB.out.trans (((Below.refl wr.heap.size wr).drew.trans b7').mono hB.out.size)); have S7 := CC.out _ b7.out; obtain ⟨v8, w8, hap, O8, b8⟩ := append_text w7 w6.heap.size _ _ r (hO.out.below (show Below wr.heap.size wr w7 from (Below.refl wr.heap.size wr).drew.trans b7') (Nat.le_refl _)) (by omega) b7.out.size; rw [svS] at hap; have S7a := CC.out (w7.alloc (.cells #[.string ⟨r.toArray⟩] 9)) (b7.out.alloc b7.out.size _); have B8 := hid (b7.out.trans b8); have S8 := CC.out _ B8.out; have O8 := hid O8)
                      | (refine step_append6 rfl _ _ 22 rfl _ _ _ w8 rfl rfl hap ?_))
                    rw [← ek] at O8
                    clear S0 S7 S7a S8 hap b8 b7' b7
                    go_wp2
                    exact ⟨⟨q + 1, by omega, by go_num, O8, B8⟩, by simp [intOf]; omega⟩
                  · obtain rfl : q = nl := by omega
                    have d0 : ¬ (q : Int) < (q : Int) := by omega
                    have eO : (L.map fun s => Tree.root (Tree.seg l s.1 s.2.1)).take q = L.map fun s => Tree.root (Tree.seg l s.1 s.2.1) := List.take_of_length_le (by rw [List.length_map, hnl.out]; exact Nat.le_refl _)
                    rw [eO] at hO
                    have lO : (L.map fun s => Tree.root (Tree.seg l s.1 s.2.1)).length = L.length := List.length_map ..
                    obtain ⟨rs, hrs⟩ : ∃ r, Hid (Tree.root (Tree.seg l fb M) = r) := ⟨_, rfl⟩
                    have HO3 := HO.out
                    rw [hrs.out] at HO3
                    have o3' := o3
                    rw [hrs.out] at o3'
                    have x1 := Tree.txs_length p0 (L.map (·.2.2)) P' f3.symm
                    have x2 := Tree.txs_length rs (L.map (·.2.2)) (L.map fun s => Tree.root (Tree.seg l s.1 s.2.1)) (by rw [List.length_map, List.length_map])
                    have t1 := r6texts_any L p0 P' _ _ (some y) 0 wr.drew (S6.out.below hB.out.drew) (JB.out _ hB.out.drew) (by rw [f3, List.length_map]) (by omega) f1 f2
                    have sl : (Tree.seg l fb M).length = M - fb := Tree.seg_len (by rw [hn.out]; omega)
                    have t2 := fun w' (hb : Below w6.heap.size w6 w') => r6root_any (Tree.seg l fb M) (OL.out.seg fb M) (some (pa.add fb)) (ca - fb) w' (by rw [sl]; omega) (by have := LA.out.2; omega) (seg_at ((Ha.out.below B6.out (Nat.le_refl _)).below hb (by have := B6.out.size; omega)) fb M) hrs
                    rw [sl] at t2
                    obtain ⟨X, hX⟩ : ∃ X, Hid (Tree.txs p0 (L.map (·.2.2)) P' = X) := ⟨_, rfl⟩
                    have t3 := fun w' (v : Value) (ao : Option Addr) (co : Nat) (hb : Below w6.heap.size w6 w') (hA : At w' ao (L.map fun s => Tree.root (Tree.seg l s.1 s.2.1))) => r6texts_any L rs (L.map fun s => Tree.root (Tree.seg l s.1 s.2.1)) _ _ ao co w' (S6.out.below hb) hA lO (by omega) o3' o2
                    obtain ⟨OW, hOW⟩ : ∃ O, Hid ((L.map fun s => Tree.root (Tree.seg l s.1 s.2.1)) = O) := ⟨_, rfl⟩
                    rw [hOW.out] at hO lO t3 x2 HO3
                    obtain ⟨Y, hY⟩ : ∃ Y, Hid (Tree.txs rs (L.map (·.2.2)) OW = Y) := ⟨_, rfl⟩
                    rw [hX.out] at t1 x1 HO3
                    rw [hY.out] at t3 x2 HO3
                    have t4 := fun w' (a1 a2 : Option Addr) (c1 c2 : Nat) (h1 : At w' a1 X) (h2 : At w' a2 Y) => r6highest_any X Y a1 a2 c1 c2 w' h1 h2 (by omega) (by rw [x1, List.length_map]; omega)
                    rw [lO, hnl.out] at t3
                    rw [hnl.out, hnp3.out] at t1
                    have HO4 := hid HO3
                    have HRW := hid (show ∀ w', Below w6.heap.size w6 w' → w'.heap[w.heap.size]? = some (.cells #[Value.string ⟨#[]⟩, .string ⟨#[]⟩] 26 (0, 0)) from fun w' hb => ((hb.block _ (by have := B6.out.size; have := lt_of_heap HR.out; omega)).trans (B6.out.block _ (lt_of_heap HR.out))).trans HR.out)
                    have BW := hid (show ∀ w', Below w6.heap.size w6 w' → Below w.heap.size w w' from fun w' hb => HB.out.trans ((B6.out.trans (hb.mono B6.out.size)).mono HB.out.size))
                    have HRm := hid (show ∀ (w' : World) (u v : Value), w'.heap[w.heap.size]? = some (.cells #[Value.string ⟨#[]⟩, .string ⟨#[]⟩] 26 (0, 0)) → ((w'.setCell ⟨w.heap.size, 0, none⟩ u).setCell ⟨w.heap.size, 1, none⟩ v).heap[w.heap.size]? = some (.cells #[u, v] 26 (0, 0)) from fun w' u v h => heap_setCell_same _ _ 1 _ _ _ (heap_setCell_same w' _ 0 _ _ _ h))
                    have HBm := hid (show ∀ (w' : World) (u v : Value), Below w.heap.size w w' → Below w.heap.size w ((w'.setCell ⟨w.heap.size, 0, none⟩ u).setCell ⟨w.heap.size, 1, none⟩ v) from fun w' u v h => (h.setCell (p := ⟨w.heap.size, 0, none⟩) (Nat.le_refl _) u).setCell (p := ⟨w.heap.size, 1, none⟩) (Nat.le_refl _) v)
                    obtain ⟨oa, oc, eo, _⟩ := own_at hO.out
                    subst eo
                    rw [lO, hnl.out]
                    have n1 : (0 : Int) ≤ (fb : Int) := by omega
                    have n2 : (fb : Int) ≤ (M : Int) := by omega
                    have n3 : (M : Int) ≤ (ca : Int) := by omega
                    have n4 : ¬ ca = fb := by omega
                    have S0 := CF.out wr hB.out
                    clear HO HO3 hX hY hOW hrs x1 x2 eO o1 o2 o3 o3' f1 f2 f3 sl
                    obtain ⟨p, pq, z, hz3⟩ : ∃ p q z, Hid (hiO X Y = ((p, q), z)) := ⟨_, _, _, rfl⟩
                    rw [hz3.out] at HO4 t4
                    rw [show prP ((p, pq), z).1.1 ((p, pq), z).1.2 = Value.agg #[.string ⟨p.toArray⟩, .string ⟨pq.toArray⟩] from rfl] at t4
                    clear hz3
                    go_wp2
                    go_region_held3 (fun w' => w'.cell? ⟨gf, 0, none⟩ = some (.int .i64 (fb : Int)) ∧ w'.cell? ⟨gf, 1, none⟩ = some (.int .i64 (M : Int))) (first | exact S0 | exact S7 | exact S8 | exact S9 | exact S10 | exact S11) (first
                      | (go_at_call 29; (with_reducible refine t1.mono ?_); rintro e w7 ⟨v7, rfl, O7, b7'⟩; have b7 := hid (hB.out.trans (((Below.refl wr.heap.size wr).drew.trans b7').mono hB.out.size)); have S7 := CF.out _ b7.out; have O7 := hid O7; obtain ⟨a7, c7, rfl, _⟩ := own_at O7.out)
                      | (go_at_call 33; (with_reducible refine (t2 w7 b7.out).mono ?_); rintro e w8 ⟨rfl, b8'⟩; have b8 := hid (b7.out.trans (b8'.mono b7.out.size)); have S8 := CF.out _ b8.out; obtain ⟨oa', oc', eo', A8⟩ := own_at ((hO.out.below (show Below wr.heap.size wr w7 from (Below.refl wr.heap.size wr).drew.trans b7') (Nat.le_refl _)).below b8' (Nat.le_refl _)); have t3' := t3 w8 (.bool true) oa' oc' b8.out A8; rw [show oa' = oa from (by injection eo' with e1 e2 e3; exact e1.symm), show oc' = oc from (by injection eo' with e1 e2 e3; exact e3.symm)] at t3'; have O8 := hid (O7.out.below b8' (Nat.le_refl _)))
                      | (go_at_call 29; (with_reducible refine t3'.mono ?_); rintro e w9 ⟨v9, rfl, O9, b9'⟩; have b9 := hid (b8.out.trans (b9'.mono b8.out.size)); have S9 := CF.out _ b9.out; obtain ⟨a9, c9, rfl, A9⟩ := own_at O9; obtain ⟨a7', c7', e7', A7⟩ := own_at (O8.out.below b9' (Nat.le_refl _)); have t4' := t4 w9 a7' a9 c7' c9 A7 A9; rw [← e7'] at t4')
                      | (go_at_call 28; (with_reducible refine t4'.mono ?_); rintro e w10 ⟨rfl, b10'⟩; have b10 := hid (b9.out.trans (b10'.mono b9.out.size)); have S10 := CF.out _ b10.out; have HR10 := hid (HRW.out _ b10.out); have q0 : w10.cell? ⟨w.heap.size, 0, none⟩ = some (.string ⟨#[]⟩) := (by rw [cell_of_row _ _ _ _ _ _ HR10.out]; rfl); have q1 : w10.cell? ⟨w.heap.size, 1, none⟩ = some (.string ⟨#[]⟩) := (by rw [cell_of_row _ _ _ _ _ _ HR10.out]; rfl); have y0 : w10.frozen? ⟨w.heap.size, 0, none⟩ = false := frozen_of_row _ _ _ _ _ HR10.out; have y1 : w10.frozen? ⟨w.heap.size, 1, none⟩ = false := frozen_of_row _ _ _ _ _ HR10.out; have S11 : ((w10.setCell ⟨w.heap.size, 0, none⟩ (.string ⟨p.toArray⟩)).setCell ⟨w.heap.size, 1, none⟩ (.string ⟨pq.toArray⟩)).cell? ⟨gf, 0, none⟩ = some (.int .i64 (fb : Int)) ∧ ((w10.setCell ⟨w.heap.size, 0, none⟩ (.string ⟨p.toArray⟩)).setCell ⟨w.heap.size, 1, none⟩ (.string ⟨pq.toArray⟩)).cell? ⟨gf, 1, none⟩ = some (.int .i64 (M : Int)) := ⟨(cell_two hgf.out _ _).trans S10.1, (cell_two hgf.out _ _).trans S10.2⟩))
                    clear S0 S7 S8 S9 S10 S11 q0 q1 y0 y1 t1 t2 t3 t3' t4 t4'
                    go_wp2
                    refine bodyPost_ret (results_row6 rfl _ _ (w.heap.size) 26 _ (0, 0) _ rfl (HRm.out w10 _ _ HR10.out) Tryz.underlying26 rfl sizePr) rfl ?_
                    exact ⟨by rw [HO4.out]; rfl, HBm.out w10 _ _ (BW.out _ b10.out)⟩
              · have JB := hid (show ∀ w', Below w6.heap.size w6 w' → At w' (some (Addr.mk y.block (y.off + 1) none)) P' from fun w' hb => (JD.out w' hb).drop 1)
                clear JD
                go_wp2
                rw [hnl.out]
                go_loopw [17, 18] (fun ov i w' => ∃ q : Nat, q ≤ nl ∧ i = .int .i64 (q : Int) ∧ Hid (Own w' w6.heap.size ov (svs ((L.map fun s => Tree.root (Tree.seg l s.1 s.2.1)).take q))) ∧ Hid (Below w6.heap.size w6 w')) (fun _ i _ => nl - (intOf i).toNat)
                case atStart => exact ⟨0, Nat.zero_le _, rfl, by unfold Hid; rw [List.take_zero]; exact Own.nil _ _, Below.refl _ _⟩
                case round =>
                  obtain ⟨q, hq, rfl, hO, hB⟩ := hrel
                  by_cases hqn : q < nl
                  · have qL : q < L.length := by rw [hnl.out]; exact hqn
                    have d0 : (q : Int) < (nl : Int) := by omega
                    obtain ⟨g, cap, hg, c0, c1, c2, gl⟩ := S6.out.at (List.getElem?_eq_getElem qL)
                    obtain ⟨rfl, rfl⟩ : sa = some ⟨g, 0, none⟩ ∧ sc = cap := by injection hg with e1 e2 e3; exact ⟨e1, e3⟩
                    obtain ⟨x1, x2⟩ := lin.out _ (List.getElem_mem qL)
                    have ek : (L.map fun s => Tree.root (Tree.seg l s.1 s.2.1)).take (q + 1) = (L.map fun s => Tree.root (Tree.seg l s.1 s.2.1)).take q ++ [Tree.root (Tree.seg l L[q].1 L[q].2.1)] := by
                      rw [List.take_succ_eq_append_getElem (by simpa using qL)]; simp
                    generalize L[q].1 = x at *
                    generalize L[q].2.1 = y at *
                    obtain ⟨r, hr⟩ : ∃ r, Hid (Tree.root (Tree.seg l x y) = r) := ⟨_, rfl⟩
                    rw [hr.out] at ek
                    have sl : (Tree.seg l x y).length = y - x := Tree.seg_len (by rw [hn.out]; omega)
                    have BL := hid (show ∀ w', Below wr.heap.size wr w' → Below w6.heap.size w6 w' from fun w' hb => hB.out.trans (hb.mono hB.out.size))
                    have CC := hid (show ∀ w', Below w6.heap.size w6 w' → w'.cell? ⟨g, q * 3, none⟩ = some (.int .i64 (x : Int)) ∧ w'.cell? ⟨g, q * 3 + 1, none⟩ = some (.int .i64 (y : Int)) from fun w' hb => ⟨(hb.cell (p := ⟨g, q * 3, none⟩) gl).trans c0, (hb.cell (p := ⟨g, q * 3 + 1, none⟩) gl).trans c1⟩)
                    have i6 := r6root_any (Tree.seg l x y) (OL.out.seg x y) (some (pa.add x)) (ca - x) wr.drew (by rw [sl]; omega) (by have := LA.out.2; omega) (seg_at ((Ha.out.below B6.out (Nat.le_refl _)).below (hB.out.drew) (by have := B6.out.size; omega)) x y) hr
                    rw [sl] at i6
                    have tk : ((L.map fun s => Tree.root (Tree.seg l s.1 s.2.1)).take q).length ≤ 1000000 := by rw [List.length_take]; omega
                    have n1 : (0 : Int) ≤ (x : Int) := by omega
                    have n2 : (x : Int) ≤ (y : Int) := by omega
                    have n3 : (y : Int) ≤ (ca : Int) := by omega
                    have n4 : ¬ ca = x := by omega
                    have n5 : (y : Int) ≤ (n : Int) := by omega
                    obtain ⟨ova, ovc, rfl⟩ := hO.out.shape
                    have S0 := CC.out wr hB.out
                    clear c0 c1 c2 hg x1 x2
                    go_wp2
                    go_region_held3 (fun w' => w'.cell? ⟨g, q * 3, none⟩ = some (.int .i64 (x : Int)) ∧ w'.cell? ⟨g, q * 3 + 1, none⟩ = some (.int .i64 (y : Int))) (first | exact S0 | exact S7 | exact S7a | exact S8) (first
                      | (go_at_call 33; (with_reducible refine i6.mono ?_); rintro e w7 ⟨rfl, b7'⟩; have b7 := hid (hB.out.trans (((Below.refl wr.heap.size wr).drew.trans b7').mono hB.out.size)); have S7 := CC.out _ b7.out; obtain ⟨v8, w8, hap, O8, b8⟩ := append_text w7 w6.heap.size _ _ r (hO.out.below (show Below wr.heap.size wr w7 from (Below.refl wr.heap.size wr).drew.trans b7') (Nat.le_refl _)) (by omega) b7.out.size; rw [svS] at hap; have S7a := CC.out (w7.alloc (.cells #[.string ⟨r.toArray⟩] 9)) (b7.out.alloc b7.out.size _); have B8 := hid (b7.out.trans b8); have S8 := CC.out _ B8.out; have O8 := hid O8)
                      | (refine step_append6 rfl _ _ 22 rfl _ _ _ w8 rfl rfl hap ?_))
                    rw [← ek] at O8
                    clear S0 S7 S7a S8 hap b8 b7' b7
                    go_wp2
                    exact ⟨⟨q + 1, by omega, by go_num, O8, B8⟩, by simp [intOf]; omega⟩
                  · obtain rfl : q = nl := by omega
                    have d0 : ¬ (q : Int) < (q : Int) := by omega
                    have eO : (L.map fun s => Tree.root (Tree.seg l s.1 s.2.1)).take q = L.map fun s => Tree.root (Tree.seg l s.1 s.2.1) := List.take_of_length_le (by rw [List.length_map, hnl.out]; exact Nat.le_refl _)
                    rw [eO] at hO
                    have lO : (L.map fun s => Tree.root (Tree.seg l s.1 s.2.1)).length = L.length := List.length_map ..
                    obtain ⟨rs, hrs⟩ : ∃ r, Hid (Tree.root (Tree.seg l fb M) = r) := ⟨_, rfl⟩
                    have HO3 := HO.out
                    rw [hrs.out] at HO3
                    have o3' := o3
                    rw [hrs.out] at o3'
                    have x1 := Tree.txs_length p0 (L.map (·.2.2)) P' f3.symm
                    have x2 := Tree.txs_length rs (L.map (·.2.2)) (L.map fun s => Tree.root (Tree.seg l s.1 s.2.1)) (by rw [List.length_map, List.length_map])
                    have t1 := r6texts_any L p0 P' _ _ (some (Addr.mk y.block (y.off + 1) none)) (cd - 1) wr.drew (S6.out.below hB.out.drew) (JB.out _ hB.out.drew) (by rw [f3, List.length_map]) (by omega) f1 f2
                    have sl : (Tree.seg l fb M).length = M - fb := Tree.seg_len (by rw [hn.out]; omega)
                    have t2 := fun w' (hb : Below w6.heap.size w6 w') => r6root_any (Tree.seg l fb M) (OL.out.seg fb M) (some (pa.add fb)) (ca - fb) w' (by rw [sl]; omega) (by have := LA.out.2; omega) (seg_at ((Ha.out.below B6.out (Nat.le_refl _)).below hb (by have := B6.out.size; omega)) fb M) hrs
                    rw [sl] at t2
                    obtain ⟨X, hX⟩ : ∃ X, Hid (Tree.txs p0 (L.map (·.2.2)) P' = X) := ⟨_, rfl⟩
                    have t3 := fun w' (v : Value) (ao : Option Addr) (co : Nat) (hb : Below w6.heap.size w6 w') (hA : At w' ao (L.map fun s => Tree.root (Tree.seg l s.1 s.2.1))) => r6texts_any L rs (L.map fun s => Tree.root (Tree.seg l s.1 s.2.1)) _ _ ao co w' (S6.out.below hb) hA lO (by omega) o3' o2
                    obtain ⟨OW, hOW⟩ : ∃ O, Hid ((L.map fun s => Tree.root (Tree.seg l s.1 s.2.1)) = O) := ⟨_, rfl⟩
                    rw [hOW.out] at hO lO t3 x2 HO3
                    obtain ⟨Y, hY⟩ : ∃ Y, Hid (Tree.txs rs (L.map (·.2.2)) OW = Y) := ⟨_, rfl⟩
                    rw [hX.out] at t1 x1 HO3
                    rw [hY.out] at t3 x2 HO3
                    have t4 := fun w' (a1 a2 : Option Addr) (c1 c2 : Nat) (h1 : At w' a1 X) (h2 : At w' a2 Y) => r6highest_any X Y a1 a2 c1 c2 w' h1 h2 (by omega) (by rw [x1, List.length_map]; omega)
                    rw [lO, hnl.out] at t3
                    rw [hnl.out, hnp2.out] at t1
                    have HO4 := hid HO3
                    have HRW := hid (show ∀ w', Below w6.heap.size w6 w' → w'.heap[w.heap.size]? = some (.cells #[Value.string ⟨#[]⟩, .string ⟨#[]⟩] 26 (0, 0)) from fun w' hb => ((hb.block _ (by have := B6.out.size; have := lt_of_heap HR.out; omega)).trans (B6.out.block _ (lt_of_heap HR.out))).trans HR.out)
                    have BW := hid (show ∀ w', Below w6.heap.size w6 w' → Below w.heap.size w w' from fun w' hb => HB.out.trans ((B6.out.trans (hb.mono B6.out.size)).mono HB.out.size))
                    have HRm := hid (show ∀ (w' : World) (u v : Value), w'.heap[w.heap.size]? = some (.cells #[Value.string ⟨#[]⟩, .string ⟨#[]⟩] 26 (0, 0)) → ((w'.setCell ⟨w.heap.size, 0, none⟩ u).setCell ⟨w.heap.size, 1, none⟩ v).heap[w.heap.size]? = some (.cells #[u, v] 26 (0, 0)) from fun w' u v h => heap_setCell_same _ _ 1 _ _ _ (heap_setCell_same w' _ 0 _ _ _ h))
                    have HBm := hid (show ∀ (w' : World) (u v : Value), Below w.heap.size w w' → Below w.heap.size w ((w'.setCell ⟨w.heap.size, 0, none⟩ u).setCell ⟨w.heap.size, 1, none⟩ v) from fun w' u v h => (h.setCell (p := ⟨w.heap.size, 0, none⟩) (Nat.le_refl _) u).setCell (p := ⟨w.heap.size, 1, none⟩) (Nat.le_refl _) v)
                    obtain ⟨oa, oc, eo, _⟩ := own_at hO.out
                    subst eo
                    rw [lO, hnl.out]
                    have n1 : (0 : Int) ≤ (fb : Int) := by omega
                    have n2 : (fb : Int) ≤ (M : Int) := by omega
                    have n3 : (M : Int) ≤ (ca : Int) := by omega
                    have n4 : ¬ ca = fb := by omega
                    have S0 := CF.out wr hB.out
                    clear HO HO3 hX hY hOW hrs x1 x2 eO o1 o2 o3 o3' f1 f2 f3 sl
                    obtain ⟨p, pq, z, hz3⟩ : ∃ p q z, Hid (hiO X Y = ((p, q), z)) := ⟨_, _, _, rfl⟩
                    rw [hz3.out] at HO4 t4
                    rw [show prP ((p, pq), z).1.1 ((p, pq), z).1.2 = Value.agg #[.string ⟨p.toArray⟩, .string ⟨pq.toArray⟩] from rfl] at t4
                    clear hz3
                    go_wp2
                    go_region_held3 (fun w' => w'.cell? ⟨gf, 0, none⟩ = some (.int .i64 (fb : Int)) ∧ w'.cell? ⟨gf, 1, none⟩ = some (.int .i64 (M : Int))) (first | exact S0 | exact S7 | exact S8 | exact S9 | exact S10 | exact S11) (first
                      | (go_at_call 29; (with_reducible refine t1.mono ?_); rintro e w7 ⟨v7, rfl, O7, b7'⟩; have b7 := hid (hB.out.trans (((Below.refl wr.heap.size wr).drew.trans b7').mono hB.out.size)); have S7 := CF.out _ b7.out; have O7 := hid O7; obtain ⟨a7, c7, rfl, _⟩ := own_at O7.out)
                      | (go_at_call 33; (with_reducible refine (t2 w7 b7.out).mono ?_); rintro e w8 ⟨rfl, b8'⟩; have b8 := hid (b7.out.trans (b8'.mono b7.out.size)); have S8 := CF.out _ b8.out; obtain ⟨oa', oc', eo', A8⟩ := own_at ((hO.out.below (show Below wr.heap.size wr w7 from (Below.refl wr.heap.size wr).drew.trans b7') (Nat.le_refl _)).below b8' (Nat.le_refl _)); have t3' := t3 w8 (.bool true) oa' oc' b8.out A8; rw [show oa' = oa from (by injection eo' with e1 e2 e3; exact e1.symm), show oc' = oc from (by injection eo' with e1 e2 e3; exact e3.symm)] at t3'; have O8 := hid (O7.out.below b8' (Nat.le_refl _)))
                      | (go_at_call 29; (with_reducible refine t3'.mono ?_); rintro e w9 ⟨v9, rfl, O9, b9'⟩; have b9 := hid (b8.out.trans (b9'.mono b8.out.size)); have S9 := CF.out _ b9.out; obtain ⟨a9, c9, rfl, A9⟩ := own_at O9; obtain ⟨a7', c7', e7', A7⟩ := own_at (O8.out.below b9' (Nat.le_refl _)); have t4' := t4 w9 a7' a9 c7' c9 A7 A9; rw [← e7'] at t4')
                      | (go_at_call 28; (with_reducible refine t4'.mono ?_); rintro e w10 ⟨rfl, b10'⟩; have b10 := hid (b9.out.trans (b10'.mono b9.out.size)); have S10 := CF.out _ b10.out; have HR10 := hid (HRW.out _ b10.out); have q0 : w10.cell? ⟨w.heap.size, 0, none⟩ = some (.string ⟨#[]⟩) := (by rw [cell_of_row _ _ _ _ _ _ HR10.out]; rfl); have q1 : w10.cell? ⟨w.heap.size, 1, none⟩ = some (.string ⟨#[]⟩) := (by rw [cell_of_row _ _ _ _ _ _ HR10.out]; rfl); have y0 : w10.frozen? ⟨w.heap.size, 0, none⟩ = false := frozen_of_row _ _ _ _ _ HR10.out; have y1 : w10.frozen? ⟨w.heap.size, 1, none⟩ = false := frozen_of_row _ _ _ _ _ HR10.out; have S11 : ((w10.setCell ⟨w.heap.size, 0, none⟩ (.string ⟨p.toArray⟩)).setCell ⟨w.heap.size, 1, none⟩ (.string ⟨pq.toArray⟩)).cell? ⟨gf, 0, none⟩ = some (.int .i64 (fb : Int)) ∧ ((w10.setCell ⟨w.heap.size, 0, none⟩ (.string ⟨p.toArray⟩)).setCell ⟨w.heap.size, 1, none⟩ (.string ⟨pq.toArray⟩)).cell? ⟨gf, 1, none⟩ = some (.int .i64 (M : Int)) := ⟨(cell_two hgf.out _ _).trans S10.1, (cell_two hgf.out _ _).trans S10.2⟩))
                    clear S0 S7 S8 S9 S10 S11 q0 q1 y0 y1 t1 t2 t3 t3' t4 t4'
                    go_wp2
                    refine bodyPost_ret (results_row6 rfl _ _ (w.heap.size) 26 _ (0, 0) _ rfl (HRm.out w10 _ _ HR10.out) Tryz.underlying26 rfl sizePr) rfl ?_
                    exact ⟨by rw [HO4.out]; rfl, HBm.out w10 _ _ (BW.out _ b10.out)⟩
    · have e1 : (za != 0) = true := by simpa using h0
      have HO2 : Hid (conO l m old P = (([], []), 61)) := by
        unfold conO; rw [Hid, if_pos wA, if_neg fun h => h0 (by rw [hrt.out] at h; exact hza.out.symm.trans h)]
      rw [hn.out] at i1 i2 i3 ⊢
      rw [hnp.out] at i3 ⊢
      clear h0 hza wA ol
      go_enter Tryz.func12, Tryz.ntmps12
      go_wp2_with (first
        | (go_at_call 32; (with_reducible refine i1.mono ?_); rintro e w9 ⟨rfl, h9⟩; have h9 := h9.symm; subst h9)
        | (go_at_call 33; (with_reducible refine i2.mono ?_); rintro e w1 ⟨rfl, b1⟩)
        | (go_at_call 39; (with_reducible refine (i3 w1 b1).mono ?_); rintro e w2 ⟨rfl, b2⟩; have B2 := hid (b1.trans (b2.mono b1.size)); have HR2 := hid ((B2.out.block _ (lt_of_heap HR.out)).trans HR.out); have HB2 := hid (HB.out.trans (B2.out.mono HB.out.size)))
        | ((with_reducible show wpList _ _ _ (Oper.mk _ (Op.store 26 _ _) _ _ _ _ :: _) _ _); go_must (refine wpList_store_row rfl 26 _ _ rfl (w.heap.size) _ rfl rfl 26 _ HR2.out sizePr rfl (onePr [] []) ?_)))
      refine bodyPost_ret (results_row6 rfl _ _ (w.heap.size) 26 _ (0, 0) _ rfl (setRow_heap _ _ _ _ _ _ HR2.out) Tryz.underlying26 rfl sizePr) rfl ?_
      exact ⟨by rw [HO2.out]; rfl, Below.setRow HB2.out (by omega) _⟩
  · rw [decide_eq_false wA] at i1
    have HO2 : Hid (conO l m old P = (([], []), 1)) := by unfold conO; exact if_neg wA
    clear wA
    generalize l.length = n at *
    generalize P.length = np at *
    go_enter Tryz.func12, Tryz.ntmps12
    go_wp2_with (first
      | (go_at_call 32; (with_reducible refine i1.mono ?_); rintro e w9 ⟨rfl, h9⟩; have h9 := h9.symm; subst h9)
      | ((with_reducible show wpList _ _ _ (Oper.mk _ (Op.store 26 _ _) _ _ _ _ :: _) _ _); go_must (refine wpList_store_row rfl 26 _ _ rfl (w.heap.size) _ rfl rfl 26 _ HR.out sizePr rfl (onePr [] []) ?_)))
    refine bodyPost_ret (results_row6 rfl _ _ (w.heap.size) 26 _ (0, 0) _ rfl (setRow_heap _ _ _ _ _ _ HR.out) Tryz.underlying26 rfl sizePr) rfl ?_
    exact ⟨by rw [HO2.out]; rfl, Below.setRow HB.out (by omega) _⟩
end Go.Proofs.YthoekndjeclimaaGreatDoor
