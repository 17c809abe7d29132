import Derived.Test.YthoekndjeclimaaGreatDoorCEX3
namespace Go.Proofs.YthoekndjeclimaaGreatDoor
open Go.RowKit
theorem fks_in : ∀ (F b n i : Nat) (f : Tree.Fork), f ∈ Tree.fks F b n i → b ≤ Tree.fkB f ∧ Tree.fkB f < Tree.fkM f ∧ Tree.fkM f < Tree.fkE f ∧ Tree.fkE f ≤ b + n
  | 0, b, n, i, f, h => by simp [Tree.fks] at h
  | F + 1, b, n, i, f, h => by
    by_cases h2 : n < 2
    · rw [Tree.fks_small h2] at h; simp at h
    · have s1 := Tree.sp_lt (n := n) (by omega)
      have s2 := Tree.sp_pos (n := n) (by omega)
      by_cases hi : i < b + Tree.sp n
      · rw [Tree.fks_left (by omega) hi] at h
        rcases List.mem_cons.1 h with rfl | h
        · show b ≤ b ∧ b < b + Tree.sp n ∧ b + Tree.sp n < b + n ∧ b + n ≤ b + n; omega
        · have := fks_in F b (Tree.sp n) i f h; omega
      · rw [Tree.fks_right (by omega) hi] at h
        rcases List.mem_cons.1 h with rfl | h
        · show b ≤ b ∧ b < b + Tree.sp n ∧ b + Tree.sp n < b + n ∧ b + n ≤ b + n; omega
        · have := fks_in F (b + Tree.sp n) (n - Tree.sp n) i f h; omega
theorem cutE_mem {m : Nat} {l : List Tree.Fork} {f : Tree.Fork} (h : f ∈ Tree.cutE m l) : f ∈ l := (List.takeWhile_sublist _).mem h
theorem seg_all (l : List (List UInt8)) : Tree.seg l 0 (0 + l.length) = l := by
  unfold Tree.seg
  rw [Nat.zero_add, List.take_length, List.drop_zero]
set_option maxRecDepth 100000 in
set_option maxHeartbeats 4000000 in
theorem partProof_any (l : List (List UInt8)) (m : Nat) (old : List UInt8) (P : List (List UInt8)) (vl vp : Value) (w : World) (p q : List UInt8) (hl : Lv w vl l) (hP : Lv w vp P) (ol : Okl l) (h1 : 1 ≤ m) (h2 : m < l.length) (hlen : P.length = Tree.pl m l.length true) (ho : old.length = 32) (HP : Tree.Hs P) (T : Tabs w)
    (hf : Tree.hi (Tree.txs (Tree.frm m l.length old P) (Tree.PD m l.length) (Tree.bsd m l.length P)) (Tree.txs (Tree.stt l.length m l) (Tree.PD m l.length) (Tree.own l.length m l)) = some (p, q)) :
    Calls Tryz.prog 38 #[vl, .int .i64 (m : Int), sv old, vp] w fun e w' => e = .panicked [{ v := prI p q, recovered := false }] ∧ Below w.heap.size w w' := by
  obtain ⟨fk, hfk⟩ : ∃ fk, Tree.cutE m (Tree.fks l.length 0 l.length (m - 1)) = fk := ⟨_, rfl⟩
  have hn4 := ol.2
  have hR : (fk.map Tree.fkR).reverse = Tree.PD m l.length := by
    have h := Tree.fks_PD l.length 0 l.length m (Nat.le_refl _) h1 (by omega)
    rw [Nat.zero_add] at h
    rw [← hfk, h, List.reverse_reverse]
  have hnf : fk.length = (Tree.PD m l.length).length := by rw [← hR, List.length_reverse, List.length_map]
  have hY : fk.map (Tree.ftx l) = (Tree.txs (Tree.stt l.length m l) (Tree.PD m l.length) (Tree.own l.length m l)).reverse := by
    have h := Tree.fks_ftx l.length 0 l.length m l (Nat.le_refl _) h1 (by omega) (by omega) ol.1
    rw [seg_all, Nat.zero_add] at h
    rw [← hfk]; exact h
  obtain ⟨f1, f2, f3⟩ := Tree.frm_ok hlen ho HP
  obtain ⟨a1, a2, a3, a4⟩ := Tree.own_all l.length m l (Nat.le_refl _) h1 (by omega) ol.1
  have HIN : Hid (∀ f ∈ fk, 0 ≤ Tree.fkB f ∧ Tree.fkB f < Tree.fkM f ∧ Tree.fkM f < Tree.fkE f ∧ Tree.fkE f ≤ l.length) := fun f hf => by
    rw [← hfk] at hf
    have := fks_in _ _ _ _ f (cutE_mem hf)
    omega
  have hlt : fk.length ≤ 1000 := by
    rw [← hfk]
    have h3 : (Tree.fks l.length 0 l.length (m - 1)).length ≤ 1000 := by rw [fks_length]; exact D_len (by omega) (by omega)
    exact Nat.le_trans (List.takeWhile_sublist _).length_le h3
  have hF : Tree.fst2 (Tree.txs (Tree.frm m l.length old P) (Tree.PD m l.length) (Tree.bsd m l.length P)).reverse (fk.map (Tree.ftx l)) = some (p, q) := by
    rw [hY, Tree.fst2_rev _ _ (by rw [Tree.txs_length _ _ _ f3.symm, Tree.txs_length _ _ _ a1.symm])]; exact hf
  obtain ⟨X, hX⟩ : ∃ X, (Tree.txs (Tree.frm m l.length old P) (Tree.PD m l.length) (Tree.bsd m l.length P)).reverse = X := ⟨_, rfl⟩
  have HXL0 : X.length = fk.length := by rw [← hX, List.length_reverse, Tree.txs_length _ _ _ f3.symm, hnf]
  have i2 := proofForks_any l.length m (by omega) h1 (by omega)
  rw [hfk] at i2
  have i3 := fun w' v (B : Nat) (vb : Value) (F : Fks w' B v fk) (hb : Lv w' vb (Tree.bsd m l.length P)) (T' : Tabs w') => climb_any fk (Tree.frm m l.length old P) (Tree.bsd m l.length P) v vb B w' F hb (by rw [f3, hnf]) f1 f2 hlt T'
  rw [hR, hX] at i3
  rw [hX] at hF
  obtain ⟨al, cl, rfl, k1, k2, k3⟩ := hl
  obtain ⟨xl, rfl, _⟩ := k3 0 _ (List.getElem?_eq_getElem (by omega))
  obtain ⟨ap, cp, rfl, q1, q2, q3⟩ := hP
  have i1 := ones_any m (by omega)
  have hfl := Tree.fl_pw h1 h2 (by omega)
  have HF := hid hF
  have HA := hid k3
  have OL := hid ol
  have HT := hid T
  obtain ⟨n, HN⟩ : ∃ n, Hid (l.length = n) := ⟨_, rfl⟩
  obtain ⟨nf, HNF⟩ : ∃ nf, Hid (fk.length = nf) := ⟨_, rfl⟩
  obtain ⟨np, HNP⟩ : ∃ np, Hid (P.length = np) := ⟨_, rfl⟩
  have HXL : Hid (X.length = nf) := by unfold Hid; rw [HXL0, HNF.out]
  rw [HNF.out] at hlt
  rw [HN.out] at i2 h2 hn4 hfl k1 HIN hlen ⊢
  rw [HNP.out] at q1 hlen ⊢
  rw [HN.out] at i3 f1 f2 f3
  have HQ3 := hid q3
  have HPL := hid hlen
  clear hf hF hX hR hnf hY a1 a2 a3 a4 hfk HXL0 k3 q3 ol T hlen
  by_cases hpw : Tree.pw m = true
  · rw [hpw] at i1 hfl
    have e1 : Tree.frm m n old P = old := by unfold Tree.frm; rw [hfl]; rfl
    have e2 : Tree.bsd m n P = P := by unfold Tree.bsd; rw [hfl]; rfl
    rw [e1, e2] at i3
    have i3 := fun w' v (hb : Below w.heap.size w w') (F : Fks w' w.heap.size v fk) => i3 w' v w.heap.size (.slice ap np cp) F ⟨ap, cp, by rw [HNP.out], by rw [HNP.out]; exact q1, q2, HQ3.out.below hb (Nat.le_refl _)⟩ (HT.out.below hb HT.out.lt)
    have i1 := i1 w
    have i2 := i2 w
    rw [svS old] at i3 ⊢
    clear f1 f2 f3 hfl e1 e2 hpw HP ho
    go_enter Tryz.func38, Tryz.ntmps38
    go_wp2_with (go_at_call 58; fail)
    refine i1.mono ?_
    rintro e w0 ⟨c, rfl, rfl, hc⟩
    clear i1
    have hc2 : (c != 1) = false := by rw [bne, hc]; rfl
    go_wp2_with (go_at_call 59; fail)
    refine i2.mono ?_
    rintro e w1 ⟨v1, rfl, F1, b1⟩
    clear i2
    have i3 := i3 w1 v1 b1 F1
    obtain ⟨a1, c1, rfl, k1, k2⟩ := F1.1.shape
    rw [HNF.out] at k1 i3 F1 ⊢
    have HFK := hid F1.1
    have HB1 := hid b1
    clear b1 F1
    go_wp2_with (go_at_call 50; fail)
    refine i3.mono ?_
    rintro e w2 ⟨v2, rfl, V2, b2⟩
    clear i3
    obtain ⟨ax, cx, rfl, _, _, AX⟩ := V2
    rw [HXL.out]
    have HX := hid AX
    have HB2 := hid (HB1.out.trans (b2.mono HB1.out.size))
    have HFK2 := hid (HFK.out.kept b2.size (fun g hg => b2.block g (HFK.out.lt g hg)))
    clear b2 AX HFK HB1
    go_wp2
    go_loopw [34] (fun i w' => ∃ k : Nat, i = .int .i64 (k : Int) ∧ k ≤ nf ∧ Hid (Tree.fst2 (X.drop k) ((fk.map (Tree.ftx l)).drop k) = some (p, q)) ∧ Hid (Below w2.heap.size w2 w')) (fun i _ => nf - (intOf i).toNat)
    case atStart => exact ⟨0, rfl, by omega, HF, hid (Below.refl _ _)⟩
    case round =>
      clear HF
      obtain ⟨k, rfl, hk, hf, hb⟩ := hrel
      obtain ⟨x, y, hx, hy, hor⟩ := fst2_drop hf.out
      have hkn : k < nf := by have := (List.getElem?_eq_some_iff.1 hx).1; have := HXL.out; omega
      have c0 : (k : Int) < (nf : Int) := by omega
      obtain ⟨zx, rfl, _, cx'⟩ := (HX.out.below hb.out (Nat.le_refl _)) k x hx
      obtain ⟨f, hfk, hfy⟩ : ∃ f, fk[k]? = some f ∧ Tree.ftx l f = y := by
        rw [List.getElem?_map] at hy
        cases h : fk[k]? with
        | none => rw [h] at hy; cases hy
        | some f => rw [h] at hy; exact ⟨f, rfl, Option.some.inj hy⟩
      obtain ⟨fb0, fb1, fb2, fb3⟩ := HIN.out f (List.mem_of_getElem? hfk)
      have HM := HFK2.out.kept hb.out.size (fun g hg => hb.out.block g (HFK2.out.lt g hg))
      obtain ⟨z1, z2, z3, z4⟩ := fvs_get fk k f hfk
      obtain ⟨g, cc, ev, x0, hgl⟩ := HM.cell z1
      obtain ⟨g', cc', ev', x1, _⟩ := HM.cell z2
      obtain ⟨g'', cc'', ev'', x2, _⟩ := HM.cell z3
      obtain ⟨g3, cc3, ev3, x3, _⟩ := HM.cell z4
      injection ev with ea eb ec
      injection ev' with ea' eb' ec'
      injection ev'' with ea'' eb'' ec''
      injection ev3 with ea3 eb3 ec3
      subst ea
      injection ea' with ea'
      injection ea' with ea'
      injection ea'' with ea''
      injection ea'' with ea''
      injection ea3 with ea3
      injection ea3 with ea3
      subst ea' ea'' ea3
      rw [Nat.mul_comm 4 k] at x0 x1 x2 x3
      clear ec ec' ec'' ec3 eb eb' eb'' eb3 z1 z2 z3 z4 HM
      rw [svS] at cx'
      have HBr := hid (HB2.out.trans (hb.out.mono HB2.out.size))
      -- the fork's variable
      obtain ⟨bb, hbb⟩ : ∃ bb, Tree.fkB f = bb := ⟨_, rfl⟩
      obtain ⟨mm, hmm⟩ : ∃ mm, Tree.fkM f = mm := ⟨_, rfl⟩
      obtain ⟨ee, hee⟩ : ∃ ee, Tree.fkE f = ee := ⟨_, rfl⟩
      obtain ⟨rr, hrr⟩ : ∃ rr, Tree.fkR f = rr := ⟨_, rfl⟩
      rw [hbb] at x0 fb0 fb1
      rw [hmm] at x1 fb1 fb2
      rw [hee] at x2 fb2 fb3
      rw [hrr] at x3
      have al := (Below.refl wr.heap.size wr).alloc (Nat.le_refl _) (.cells #[.int .i64 (bb : Int), .int .i64 (mm : Int), .int .i64 (ee : Int), .bool rr] 75)
      have ra := heap_alloc_new wr (.cells #[.int .i64 (bb : Int), .int .i64 (mm : Int), .int .i64 (ee : Int), .bool rr] 75)
      obtain ⟨wf, hwf⟩ : ∃ wf, wr.alloc (.cells #[.int .i64 (bb : Int), .int .i64 (mm : Int), .int .i64 (ee : Int), .bool rr] 75) = wf := ⟨_, rfl⟩
      rw [hwf] at al ra
      have CL : ∀ w', Below wf.heap.size wf w' → w'.cell? ⟨wr.heap.size, 0, none⟩ = some (.int .i64 (bb : Int)) ∧ w'.cell? ⟨wr.heap.size, 1, none⟩ = some (.int .i64 (mm : Int)) ∧ w'.cell? ⟨wr.heap.size, 2, none⟩ = some (.int .i64 (ee : Int)) := fun w' hb' => by
        have h1 := (hb'.block _ (lt_of_heap ra)).trans ra
        exact ⟨by rw [cell_of_row _ _ _ _ _ _ h1]; rfl, by rw [cell_of_row _ _ _ _ _ _ h1]; rfl, by rw [cell_of_row _ _ _ _ _ _ h1]; rfl⟩
      have HBf := hid (HBr.out.trans (al.mono HBr.out.size))
      have hL1 : (Tree.seg l bb ee).length = ee - bb := Tree.seg_len (by rw [HN.out]; omega)
      have hfy' : Hid (Tree.nt (Tree.root ((Tree.seg l bb ee).take (mm - bb))) (Tree.root ((Tree.seg l bb ee).drop (mm - bb))) = y) := by
        unfold Hid
        rw [← hfy]
        unfold Tree.ftx
        rw [hbb, hee, hmm]
      have i5 := partsText_any (Tree.seg l bb ee) (mm - bb) (xl.add bb) (cl - bb) wf.drew (by unfold Tree.seg; exact (OL.out.take ee).drop bb) (by omega) (by rw [hL1]; omega) (by rw [hL1]; omega) (by omega) (((HA.out.below HBf.out (Nat.le_refl _)).take ee).drop bb |>.heap rfl) ((HT.out.below HBf.out HT.out.lt).below (Below.refl _ _).drew (HT.out.below HBf.out HT.out.lt).lt) hfy'
      rw [hL1, svS y] at i5
      have S0 := CL wf.drew (Below.refl _ _).drew
      obtain ⟨d1, hd1⟩ : ∃ d1, Hid (mm - bb = d1) := ⟨_, rfl⟩
      rw [hd1.out] at i5
      have m0 : (0 : Int) ≤ (bb : Int) := by omega
      have m1 : (bb : Int) ≤ (ee : Int) := by omega
      have m2 : (ee : Int) ≤ (cl : Int) := by omega
      have m3 : (mm : Int) - (bb : Int) = (d1 : Int) := by have := hd1.out; omega
      have m6 : bb < cl := by omega
      have b9 : mm ≤ 4096 := by omega
      have b8 : d1 ≤ 4096 := by have := hd1.out; omega
      clear fb0 fb1 fb2 fb3 hfk hfy hfy' hbb hmm hee hrr hL1 ra hx hy
      go_wp2
      refine wp_region_held_drew (S := fun w' => w'.cell? ⟨wr.heap.size, 0, none⟩ = some (.int .i64 (bb : Int)) ∧ w'.cell? ⟨wr.heap.size, 1, none⟩ = some (.int .i64 (mm : Int)) ∧ w'.cell? ⟨wr.heap.size, 2, none⟩ = some (.int .i64 (ee : Int))) (by kernel_rfl) S0 (fun hHeld => ?_)
      refine wpAnyH_take (i := 0) (v := .string ⟨x.toArray⟩) rfl (by kernel_rfl) (by kernel_rfl) (by kernel_rfl) (fun _ _ _ h => h) (Or.inl ⟨by rfl, ?_⟩) hHeld ?_
      · intro w' hw'
        obtain ⟨y0, y1, y2⟩ := hw'
        go_simp
      dsimp only [Act.put]
      refine wpAnyH_take (i := 1) (v := .slice (some xl) n cl) rfl (by kernel_rfl) (by kernel_rfl) (by kernel_rfl) (fun _ _ _ h => h) (Or.inl ⟨by rfl, ?_⟩) hHeld ?_
      · intro w' hw'
        obtain ⟨y0, y1, y2⟩ := hw'
        go_simp
      dsimp only [Act.put]
      refine wpAnyH_take (i := 2) (v := .pointer (some ⟨wr.heap.size, 0, none⟩)) rfl (by kernel_rfl) (by kernel_rfl) (by kernel_rfl) (fun _ _ _ h => h) (Or.inl ⟨by rfl, ?_⟩) hHeld ?_
      · intro w' hw'
        obtain ⟨y0, y1, y2⟩ := hw'
        go_simp
      dsimp only [Act.put]
      refine wpAnyH_take (i := 3) (v := .int .i64 (bb : Int)) rfl (by kernel_rfl) (by kernel_rfl) (by kernel_rfl) (fun _ _ _ h => h) (Or.inl ⟨by rfl, ?_⟩) hHeld ?_
      · intro w' hw'
        obtain ⟨y0, y1, y2⟩ := hw'
        go_simp
      dsimp only [Act.put]
      refine wpAnyH_take (i := 4) (v := .pointer (some ⟨wr.heap.size, 2, none⟩)) rfl (by kernel_rfl) (by kernel_rfl) (by kernel_rfl) (fun _ _ _ h => h) (Or.inl ⟨by rfl, ?_⟩) hHeld ?_
      · intro w' hw'
        obtain ⟨y0, y1, y2⟩ := hw'
        go_simp
      dsimp only [Act.put]
      refine wpAnyH_take (i := 5) (v := .int .i64 (ee : Int)) rfl (by kernel_rfl) (by kernel_rfl) (by kernel_rfl) (fun _ _ _ h => h) (Or.inl ⟨by rfl, ?_⟩) hHeld ?_
      · intro w' hw'
        obtain ⟨y0, y1, y2⟩ := hw'
        go_simp
      dsimp only [Act.put]
      refine wpAnyH_take (i := 6) (v := .slice (some (xl.add bb)) (ee - bb) (cl - bb)) rfl (by kernel_rfl) (by kernel_rfl) (by kernel_rfl) (fun _ _ _ h => h) (Or.inl ⟨by rfl, ?_⟩) hHeld ?_
      · intro w' hw'
        obtain ⟨y0, y1, y2⟩ := hw'
        go_simp
        intro e
        omega
      dsimp only [Act.put]
      refine wpAnyH_take (i := 7) (v := .pointer (some ⟨wr.heap.size, 1, none⟩)) rfl (by kernel_rfl) (by kernel_rfl) (by kernel_rfl) (fun _ _ _ h => h) (Or.inl ⟨by rfl, ?_⟩) hHeld ?_
      · intro w' hw'
        obtain ⟨y0, y1, y2⟩ := hw'
        go_simp
      dsimp only [Act.put]
      refine wpAnyH_take (i := 8) (v := .int .i64 (mm : Int)) rfl (by kernel_rfl) (by kernel_rfl) (by kernel_rfl) (fun _ _ _ h => h) (Or.inl ⟨by rfl, ?_⟩) hHeld ?_
      · intro w' hw'
        obtain ⟨y0, y1, y2⟩ := hw'
        go_simp
      dsimp only [Act.put]
      refine wpAnyH_take (i := 9) (v := .pointer (some ⟨wr.heap.size, 0, none⟩)) rfl (by kernel_rfl) (by kernel_rfl) (by kernel_rfl) (fun _ _ _ h => h) (Or.inl ⟨by rfl, ?_⟩) hHeld ?_
      · intro w' hw'
        obtain ⟨y0, y1, y2⟩ := hw'
        go_simp
      dsimp only [Act.put]
      refine wpAnyH_take (i := 10) (v := .int .i64 (bb : Int)) rfl (by kernel_rfl) (by kernel_rfl) (by kernel_rfl) (fun _ _ _ h => h) (Or.inl ⟨by rfl, ?_⟩) hHeld ?_
      · intro w' hw'
        obtain ⟨y0, y1, y2⟩ := hw'
        go_simp
      dsimp only [Act.put]
      refine wpAnyH_take (i := 11) (v := .int .i64 (d1 : Int)) rfl (by kernel_rfl) (by kernel_rfl) (by kernel_rfl) (fun _ _ _ h => h) (Or.inl ⟨by rfl, ?_⟩) hHeld ?_
      · intro w' hw'
        obtain ⟨y0, y1, y2⟩ := hw'
        go_simp
        exact wrap_small _ (by omega) (by omega)
      dsimp only [Act.put]
      refine wpAnyH_ready (rs := [12]) (by kernel_rfl) (by decide) (AllReadyH.cons rfl (fun K' hK => ?_) AllReadyH.nil)
      rw [if_pos (by rfl)]
      go_wp2_with (go_at_call 55; fail)
      refine i5.mono ?_
      rintro e w5 ⟨rfl, c5⟩
      have b5 := drewBelow6 c5
      have S5 := CL w5 b5
      have HB5 := hid (HBf.out.trans (b5.mono HBf.out.size))
      have hb5 := hid (hb.out.trans ((al.mono hb.out.size).trans (b5.mono (Nat.le_trans hb.out.size al.size))))
      clear i5 c5 b5
      go_wp2
      refine hK.out _ _ S5 (fun _ => ?_)
      refine wpAnyH_ready (rs := [13]) (by kernel_rfl) (by decide) (AllReadyH.cons rfl (fun K2 hK2 => ?_) AllReadyH.nil)
      rw [if_pos (by rfl)]
      rcases hor with ⟨rfl, hnx⟩ | ⟨hne, rfl, rfl⟩
      · have i6 := compare_same x w5
        rw [svS] at i6
        have hf' := hid hnx
        clear hnx hf
        go_wp2_with (go_at_call 51; fail)
        refine i6.mono ?_
        rintro e w6 ⟨rfl, rfl⟩
        go_wp2
        refine hK2.out _ _ S5 (fun _ => ⟨by kernel_rfl, ?_⟩)
        go_wp2
        exact ⟨⟨k + 1, by go_num, by omega, hf', hb5⟩, by simp [intOf]; omega⟩
      · have i6 := compare_diff hne w5
        rw [svS, svS] at i6
        clear hf hne
        go_wp2_with (go_at_call 51; fail)
        refine i6.mono ?_
        rintro e w6 ⟨rfl, rfl⟩
        exact ⟨rfl, rfl, HB5.out⟩
  · have hpf : Tree.pw m = false := by simpa using hpw
    rw [hpf] at i1 hfl
    have e1 : Tree.frm m n old P = P.headD [] := by unfold Tree.frm; rw [hfl]; rfl
    have e2 : Tree.bsd m n P = P.tail := by unfold Tree.bsd; rw [hfl]; rfl
    have hp0 : 2 ≤ np := by
      have h3 := HPL.out
      unfold Tree.pl at h3
      rw [hfl] at h3
      have h4 : 0 < (Tree.PD m n).length := by
        refine Nat.pos_of_ne_zero fun h5 => ?_
        have h6 := List.length_eq_zero_iff.1 h5
        unfold Tree.fl at hfl
        rw [h6] at hfl
        cases hfl
      simp at h3
      omega
    rw [e1, e2] at i3
    obtain ⟨p0, P', hPe⟩ : ∃ p0 P', P = p0 :: P' := by
      cases P with
      | nil => have := HNP.out; simp at this; omega
      | cons a b => exact ⟨a, b, rfl⟩
    have hP0 : P.headD [] = p0 := by rw [hPe]; rfl
    have hPt : P.tail = P.drop 1 := by rw [hPe]; rfl
    obtain ⟨xp, rfl, _, hcp⟩ := HQ3.out 0 p0 (by rw [hPe]; rfl)
    rw [hP0, hPt] at i3
    have i3 := fun w' v (hb : Below w.heap.size w w') (F : Fks w' w.heap.size v fk) => i3 w' v w.heap.size (.slice (some ⟨xp.block, xp.off + 1, none⟩) (np - 1) (cp - 1)) F ⟨some (xp.add 1), cp - 1, by rw [List.length_drop, HNP.out]; rfl, by rw [List.length_drop, HNP.out]; omega, by omega, (HQ3.out.below hb (Nat.le_refl _)).drop 1⟩ (HT.out.below hb HT.out.lt)
    have i1 := i1 w
    rw [svS p0] at i3 hcp
    rw [svS old]
    have hcp2 : w.cell? xp = some (.string ⟨p0.toArray⟩) := by rw [← hcp]; congr 1
    have t0 : ¬ cp = 1 := by omega
    have t4 : ¬ cp - 1 = 0 := by omega
    have t1 : (0 : Int) < (np : Int) := by omega
    have t2 : (1 : Int) ≤ (np : Int) := by omega
    have t3 : (1 : Int) ≤ (cp : Int) := by omega
    clear f1 f2 f3 hfl e1 e2 hpw HP ho hPe hP0 hPt hpf
    go_enter Tryz.func38, Tryz.ntmps38
    go_wp2_with (go_at_call 58; fail)
    refine i1.mono ?_
    rintro e w0 ⟨c, rfl, rfl, hc⟩
    clear i1
    have hc2 : (c != 1) = true := by rw [bne, hc]; rfl
    go_wp2
    go_quiet (fail)
    have i2 : Calls Tryz.prog 59 #[.int .i64 (n : Int), .int .i64 (m : Int)] (w0.drewN nq) fun e w' => ∃ v, e = .returned v ∧ Fks w' w0.heap.size v fk ∧ Below w0.heap.size w0 w' := (i2 (w0.drewN nq)).mono fun e w' h => by
      obtain ⟨v, g1, g2, g3⟩ := h
      exact ⟨v, g1, g2, (below_drewN (Below.refl _ _) nq).trans g3⟩
    go_wp2_with (go_at_call 59; fail)
    refine i2.mono ?_
    rintro e w1 ⟨v1, rfl, F1, b1⟩
    clear i2
    have i3 := i3 w1 v1 b1 F1
    obtain ⟨a1, c1, rfl, k1, k2⟩ := F1.1.shape
    rw [HNF.out] at k1 i3 F1 ⊢
    have HFK := hid F1.1
    have HB1 := hid b1
    clear b1 F1
    go_wp2_with (go_at_call 50; fail)
    refine i3.mono ?_
    rintro e w2 ⟨v2, rfl, V2, b2⟩
    clear i3
    obtain ⟨ax, cx, rfl, _, _, AX⟩ := V2
    rw [HXL.out]
    have HX := hid AX
    have HB2 := hid (HB1.out.trans (b2.mono HB1.out.size))
    have HFK2 := hid (HFK.out.kept b2.size (fun g hg => b2.block g (HFK.out.lt g hg)))
    clear b2 AX HFK HB1
    go_wp2
    go_loopw [34] (fun i w' => ∃ k : Nat, i = .int .i64 (k : Int) ∧ k ≤ nf ∧ Hid (Tree.fst2 (X.drop k) ((fk.map (Tree.ftx l)).drop k) = some (p, q)) ∧ Hid (Below w2.heap.size w2 w')) (fun i _ => nf - (intOf i).toNat)
    case atStart => exact ⟨0, rfl, by omega, HF, hid (Below.refl _ _)⟩
    case round =>
      clear HF
      obtain ⟨k, rfl, hk, hf, hb⟩ := hrel
      obtain ⟨x, y, hx, hy, hor⟩ := fst2_drop hf.out
      have hkn : k < nf := by have := (List.getElem?_eq_some_iff.1 hx).1; have := HXL.out; omega
      have c0 : (k : Int) < (nf : Int) := by omega
      obtain ⟨zx, rfl, _, cx'⟩ := (HX.out.below hb.out (Nat.le_refl _)) k x hx
      obtain ⟨f, hfk, hfy⟩ : ∃ f, fk[k]? = some f ∧ Tree.ftx l f = y := by
        rw [List.getElem?_map] at hy
        cases h : fk[k]? with
        | none => rw [h] at hy; cases hy
        | some f => rw [h] at hy; exact ⟨f, rfl, Option.some.inj hy⟩
      obtain ⟨fb0, fb1, fb2, fb3⟩ := HIN.out f (List.mem_of_getElem? hfk)
      have HM := HFK2.out.kept hb.out.size (fun g hg => hb.out.block g (HFK2.out.lt g hg))
      obtain ⟨z1, z2, z3, z4⟩ := fvs_get fk k f hfk
      obtain ⟨g, cc, ev, x0, hgl⟩ := HM.cell z1
      obtain ⟨g', cc', ev', x1, _⟩ := HM.cell z2
      obtain ⟨g'', cc'', ev'', x2, _⟩ := HM.cell z3
      obtain ⟨g3, cc3, ev3, x3, _⟩ := HM.cell z4
      injection ev with ea eb ec
      injection ev' with ea' eb' ec'
      injection ev'' with ea'' eb'' ec''
      injection ev3 with ea3 eb3 ec3
      subst ea
      injection ea' with ea'
      injection ea' with ea'
      injection ea'' with ea''
      injection ea'' with ea''
      injection ea3 with ea3
      injection ea3 with ea3
      subst ea' ea'' ea3
      rw [Nat.mul_comm 4 k] at x0 x1 x2 x3
      clear ec ec' ec'' ec3 eb eb' eb'' eb3 z1 z2 z3 z4 HM
      rw [svS] at cx'
      have HBr := hid (HB2.out.trans (hb.out.mono HB2.out.size))
      -- the fork's variable
      obtain ⟨bb, hbb⟩ : ∃ bb, Tree.fkB f = bb := ⟨_, rfl⟩
      obtain ⟨mm, hmm⟩ : ∃ mm, Tree.fkM f = mm := ⟨_, rfl⟩
      obtain ⟨ee, hee⟩ : ∃ ee, Tree.fkE f = ee := ⟨_, rfl⟩
      obtain ⟨rr, hrr⟩ : ∃ rr, Tree.fkR f = rr := ⟨_, rfl⟩
      rw [hbb] at x0 fb0 fb1
      rw [hmm] at x1 fb1 fb2
      rw [hee] at x2 fb2 fb3
      rw [hrr] at x3
      have al := (Below.refl wr.heap.size wr).alloc (Nat.le_refl _) (.cells #[.int .i64 (bb : Int), .int .i64 (mm : Int), .int .i64 (ee : Int), .bool rr] 75)
      have ra := heap_alloc_new wr (.cells #[.int .i64 (bb : Int), .int .i64 (mm : Int), .int .i64 (ee : Int), .bool rr] 75)
      obtain ⟨wf, hwf⟩ : ∃ wf, wr.alloc (.cells #[.int .i64 (bb : Int), .int .i64 (mm : Int), .int .i64 (ee : Int), .bool rr] 75) = wf := ⟨_, rfl⟩
      rw [hwf] at al ra
      have CL : ∀ w', Below wf.heap.size wf w' → w'.cell? ⟨wr.heap.size, 0, none⟩ = some (.int .i64 (bb : Int)) ∧ w'.cell? ⟨wr.heap.size, 1, none⟩ = some (.int .i64 (mm : Int)) ∧ w'.cell? ⟨wr.heap.size, 2, none⟩ = some (.int .i64 (ee : Int)) := fun w' hb' => by
        have h1 := (hb'.block _ (lt_of_heap ra)).trans ra
        exact ⟨by rw [cell_of_row _ _ _ _ _ _ h1]; rfl, by rw [cell_of_row _ _ _ _ _ _ h1]; rfl, by rw [cell_of_row _ _ _ _ _ _ h1]; rfl⟩
      have HBf := hid (HBr.out.trans (al.mono HBr.out.size))
      have hL1 : (Tree.seg l bb ee).length = ee - bb := Tree.seg_len (by rw [HN.out]; omega)
      have hfy' : Hid (Tree.nt (Tree.root ((Tree.seg l bb ee).take (mm - bb))) (Tree.root ((Tree.seg l bb ee).drop (mm - bb))) = y) := by
        unfold Hid
        rw [← hfy]
        unfold Tree.ftx
        rw [hbb, hee, hmm]
      have i5 := partsText_any (Tree.seg l bb ee) (mm - bb) (xl.add bb) (cl - bb) wf.drew (by unfold Tree.seg; exact (OL.out.take ee).drop bb) (by omega) (by rw [hL1]; omega) (by rw [hL1]; omega) (by omega) (((HA.out.below HBf.out (Nat.le_refl _)).take ee).drop bb |>.heap rfl) ((HT.out.below HBf.out HT.out.lt).below (Below.refl _ _).drew (HT.out.below HBf.out HT.out.lt).lt) hfy'
      rw [hL1, svS y] at i5
      have S0 := CL wf.drew (Below.refl _ _).drew
      obtain ⟨d1, hd1⟩ : ∃ d1, Hid (mm - bb = d1) := ⟨_, rfl⟩
      rw [hd1.out] at i5
      have m0 : (0 : Int) ≤ (bb : Int) := by omega
      have m1 : (bb : Int) ≤ (ee : Int) := by omega
      have m2 : (ee : Int) ≤ (cl : Int) := by omega
      have m3 : (mm : Int) - (bb : Int) = (d1 : Int) := by have := hd1.out; omega
      have m6 : bb < cl := by omega
      have b9 : mm ≤ 4096 := by omega
      have b8 : d1 ≤ 4096 := by have := hd1.out; omega
      clear fb0 fb1 fb2 fb3 hfk hfy hfy' hbb hmm hee hrr hL1 ra hx hy
      go_wp2
      refine wp_region_held_drew (S := fun w' => w'.cell? ⟨wr.heap.size, 0, none⟩ = some (.int .i64 (bb : Int)) ∧ w'.cell? ⟨wr.heap.size, 1, none⟩ = some (.int .i64 (mm : Int)) ∧ w'.cell? ⟨wr.heap.size, 2, none⟩ = some (.int .i64 (ee : Int))) (by kernel_rfl) S0 (fun hHeld => ?_)
      refine wpAnyH_take (i := 0) (v := .string ⟨x.toArray⟩) rfl (by kernel_rfl) (by kernel_rfl) (by kernel_rfl) (fun _ _ _ h => h) (Or.inl ⟨by rfl, ?_⟩) hHeld ?_
      · intro w' hw'
        obtain ⟨y0, y1, y2⟩ := hw'
        go_simp
      dsimp only [Act.put]
      refine wpAnyH_take (i := 1) (v := .slice (some xl) n cl) rfl (by kernel_rfl) (by kernel_rfl) (by kernel_rfl) (fun _ _ _ h => h) (Or.inl ⟨by rfl, ?_⟩) hHeld ?_
      · intro w' hw'
        obtain ⟨y0, y1, y2⟩ := hw'
        go_simp
      dsimp only [Act.put]
      refine wpAnyH_take (i := 2) (v := .pointer (some ⟨wr.heap.size, 0, none⟩)) rfl (by kernel_rfl) (by kernel_rfl) (by kernel_rfl) (fun _ _ _ h => h) (Or.inl ⟨by rfl, ?_⟩) hHeld ?_
      · intro w' hw'
        obtain ⟨y0, y1, y2⟩ := hw'
        go_simp
      dsimp only [Act.put]
      refine wpAnyH_take (i := 3) (v := .int .i64 (bb : Int)) rfl (by kernel_rfl) (by kernel_rfl) (by kernel_rfl) (fun _ _ _ h => h) (Or.inl ⟨by rfl, ?_⟩) hHeld ?_
      · intro w' hw'
        obtain ⟨y0, y1, y2⟩ := hw'
        go_simp
      dsimp only [Act.put]
      refine wpAnyH_take (i := 4) (v := .pointer (some ⟨wr.heap.size, 2, none⟩)) rfl (by kernel_rfl) (by kernel_rfl) (by kernel_rfl) (fun _ _ _ h => h) (Or.inl ⟨by rfl, ?_⟩) hHeld ?_
      · intro w' hw'
        obtain ⟨y0, y1, y2⟩ := hw'
        go_simp
      dsimp only [Act.put]
      refine wpAnyH_take (i := 5) (v := .int .i64 (ee : Int)) rfl (by kernel_rfl) (by kernel_rfl) (by kernel_rfl) (fun _ _ _ h => h) (Or.inl ⟨by rfl, ?_⟩) hHeld ?_
      · intro w' hw'
        obtain ⟨y0, y1, y2⟩ := hw'
        go_simp
      dsimp only [Act.put]
      refine wpAnyH_take (i := 6) (v := .slice (some (xl.add bb)) (ee - bb) (cl - bb)) rfl (by kernel_rfl) (by kernel_rfl) (by kernel_rfl) (fun _ _ _ h => h) (Or.inl ⟨by rfl, ?_⟩) hHeld ?_
      · intro w' hw'
        obtain ⟨y0, y1, y2⟩ := hw'
        go_simp
        intro e
        omega
      dsimp only [Act.put]
      refine wpAnyH_take (i := 7) (v := .pointer (some ⟨wr.heap.size, 1, none⟩)) rfl (by kernel_rfl) (by kernel_rfl) (by kernel_rfl) (fun _ _ _ h => h) (Or.inl ⟨by rfl, ?_⟩) hHeld ?_
      · intro w' hw'
        obtain ⟨y0, y1, y2⟩ := hw'
        go_simp
      dsimp only [Act.put]
      refine wpAnyH_take (i := 8) (v := .int .i64 (mm : Int)) rfl (by kernel_rfl) (by kernel_rfl) (by kernel_rfl) (fun _ _ _ h => h) (Or.inl ⟨by rfl, ?_⟩) hHeld ?_
      · intro w' hw'
        obtain ⟨y0, y1, y2⟩ := hw'
        go_simp
      dsimp only [Act.put]
      refine wpAnyH_take (i := 9) (v := .pointer (some ⟨wr.heap.size, 0, none⟩)) rfl (by kernel_rfl) (by kernel_rfl) (by kernel_rfl) (fun _ _ _ h => h) (Or.inl ⟨by rfl, ?_⟩) hHeld ?_
      · intro w' hw'
        obtain ⟨y0, y1, y2⟩ := hw'
        go_simp
      dsimp only [Act.put]
      refine wpAnyH_take (i := 10) (v := .int .i64 (bb : Int)) rfl (by kernel_rfl) (by kernel_rfl) (by kernel_rfl) (fun _ _ _ h => h) (Or.inl ⟨by rfl, ?_⟩) hHeld ?_
      · intro w' hw'
        obtain ⟨y0, y1, y2⟩ := hw'
        go_simp
      dsimp only [Act.put]
      refine wpAnyH_take (i := 11) (v := .int .i64 (d1 : Int)) rfl (by kernel_rfl) (by kernel_rfl) (by kernel_rfl) (fun _ _ _ h => h) (Or.inl ⟨by rfl, ?_⟩) hHeld ?_
      · intro w' hw'
        obtain ⟨y0, y1, y2⟩ := hw'
        go_simp
        exact wrap_small _ (by omega) (by omega)
      dsimp only [Act.put]
      refine wpAnyH_ready (rs := [12]) (by kernel_rfl) (by decide) (AllReadyH.cons rfl (fun K' hK => ?_) AllReadyH.nil)
      rw [if_pos (by rfl)]
      go_wp2_with (go_at_call 55; fail)
      refine i5.mono ?_
      rintro e w5 ⟨rfl, c5⟩
      have b5 := drewBelow6 c5
      have S5 := CL w5 b5
      have HB5 := hid (HBf.out.trans (b5.mono HBf.out.size))
      have hb5 := hid (hb.out.trans ((al.mono hb.out.size).trans (b5.mono (Nat.le_trans hb.out.size al.size))))
      clear i5 c5 b5
      go_wp2
      refine hK.out _ _ S5 (fun _ => ?_)
      refine wpAnyH_ready (rs := [13]) (by kernel_rfl) (by decide) (AllReadyH.cons rfl (fun K2 hK2 => ?_) AllReadyH.nil)
      rw [if_pos (by rfl)]
      rcases hor with ⟨rfl, hnx⟩ | ⟨hne, rfl, rfl⟩
      · have i6 := compare_same x w5
        rw [svS] at i6
        have hf' := hid hnx
        clear hnx hf
        go_wp2_with (go_at_call 51; fail)
        refine i6.mono ?_
        rintro e w6 ⟨rfl, rfl⟩
        go_wp2
        refine hK2.out _ _ S5 (fun _ => ⟨by kernel_rfl, ?_⟩)
        go_wp2
        exact ⟨⟨k + 1, by go_num, by omega, hf', hb5⟩, by simp [intOf]; omega⟩
      · have i6 := compare_diff hne w5
        rw [svS, svS] at i6
        clear hf hne
        go_wp2_with (go_at_call 51; fail)
        refine i6.mono ?_
        rintro e w6 ⟨rfl, rfl⟩
        exact ⟨rfl, rfl, HB5.out⟩
end Go.Proofs.YthoekndjeclimaaGreatDoor
