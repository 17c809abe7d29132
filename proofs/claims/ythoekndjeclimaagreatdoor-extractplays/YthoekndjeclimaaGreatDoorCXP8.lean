import Derived.Test.YthoekndjeclimaaGreatDoorCI22
import Derived.Test.YthoekndjeclimaaGreatDoorCEP6
namespace Go.Proofs.YthoekndjeclimaaGreatDoor
open Go.RowKit
def vlen : Value → Nat
  | .slice _ n _ => n
  | _ => 0
set_option maxRecDepth 100000 in
set_option maxHeartbeats 8000000 in
theorem r6Leaves_any (A B : List (List UInt8)) (a d : Option Addr) (ca cd : Nat) (w : World) (ha : At w a A) (hd : At w d B) (lA : A.length ≤ ca ∧ ca ≤ 9223372036854775807) (lB : B.length ≤ cd ∧ cd ≤ 9223372036854775807) :
    Calls Tryz.prog 10 #[.slice a A.length ca, .slice d B.length cd] w fun e w' => e = .returned (.tuple #[prP (lvsO A B).1.1 (lvsO A B).1.2, .int .i64 (lvsO A B).2]) ∧ Below w.heap.size w w' := by
  have z1 := size_alloc w (.cells #[Value.string ⟨#[]⟩, .string ⟨#[]⟩] 26)
  have al := (Below.refl w.heap.size w).alloc (Nat.le_refl _) (.cells #[Value.string ⟨#[]⟩, .string ⟨#[]⟩] 26)
  have R0 := heap_alloc_new w (.cells #[Value.string ⟨#[]⟩, .string ⟨#[]⟩] 26)
  obtain ⟨w0, hw0⟩ : ∃ w0, w.alloc (.cells #[Value.string ⟨#[]⟩, .string ⟨#[]⟩] 26) = w0 := ⟨_, rfl⟩
  rw [hw0] at al R0 z1
  have HR := hid R0
  have HB := hid al
  have Ha := hid (ha.below al (Nat.le_refl _))
  have Hd := hid (hd.below al (Nat.le_refl _))
  have i1 := r6hashes_any A a ca w0 (by omega) Ha.out
  have i2 := r6hashes_any B d cd w0 (by omega) Hd.out
  clear al R0 ha hd
  by_cases wA : wrg A = 0
  · rw [decide_eq_true wA] at i1
    by_cases wB : wrg B = 0
    · rw [decide_eq_true wB] at i2
      by_cases hl : A.length = B.length
      · have oA := Okl.of wA
        have oB := Okl.of wB
        have HO : Hid (lvsO A B = if A = B ∨ Tree.root A ≠ Tree.root B then (([], []), (60 : Int)) else match Tree.partF A.length A B with | some p => (p, (0 : Int)) | none => (([], []), (60 : Int))) := by
          unfold lvsO; exact if_pos ⟨hl, wA, wB⟩
        have i3 := same6_any A B a d ca cd w0 Ha.out Hd.out (by omega) (by omega)
        have hA1 := r6root_any A oA a ca
        have e0 : ((A.length : Int) != (B.length : Int)) = false := by rw [hl]; simp
        by_cases hab : A = B
        · rw [decide_eq_true hab] at i3
          rw [if_pos (.inl hab)] at HO
          clear hab hA1 oA oB wA wB lA lB hl Ha Hd
          generalize A.length = n at *
          generalize B.length = n2 at *
          go_enter Tryz.func10, Tryz.ntmps10
          go_wp2_with (first
            | (go_at_call 32; (with_reducible refine i1.mono ?_); rintro e w9 ⟨rfl, h9⟩; have h9 := h9.symm; subst h9)
            | (go_at_call 32; (with_reducible refine i2.mono ?_); rintro e w9 ⟨rfl, h9⟩; have h9 := h9.symm; subst h9)
            | (go_at_call 26; (with_reducible refine i3.mono ?_); rintro e w2 ⟨rfl, b2⟩; have HR2 := hid ((b2.block _ (lt_of_heap HR.out)).trans HR.out); have HB2 := hid (HB.out.trans (b2.mono HB.out.size)))
            | ((with_reducible show wpList _ _ _ (Oper.mk _ (Op.store 26 _ _) _ _ _ _ :: _) _ _); go_must (refine wpList_store_row rfl 26 _ _ rfl (w.heap.size) _ rfl rfl 26 _ HR2.out sizePr rfl (onePr [] []) ?_)))
          refine bodyPost_ret (results_row6 rfl _ _ (w.heap.size) 26 _ (0, 0) _ rfl (setRow_heap _ _ _ _ _ _ HR2.out) Tryz.underlying26 rfl sizePr) rfl ?_
          exact ⟨by rw [HO.out]; rfl, Below.setRow HB2.out (by omega) _⟩
        · rw [decide_eq_false hab] at i3
          have Z0 := hid (show Tree.partF A.length A B = Tree.partF A.length A B from rfl)
          obtain ⟨ra, hra⟩ : ∃ r, Hid (Tree.root A = r) := ⟨_, rfl⟩
          obtain ⟨rb, hrb⟩ : ∃ r, Hid (Tree.root B = r) := ⟨_, rfl⟩
          have j1 := fun w' (h : At w' a A) => r6root_any A oA a ca w' lA.1 lA.2 h hra
          have j2 := fun w' (h : At w' d B) => r6root_any B oB d cd w' lB.1 lB.2 h hrb
          have VA : Hid (∀ w', At w' a A → Lv w' (.slice a A.length ca) A) := fun w' h => ⟨a, ca, rfl, lA.1, lA.2, h⟩
          have VB : Hid (∀ w', At w' d B → Lv w' (.slice d B.length cd) B) := fun w' h => ⟨d, cd, rfl, lB.1, lB.2, h⟩
          have OA := hid oA
          have OB := hid oB
          have HLn := hid hl
          have HAB := hid hab
          rw [hra.out, hrb.out] at HO
          obtain ⟨nA, hnA⟩ : ∃ n, Hid (A.length = n) := ⟨_, rfl⟩
          obtain ⟨nB, hnB⟩ : ∃ n, Hid (B.length = n) := ⟨_, rfl⟩
          rw [hnA.out, hnB.out] at e0 ⊢
          rw [hnA.out] at i1 i3 j1 VA
          rw [hnB.out] at i2 i3 j2 VB
          clear hl hab oA oB wA wB hA1 lA lB
          go_enter Tryz.func10, Tryz.ntmps10
          go_wp2_with (first
            | (go_at_call 32; (with_reducible refine i1.mono ?_); rintro e w9 ⟨rfl, h9⟩; have h9 := h9.symm; subst h9)
            | (go_at_call 32; (with_reducible refine i2.mono ?_); rintro e w9 ⟨rfl, h9⟩; have h9 := h9.symm; subst h9)
            | (go_at_call 26; (with_reducible refine i3.mono ?_); rintro e w2 ⟨rfl, b2⟩)
            | (go_at_call 33; fail))
          have k1 := j1 w2 (Ha.out.below b2 (Nat.le_refl _))
          refine k1.mono ?_
          rintro e w3 ⟨rfl, b3'⟩
          have B3 := hid (b2.trans (b3'.mono b2.size))
          have k2 := j2 w3 (Hd.out.below B3.out (Nat.le_refl _))
          clear k1 b2 b3' i1 i2 i3
          go_wp2_with (go_at_call 33; fail)
          refine k2.mono ?_
          rintro e w4 ⟨rfl, b4⟩
          have B4 := hid (B3.out.trans (b4.mono B3.out.size))
          have LA := hid (VA.out w4 (Ha.out.below B4.out (Nat.le_refl _)))
          have LB := hid (VB.out w4 (Hd.out.below B4.out (Nat.le_refl _)))
          clear k2 b4 B3 j1 j2
          by_cases hr : ra = rb
          · have HO2 : Hid (lvsO A B = match Tree.partF A.length A B with | some p => (p, (0 : Int)) | none => (([], []), (60 : Int))) := by
              rw [Hid, HO.out, if_neg]
              rintro (h | h)
              · exact HAB.out h
              · exact h hr
            have r1 : (ra == rb) = true := by simpa using hr
            have r2 : (ra != rb) = false := by rw [bne, r1]; rfl
            obtain ⟨Z, hZ⟩ : ∃ Z, Hid (Tree.partF A.length A B = Z) := ⟨_, rfl⟩
            rw [hZ.out] at HO2
            clear hr HO HAB Z0
            go_wp2
            rw [← hnA.out] at LA ⊢
            rw [← hnB.out] at LB ⊢
            go_loopw [0, 1] (fun va vb w' => ∃ (A' B' : List (List UInt8)) (f : Nat), Hid (Lv w' va A') ∧ Hid (Lv w' vb B') ∧ Hid (Okl A' ∧ Okl B' ∧ A'.length = B'.length ∧ A'.length ≤ f) ∧ Hid (Tree.partF f A' B' = Z) ∧ Hid (Below w0.heap.size w0 w')) (fun va _ _ => vlen va)
            case atStart => exact ⟨A, B, A.length, LA, LB, ⟨OA.out, OB.out, HLn.out, Nat.le_refl _⟩, hZ, B4⟩
            case round =>
              obtain ⟨A', B', f, hA, hB, hf, hZ', hw'⟩ := hrel
              obtain ⟨oA', oB', hl', hf'⟩ := hf.out
              obtain ⟨xa, ka, rfl, la1, la2, hAt⟩ := hA.out
              obtain ⟨xb, kb, rfl, lb1, lb2, hBt⟩ := hB.out
              have HR2 := hid ((hw'.out.block _ (lt_of_heap HR.out)).trans HR.out)
              have HB2 := hid (HB.out.trans (hw'.out.mono HB.out.size))
              obtain ⟨n, hn⟩ : ∃ n, Hid (A'.length = n) := ⟨_, rfl⟩
              have hnB := hid (show B'.length = n by rw [← hl', hn.out])
              by_cases h2 : n < 2
              · have hz : Z = none := by
                  rw [← hZ'.out]
                  cases f with
                  | zero => rfl
                  | succ f => rw [Tree.partF, if_pos (by rw [hn.out]; exact h2)]
                subst hz
                rw [hn.out, hnB.out]
                have b0 : ¬ (1 : Int) < (n : Int) := by omega
                clear hf hA hB hZ' hZ
                go_wp2_with ((with_reducible show wpList _ _ _ (Oper.mk _ (Op.store 26 _ _) _ _ _ _ :: _) _ _); go_must (refine wpList_store_row rfl 26 _ _ rfl (w.heap.size) _ rfl rfl 26 _ HR2.out sizePr rfl (onePr [] []) ?_))
                refine bodyPost_ret (results_row6 rfl _ _ (w.heap.size) 26 _ (0, 0) _ rfl (setRow_heap _ _ _ _ _ _ HR2.out) Tryz.underlying26 rfl sizePr) rfl ?_
                exact ⟨by rw [HO2.out]; rfl, Below.setRow HB2.out (by omega) _⟩
              · have b0 : (1 : Int) < (n : Int) := by omega
                obtain ⟨f', rfl⟩ : ∃ f', f = f' + 1 := ⟨f - 1, by have := hn.out; omega⟩
                have hP := hZ'.out
                rw [Tree.partF, if_neg (by rw [hn.out]; exact h2), hn.out] at hP
                have k1 := Tree.sp_lt (n := n) (by omega)
                have k2 := Tree.sp_pos (n := n) (by omega)
                have hs : spI (n : Int) = ((Tree.sp n : Nat) : Int) := rfl
                obtain ⟨x, rfl⟩ := hAt.pos (by have := hn.out; omega)
                obtain ⟨y, rfl⟩ := hBt.pos (by have := hnB.out; omega)
                generalize Tree.sp n = k at *
                have l1 : (A'.take k).length = k := by rw [List.length_take, hn.out]; omega
                have l2 : (A'.drop k).length = n - k := by rw [List.length_drop, hn.out]
                have l3 : (B'.take k).length = k := by rw [List.length_take, hnB.out]; omega
                have l4 : (B'.drop k).length = n - k := by rw [List.length_drop, hnB.out]
                rw [hn.out] at la1
                rw [hnB.out] at lb1
                obtain ⟨t1, ht1⟩ : ∃ t, Hid (Tree.root (A'.take k) = t) := ⟨_, rfl⟩
                obtain ⟨t2, ht2⟩ : ∃ t, Hid (Tree.root (A'.drop k) = t) := ⟨_, rfl⟩
                obtain ⟨u1, hu1⟩ : ∃ t, Hid (Tree.root (B'.take k) = t) := ⟨_, rfl⟩
                obtain ⟨u2, hu2⟩ : ∃ t, Hid (Tree.root (B'.drop k) = t) := ⟨_, rfl⟩
                have e1 : t1.length = 32 := by rw [← ht1.out]; exact Tree.root_len (oA'.1.take k)
                have e2 : t2.length = 32 := by rw [← ht2.out]; exact Tree.root_len (oA'.1.drop k)
                have e3 : u1.length = 32 := by rw [← hu1.out]; exact Tree.root_len (oB'.1.take k)
                have e4 : u2.length = 32 := by rw [← hu2.out]; exact Tree.root_len (oB'.1.drop k)
                have c1 := fun w' (h : At w' (some x) A') => r6root_any (A'.take k) (oA'.take k) (some x) ka w' (by omega) la2 (h.take k) ht1
                have c2 := fun w' (h : At w' (some x) A') => r6root_any (A'.drop k) (oA'.drop k) (some (x.add k)) (ka - k) w' (by omega) (by omega) (h.drop k) ht2
                have c3 := fun w' (h : At w' (some y) B') => r6root_any (B'.take k) (oB'.take k) (some y) kb w' (by omega) lb2 (h.take k) hu1
                have c4 := fun w' (h : At w' (some y) B') => r6root_any (B'.drop k) (oB'.drop k) (some (y.add k)) (kb - k) w' (by omega) (by omega) (h.drop k) hu2
                have c5 := fun w' (h : At w' (some x) A') (h2 : At w' (some y) B') => same6_any (A'.take k) (B'.take k) (some x) (some y) ka kb w' (h.take k) (h2.take k) (by omega) (by omega)
                rw [l1] at c1
                rw [l2] at c2
                rw [l3] at c3
                rw [l4] at c4
                rw [l1, l3] at c5
                rw [ht1.out, ht2.out, hu1.out, hu2.out] at hP
                obtain ⟨p, hp⟩ : ∃ t, Hid (Tree.nt t1 t2 = t) := ⟨_, rfl⟩
                obtain ⟨q, hq⟩ : ∃ t, Hid (Tree.nt u1 u2 = t) := ⟨_, rfl⟩
                rw [hp.out, hq.out] at hP
                have d1 := fun w' => r6text_any t1 t2 hp (by omega) (by omega) w'
                have d2 := fun w' => r6text_any u1 u2 hq (by omega) (by omega) w'
                have m1 : (k : Int) ≤ (n : Int) := by omega
                have m2 : (k : Int) ≤ (ka : Int) := by omega
                have m3 : (k : Int) ≤ (kb : Int) := by omega
                have m4 : (0 : Int) ≤ (k : Int) := by omega
                have n1 : ¬ ka = k := by omega
                have n2 : ¬ kb = k := by omega
                have HAt := hid hAt
                have HBt := hid hBt
                have HP := hid hP
                have HFL := hid (And.intro hl' hf')
                have HOO := hid (And.intro oA' oB')
                rw [hn.out, hnB.out]
                have D1 := hid (show Below wr.heap.size wr wr.drew from (Below.refl _ _).drew)
                clear hAt hBt hP hA hB hf hZ' hZ hl' hf' oA' oB' e1 e2 e3 e4
                go_wp2_with (go_at_call 34; refine (rsplit_any (n : Int) (by omega) (by omega) _).mono ?_; rintro e w5 ⟨rfl, h5⟩; have h5 := h5.symm; subst h5; rw [hs])
                go_region_held3 (fun _ => True) (trivial) (first
                  | (go_at_call 33; (with_reducible refine (c1 wr.drew (HAt.out.below D1.out (Nat.le_refl _))).mono ?_); rintro e w5 ⟨rfl, b5'⟩; have b5 := hid (D1.out.trans b5'))
                  | (go_at_call 33; (with_reducible refine (c2 w5 (HAt.out.below b5.out (Nat.le_refl _))).mono ?_); rintro e w6 ⟨rfl, b6'⟩; have b6 := hid (b5.out.trans (b6'.mono b5.out.size)))
                  | (go_at_call 35; (with_reducible refine (d1 w6).mono ?_); rintro e w9 ⟨rfl, h9⟩; have h9 := h9.symm; subst h9))
                clear c1 c2 d1 b5' b6' b5
                go_wp2
                go_region_held3 (fun _ => True) (trivial) (first
                  | (go_at_call 33; (with_reducible refine (c3 w6.drew (HBt.out.below b6.out.drew (Nat.le_refl _))).mono ?_); rintro e w7 ⟨rfl, b7'⟩; have b7 := hid (b6.out.drew.trans (b7'.mono b6.out.size)))
                  | (go_at_call 33; (with_reducible refine (c4 w7 (HBt.out.below b7.out (Nat.le_refl _))).mono ?_); rintro e w8 ⟨rfl, b8'⟩; have b8 := hid (b7.out.trans (b8'.mono b7.out.size)))
                  | (go_at_call 35; (with_reducible refine (d2 w8).mono ?_); rintro e w9 ⟨rfl, h9⟩; have h9 := h9.symm; subst h9))
                have B8 := hid (hw'.out.trans (b8.out.mono hw'.out.size))
                clear c3 c4 d2 b7' b8' b7 b6
                by_cases hpq : p = q
                · have y1 : ((ByteArray.mk p.toArray).toList == (ByteArray.mk q.toArray).toList) = true := by rw [hpq]; simp
                  have y2 : ((ByteArray.mk p.toArray).toList != (ByteArray.mk q.toArray).toList) = false := by rw [bne, y1]; rfl
                  have y4 : (p == q) = true := by simpa using hpq
                  have y5 : (p != q) = false := by rw [bne, y4]; rfl
                  have HP2 := HP.out
                  rw [if_pos hpq] at HP2
                  have HP2 := hid HP2
                  have D8 := hid (show Below w8.heap.size w8 w8.drew from (Below.refl _ _).drew)
                  obtain ⟨z, hz⟩ : ∃ z, decide (A'.take k = B'.take k) = z := ⟨_, rfl⟩
                  rw [hz] at c5
                  clear hpq HP
                  go_wp2
                  go_region_held3 (fun _ => True) (trivial) ((go_at_call 26; (with_reducible refine (c5 w8.drew (HAt.out.below b8.out.drew (Nat.le_refl _)) (HBt.out.below b8.out.drew (Nat.le_refl _))).mono ?_); rintro e w10 ⟨rfl, b10'⟩; have b10 := hid (b8.out.trans (D8.out.trans (b10'.mono D8.out.size) |>.mono b8.out.size))))
                  have B10 := hid (hw'.out.trans (b10.out.mono hw'.out.size))
                  have AT := hid (HAt.out.below b10.out (Nat.le_refl _))
                  have BT := hid (HBt.out.below b10.out (Nat.le_refl _))
                  clear c5 b10' b10 b8 B8
                  cases z with
                  | true =>
                    have hq' := of_decide_eq_true hz
                    have HP3 := HP2.out
                    rw [if_pos hq'] at HP3
                    go_wp2
                    refine ⟨⟨A'.drop k, B'.drop k, f', ⟨some (x.add k), ka - k, by rw [l2], by omega, by omega, AT.out.drop k⟩, ⟨some (y.add k), kb - k, by rw [l4], by omega, by omega, BT.out.drop k⟩, ⟨HOO.out.1.drop k, HOO.out.2.drop k, by rw [l2, l4], by have := HFL.out.2; have := hn.out; omega⟩, HP3, B10⟩, ?_⟩
                    show n - k < n
                    omega
                  | false =>
                    have hq' := of_decide_eq_false hz
                    have HP3 := HP2.out
                    rw [if_neg hq'] at HP3
                    go_wp2
                    refine ⟨⟨A'.take k, B'.take k, f', ⟨some x, ka, by rw [l1], by omega, la2, AT.out.take k⟩, ⟨some y, kb, by rw [l3], by omega, lb2, BT.out.take k⟩, ⟨HOO.out.1.take k, HOO.out.2.take k, by rw [l1, l3], by have := HFL.out.2; have := hn.out; omega⟩, HP3, B10⟩, ?_⟩
                    show k < n
                    omega
                · have hne : (p == q) = false := by simpa using hpq
                  have y1 : ((ByteArray.mk p.toArray).toList == (ByteArray.mk q.toArray).toList) = false := by rw [ByteArray.toList_eq, ByteArray.toList_eq]; exact hne
                  have y2 : ((ByteArray.mk p.toArray).toList != (ByteArray.mk q.toArray).toList) = true := by rw [bne, y1]; rfl
                  have y3 : (p != q) = true := by rw [bne, hne]; rfl
                  have HP2 := HP.out
                  rw [if_neg hpq] at HP2
                  rw [← HP2] at HO2
                  have HR3 := hid ((B8.out.block _ (lt_of_heap HR.out)).trans HR.out)
                  have HB3 := hid (HB.out.trans (B8.out.mono HB.out.size))
                  clear hpq HP HP2
                  go_wp2_with ((with_reducible show wpList _ _ _ (Oper.mk _ (Op.store 26 _ _) _ _ _ _ :: _) _ _); go_must (refine wpList_store_row rfl 26 _ _ rfl (w.heap.size) _ rfl rfl 26 _ HR3.out sizePr rfl (onePr p q) ?_))
                  refine bodyPost_ret (results_row6 rfl _ _ (w.heap.size) 26 _ (0, 0) _ rfl (setRow_heap _ _ _ _ _ _ HR3.out) Tryz.underlying26 rfl sizePr) rfl ?_
                  exact ⟨by rw [HO2.out]; rfl, Below.setRow HB3.out (by omega) _⟩
          · have r1 : (ra == rb) = false := by simpa using hr
            have r2 : (ra != rb) = true := by rw [bne, r1]; rfl
            rw [if_pos (.inr hr)] at HO
            have HR2 := hid ((B4.out.block _ (lt_of_heap HR.out)).trans HR.out)
            have HB2 := hid (HB.out.trans (B4.out.mono HB.out.size))
            clear hr HAB
            go_wp2_with ((with_reducible show wpList _ _ _ (Oper.mk _ (Op.store 26 _ _) _ _ _ _ :: _) _ _); go_must (refine wpList_store_row rfl 26 _ _ rfl (w.heap.size) _ rfl rfl 26 _ HR2.out sizePr rfl (onePr [] []) ?_))
            refine bodyPost_ret (results_row6 rfl _ _ (w.heap.size) 26 _ (0, 0) _ rfl (setRow_heap _ _ _ _ _ _ HR2.out) Tryz.underlying26 rfl sizePr) rfl ?_
            exact ⟨by rw [HO.out]; rfl, Below.setRow HB2.out (by omega) _⟩
      · have e0 : ((A.length : Int) != (B.length : Int)) = true := by
          have : ¬ (A.length : Int) = (B.length : Int) := by omega
          simpa using this
        have HO2 : Hid (lvsO A B = (([], []), 1)) := by unfold lvsO; exact if_neg fun h => hl h.1
        clear hl wA wB
        generalize A.length = n at *
        generalize B.length = n2 at *
        go_enter Tryz.func10, Tryz.ntmps10
        go_wp2_with (first
          | (go_at_call 32; (with_reducible refine i1.mono ?_); rintro e w9 ⟨rfl, h9⟩; have h9 := h9.symm; subst h9)
          | (go_at_call 32; (with_reducible refine i2.mono ?_); rintro e w9 ⟨rfl, h9⟩; have h9 := h9.symm; subst h9)
          | ((with_reducible show wpList _ _ _ (Oper.mk _ (Op.store 26 _ _) _ _ _ _ :: _) _ _); go_must (refine wpList_store_row rfl 26 _ _ rfl (w.heap.size) _ rfl rfl 26 _ HR.out sizePr rfl (onePr [] []) ?_)))
        refine bodyPost_ret (results_row6 rfl _ _ (w.heap.size) 26 _ (0, 0) _ rfl (setRow_heap _ _ _ _ _ _ HR.out) Tryz.underlying26 rfl sizePr) rfl ?_
        exact ⟨by rw [HO2.out]; rfl, Below.setRow HB.out (by omega) _⟩
    · rw [decide_eq_false wB] at i2
      have HO2 : Hid (lvsO A B = (([], []), 1)) := by unfold lvsO; exact if_neg fun h => wB h.2.2
      clear wA wB
      generalize A.length = n at *
      generalize B.length = n2 at *
      go_enter Tryz.func10, Tryz.ntmps10
      go_wp2_with (first
        | (go_at_call 32; (with_reducible refine i1.mono ?_); rintro e w9 ⟨rfl, h9⟩; have h9 := h9.symm; subst h9)
        | (go_at_call 32; (with_reducible refine i2.mono ?_); rintro e w9 ⟨rfl, h9⟩; have h9 := h9.symm; subst h9)
        | ((with_reducible show wpList _ _ _ (Oper.mk _ (Op.store 26 _ _) _ _ _ _ :: _) _ _); go_must (refine wpList_store_row rfl 26 _ _ rfl (w.heap.size) _ rfl rfl 26 _ HR.out sizePr rfl (onePr [] []) ?_)))
      refine bodyPost_ret (results_row6 rfl _ _ (w.heap.size) 26 _ (0, 0) _ rfl (setRow_heap _ _ _ _ _ _ HR.out) Tryz.underlying26 rfl sizePr) rfl ?_
      exact ⟨by rw [HO2.out]; rfl, Below.setRow HB.out (by omega) _⟩
  · rw [decide_eq_false wA] at i1
    have HO2 : Hid (lvsO A B = (([], []), 1)) := by unfold lvsO; exact if_neg fun h => wA h.2.1
    obtain ⟨z, hz⟩ : ∃ z, decide (wrg B = 0) = z := ⟨_, rfl⟩
    rw [hz] at i2
    clear wA hz
    generalize A.length = n at *
    generalize B.length = n2 at *
    go_enter Tryz.func10, Tryz.ntmps10
    go_wp2_with (first
      | (go_at_call 32; (with_reducible refine i1.mono ?_); rintro e w9 ⟨rfl, h9⟩; have h9 := h9.symm; subst h9)
      | (go_at_call 32; (with_reducible refine i2.mono ?_); rintro e w9 ⟨rfl, h9⟩; have h9 := h9.symm; subst h9)
      | ((with_reducible show wpList _ _ _ (Oper.mk _ (Op.store 26 _ _) _ _ _ _ :: _) _ _); go_must (refine wpList_store_row rfl 26 _ _ rfl (w.heap.size) _ rfl rfl 26 _ HR.out sizePr rfl (onePr [] []) ?_)))
    refine bodyPost_ret (results_row6 rfl _ _ (w.heap.size) 26 _ (0, 0) _ rfl (setRow_heap _ _ _ _ _ _ HR.out) Tryz.underlying26 rfl sizePr) rfl ?_
    exact ⟨by rw [HO2.out]; rfl, Below.setRow HB.out (by omega) _⟩
end Go.Proofs.YthoekndjeclimaaGreatDoor
