import Derived.Test.YtlfmnedmbkpdbaaDoorCEX4
namespace Go.Proofs.YtlfmnedmbkpdbaaDoor
open Go.RowKit
set_option maxRecDepth 100000 in
set_option maxHeartbeats 4000000 in
theorem lists_any (A B : List (List UInt8)) (one two : List UInt8) (va vb : Value) (w : World) (hA : Lv w va A) (hB : Lv w vb B) (h1 : one.length ≤ 140737488355328) (h2 : two.length ≤ 140737488355328) (T : Tabs w) :
    Calls Tryd.prog 5 #[va, vb, sv one, sv two] w fun e w' => e = .returned (.bool true) ∧ Below w.heap.size w w' := by
  have HLA := hid hA
  have HLB := hid hB
  obtain ⟨aa, ca, rfl, a1, a2, a3⟩ := hA
  obtain ⟨ab, cb, rfl, b1, b2, b3⟩ := hB
  obtain ⟨n, HN⟩ : ∃ n, Hid (A.length = n) := ⟨_, rfl⟩
  obtain ⟨m, HM⟩ : ∃ n, Hid (B.length = n) := ⟨_, rfl⟩
  have i0 := awake_any w T
  have i1 := fun w' (hb : Below w.heap.size w w') => Leaves_any A B _ _ w' (HLA.out.below hb) (HLB.out.below hb) (T.below hb T.lt)
  have i2 := fun w' (hb : Below w.heap.size w w') => Root_any A aa ca w' a1 a2 (a3.below hb (Nat.le_refl _)) (T.below hb T.lt)
  have i3 := fun w' (hb : Below w.heap.size w w') => Root_any B ab cb w' b1 b2 (b3.below hb (Nat.le_refl _)) (T.below hb T.lt)
  have i4 := fun w' (hb : Below w.heap.size w w') => Entries_any one two h1 h2 w' (T.below hb T.lt)
  have i5 := fun w' (hb : Below w.heap.size w w') => leaf_at6 one h1 w' (T.below hb T.lt)
  have i6 := fun w' (hb : Below w.heap.size w w') => leaf_at6 two h2 w' (T.below hb T.lt)
  obtain ⟨ra, za, hra0⟩ : ∃ r z, rootOut A = (r, z) := ⟨_, _, rfl⟩
  obtain ⟨rb, zb, hrb0⟩ : ∃ r z, rootOut B = (r, z) := ⟨_, _, rfl⟩
  have HZA : Hid (wrg A = za) := by unfold Hid; rw [← rootOut_snd, hra0]
  have HZB : Hid (wrg B = zb) := by unfold Hid; rw [← rootOut_snd, hrb0]
  have HRA := hid hra0
  have HRB := hid hrb0
  rw [hra0, HN.out, svS] at i2
  rw [hrb0, HM.out, svS] at i3
  rw [HN.out, HM.out] at i1 ⊢
  rw [svS one, svS two] at i4 ⊢
  have HT := hid T
  have HAA := hid a3
  have HBB := hid b3
  have hn63 : n ≤ 9223372036854775807 := by rw [← HN.out]; omega
  obtain ⟨p, q, ze, hio⟩ : ∃ p q ze, Hid (lvsO A B = ((p, q), ze)) := ⟨_, _, _, rfl⟩
  obtain ⟨p2, q2, zh, hen⟩ : ∃ p q ze, Hid (entO one two = ((p, q), ze)) := ⟨_, _, _, rfl⟩
  rw [hio.out] at i1
  rw [hen.out] at i4
  have i1 := fun w' hb => show Calls Tryd.prog 14 #[.slice aa n ca, .slice ab m cb] w' fun e w'' => e = .returned (.tuple #[.agg #[.string ⟨p.toArray⟩, .string ⟨q.toArray⟩], .int .i64 ze]) ∧ Below w'.heap.size w' w'' from i1 w' hb
  have i4 := fun w' hb => show Calls Tryd.prog 15 #[.string ⟨one.toArray⟩, .string ⟨two.toArray⟩] w' fun e w'' => e = .returned (.tuple #[.agg #[.string ⟨p2.toArray⟩, .string ⟨q2.toArray⟩], .int .i64 zh]) ∧ Below w'.heap.size w' w'' from i4 w' hb
  obtain ⟨x1, hx1⟩ : ∃ x, Hid (Sha.sha (0 :: one) = x) := ⟨_, rfl⟩
  obtain ⟨x2, hx2⟩ : ∃ x, Hid (Sha.sha (0 :: two) = x) := ⟨_, rfl⟩
  rw [hx1.out] at i5
  rw [hx2.out] at i6
  rw [HN.out] at a1
  rw [HM.out] at b1
  clear hra0 hrb0 a3 b3 T HLA HLB
  go_enter Tryd.func5, Tryd.ntmps5
  go_wp2_with (go_at_call 6; fail)
  refine i0.mono ?_
  rintro e w1 ⟨rfl, b⟩
  have Bw1 := hid b
  have j1 := i1 w1 b
  clear i0 i1 b
  go_wp2_with (go_at_call 14; fail)
  refine j1.mono ?_
  rintro e w2 ⟨rfl, b⟩
  have Bw2 := hid (Bw1.out.trans (b.mono Bw1.out.size))
  have al := (Below.refl w2.heap.size w2).alloc (Nat.le_refl _) (.cells #[Value.string ⟨p.toArray⟩, .string ⟨q.toArray⟩] 25)
  have ro := heap_alloc_new w2 (.cells #[Value.string ⟨p.toArray⟩, .string ⟨q.toArray⟩] 25)
  obtain ⟨w3, hw3⟩ : ∃ w3, Hid (w2.alloc (.cells #[Value.string ⟨p.toArray⟩, .string ⟨q.toArray⟩] 25) = w3) := ⟨_, rfl⟩
  rw [hw3.out] at al ro
  have Bw3 := hid (Bw2.out.trans (al.mono Bw2.out.size))
  obtain ⟨gp, hgp⟩ : ∃ gp, w2.heap.size = gp := ⟨_, rfl⟩
  rw [hgp] at ro
  have RPw3 := hid ro
  have j2 := i2 w3 Bw3.out
  clear j1 i2 b al ro
  go_wp2_with (go_at_call 8; fail)
  rw [hw3.out]
  refine j2.mono ?_
  rintro e w4 ⟨rfl, b⟩
  have Bw4 := hid (Bw3.out.trans (b.mono Bw3.out.size))
  have RPw4 := hid ((b.block _ (lt_of_heap RPw3.out)).trans RPw3.out)
  have j3 := i3 w4 Bw4.out
  clear j2 i3 b RPw3 hw3
  go_wp2_with (go_at_call 8; fail)
  refine j3.mono ?_
  rintro e w5 ⟨rfl, b⟩
  have Bw5 := hid (Bw4.out.trans (b.mono Bw4.out.size))
  have RPw5 := hid ((b.block _ (lt_of_heap RPw4.out)).trans RPw4.out)
  have j4 := i4 w5 Bw5.out
  clear j3 i4 b RPw4
  go_wp2_with (go_at_call 15; fail)
  refine j4.mono ?_
  rintro e w6 ⟨rfl, b⟩
  have Bw6 := hid (Bw5.out.trans (b.mono Bw5.out.size))
  have RPw6 := hid ((b.block _ (lt_of_heap RPw5.out)).trans RPw5.out)
  have al := (Below.refl w6.heap.size w6).alloc (Nat.le_refl _) (.cells #[Value.string ⟨p2.toArray⟩, .string ⟨q2.toArray⟩] 25)
  have ro := heap_alloc_new w6 (.cells #[Value.string ⟨p2.toArray⟩, .string ⟨q2.toArray⟩] 25)
  obtain ⟨w7, hw7⟩ : ∃ w7, Hid (w6.alloc (.cells #[Value.string ⟨p2.toArray⟩, .string ⟨q2.toArray⟩] 25) = w7) := ⟨_, rfl⟩
  rw [hw7.out] at al ro
  have Bw7 := hid (Bw6.out.trans (al.mono Bw6.out.size))
  have RPw7 := hid ((al.block _ (lt_of_heap RPw6.out)).trans RPw6.out)
  obtain ⟨gq, hgq⟩ : ∃ gq, w6.heap.size = gq := ⟨_, rfl⟩
  rw [hgq] at ro
  have RQw7 := hid ro
  have j5 := i5 w7 Bw7.out
  clear j4 i5 b al ro RPw5 RPw6
  go_wp2_with (go_at_call 16; fail)
  rw [hw7.out]
  refine j5.mono ?_
  rintro e w8 ⟨rfl, b⟩
  have Bw8 := hid (Bw7.out.trans (b.mono Bw7.out.size))
  have RPw8 := hid ((b.block _ (lt_of_heap RPw7.out)).trans RPw7.out)
  have RQw8 := hid ((b.block _ (lt_of_heap RQw7.out)).trans RQw7.out)
  have j6 := i6 w8 Bw8.out
  clear j5 i6 b RPw7 RQw7 hw7
  go_wp2_with (go_at_call 16; fail)
  refine j6.mono ?_
  rintro e w9 ⟨rfl, b⟩
  have Bw9 := hid (Bw8.out.trans (b.mono Bw8.out.size))
  have RPw9 := hid ((b.block _ (lt_of_heap RPw8.out)).trans RPw8.out)
  have RQw9 := hid ((b.block _ (lt_of_heap RQw8.out)).trans RQw8.out)
  clear j6 b RPw8 RQw8
  have hen' := hen.out
  unfold entO at hen'
  rw [hx1.out, hx2.out] at hen'
  by_cases hxx : x1 = x2
  · have f1 : (x1 == x2) = true := by simpa using hxx
    by_cases h12 : one = two
    · have f2 : (one == two) = true := by simpa using h12
      rw [if_pos (.inl h12)] at hen'
      have h60 := (Prod.mk.inj hen').2
      have f3 : (zh == 60) = true := by rw [← h60]; rfl
      clear hen' h60 hxx h12
      by_cases hza : za = 0
      · have e1 : (za != 0) = false := by subst hza; rfl
        by_cases hzb : zb = 0
        · have e2 : (zb != 0) = false := by subst hzb; rfl
          by_cases hnm : n = m
          · have e3 : ((n : Int) != (m : Int)) = false := by rw [hnm]; simp
            have hok : Hid (A.length = B.length ∧ wrg A = 0 ∧ wrg B = 0) := ⟨by rw [HN.out, HM.out, hnm], HZA.out.trans hza, HZB.out.trans hzb⟩
            have oA := Okl.of hok.out.2.1
            have oB := Okl.of hok.out.2.2
            have hrae : Hid (ra = Tree.root A) := by have := HRA.out; rw [oA.out] at this; exact (Prod.mk.inj this).1.symm
            have hrbe : Hid (rb = Tree.root B) := by have := HRB.out; rw [oB.out] at this; exact (Prod.mk.inj this).1.symm
            have HOA := hid oA
            have HOB := hid oB
            have HNM := hid hnm
            clear hza hzb hnm oA oB
            go_wp2
            go_loopw [19, 20] (fun v i w' => ∃ k : Nat, i = .int .i64 (k : Int) ∧ k ≤ n ∧ v = .bool (decide (A.take k = B.take k)) ∧ Hid (Below w9.heap.size w9 w')) (fun _ i _ => n - (intOf i).toNat)
            case atStart => exact ⟨0, rfl, by omega, by rw [decide_eq_true (by rw [List.take_zero, List.take_zero])], hid (Below.refl _ _)⟩
            case round =>
              obtain ⟨k, rfl, hk, rfl, hb⟩ := hrel
              by_cases hkn : k < n
              · have c0 : (k : Int) < (n : Int) := by omega
                have c1 : (k : Int) < (m : Int) := by have := HNM.out; omega
                have lA : k < A.length := by rw [HN.out]; exact hkn
                have lB : k < B.length := by rw [HM.out, ← HNM.out]; exact hkn
                by_cases ht : A.take k = B.take k
                · rw [decide_eq_true ht]
                  obtain ⟨x, rfl, xb, hx⟩ := (HAA.out.below (Bw9.out.trans (hb.out.mono Bw9.out.size)) (Nat.le_refl _)) k A[k] (List.getElem?_eq_getElem lA)
                  obtain ⟨y, rfl, yb, hy⟩ := (HBB.out.below (Bw9.out.trans (hb.out.mono Bw9.out.size)) (Nat.le_refl _)) k B[k] (List.getElem?_eq_getElem lB)
                  rw [svS] at hx hy
                  clear xb yb
                  by_cases he : A[k] = B[k]
                  · have hq' := take_next ht lA lB he
                    rw [← he] at hy
                    have HQ : Hid (Value.bool true = .bool (decide (A.take (k + 1) = B.take (k + 1)))) := by unfold Hid; rw [decide_eq_true hq']
                    generalize A[k] = pp at *
                    have y1 : (pp == pp) = true := by simp
                    clear ht he hq' lA lB
                    go_wp2
                    go_quiet (fail)
                    go_wp2
                    exact ⟨⟨k + 1, by go_num, by omega, HQ.out, hid (below_drewN hb.out _)⟩, by simp [intOf]; omega⟩
                  · have hq' : ¬ A.take (k + 1) = B.take (k + 1) := fun h => he (by
                      have h1 := congrArg (fun l => l[k]?) h
                      simp only [List.getElem?_take, Nat.lt_succ_self, if_true] at h1
                      rw [List.getElem?_eq_getElem lA, List.getElem?_eq_getElem lB] at h1
                      exact Option.some.inj h1)
                    have HQ : Hid (Value.bool false = .bool (decide (A.take (k + 1) = B.take (k + 1)))) := by unfold Hid; rw [decide_eq_false hq']
                    have y1 : (A[k] == B[k]) = false := by simpa using he
                    generalize A[k] = pp at *
                    generalize B[k] = qq at *
                    clear ht he hq' lA lB
                    go_wp2
                    go_quiet (fail)
                    go_wp2
                    exact ⟨⟨k + 1, by go_num, by omega, HQ.out, hid (below_drewN hb.out _)⟩, by simp [intOf]; omega⟩
                · rw [decide_eq_false ht]
                  have hq' : ¬ A.take (k + 1) = B.take (k + 1) := fun h => ht (by
                    have h1 := congrArg (fun l => l.take k) h
                    simp only [List.take_take] at h1
                    rwa [Nat.min_eq_left (Nat.le_succ k)] at h1)
                  have HQ : Hid (Value.bool false = .bool (decide (A.take (k + 1) = B.take (k + 1)))) := by unfold Hid; rw [decide_eq_false hq']
                  clear ht hq' lA lB
                  go_wp2
                  go_quiet (fail)
                  go_wp2
                  exact ⟨⟨k + 1, by go_num, by omega, HQ.out, hid (below_drewN hb.out _)⟩, by simp [intOf]; omega⟩
              · obtain rfl : k = n := by omega
                have c0 : ¬ (k : Int) < (k : Int) := by omega
                have tA : A.take k = A := List.take_of_length_le (by rw [HN.out]; exact Nat.le_refl _)
                have tB : B.take k = B := List.take_of_length_le (by rw [HM.out, ← HNM.out]; exact Nat.le_refl _)
                rw [tA, tB]
                have BF := hid (Bw9.out.trans (hb.out.mono Bw9.out.size))
                have RF := hid ((hb.out.block _ (lt_of_heap RPw9.out)).trans RPw9.out)
                clear tA tB hb
                have hio' := hio.out
                unfold lvsO at hio'
                rw [if_pos hok.out] at hio'
                by_cases hab : A = B
                · rw [decide_eq_true hab]
                  rw [if_pos (.inl hab)] at hio'
                  have h60 := (Prod.mk.inj hio').2
                  have e4 : (ze == 60) = true := by rw [← h60]; rfl
                  clear hio' h60 hab
                  go_wp2
                  go_ret
                  exact ⟨rfl, BF.out⟩
                · rw [decide_eq_false hab]
                  by_cases hrr : ra = rb
                  · have e4 : (ra == rb) = true := by simpa using hrr
                    have hrr2 : Tree.root A = Tree.root B := by rw [← hrae.out, ← hrbe.out]; exact hrr
                    obtain ⟨p', q', h1, h2, h3⟩ := Tree.partF_some A.length A B (Nat.le_refl _) hok.out.1 HOA.out.1 HOB.out.1 hrr2 hab
                    rw [if_neg (by simp [hab, hrr2]), h1] at hio'
                    have hpp := (Prod.mk.inj hio').1
                    have hze := (Prod.mk.inj hio').2
                    have hp1 := (Prod.mk.inj hpp).1
                    have hq1 := (Prod.mk.inj hpp).2
                    subst hp1 hq1
                    have hln := Tree.partF_len _ _ _ _ _ HOA.out.1 HOB.out.1 h1
                    have j5 := unlike_yes p' q' (by omega) (by omega) h2 h3 wr (HT.out.below BF.out HT.out.lt)
                    have j5 : Calls Tryd.prog 10 #[.agg #[.string ⟨p'.toArray⟩, .string ⟨q'.toArray⟩]] wr _ := j5
                    have e5 : (ze == 0) = true := by rw [← hze]; rfl
                    have k0 : wr.cell? ⟨gp, 0, none⟩ = some (.string ⟨p'.toArray⟩) := by rw [cell_of_row _ _ _ _ _ _ RF.out]; rfl
                    have k1 : wr.cell? ⟨gp, 1, none⟩ = some (.string ⟨q'.toArray⟩) := by rw [cell_of_row _ _ _ _ _ _ RF.out]; rfl
                    clear hio' hpp hze h1 h2 h3 hln hrr hrr2 hab
                    go_wp2_with (go_at_call 10; fail)
                    refine j5.mono ?_
                    rintro e w20 ⟨rfl, b20⟩
                    have B20 := hid (BF.out.trans (b20.mono BF.out.size))
                    clear j5 b20
                    go_wp2
                    go_ret
                    exact ⟨rfl, B20.out⟩
                  · have e4 : (ra == rb) = false := by simpa using hrr
                    rw [if_pos (.inr (by rw [← hrae.out, ← hrbe.out]; exact hrr))] at hio'
                    have h60 := (Prod.mk.inj hio').2
                    have e5 : (ze == 60) = true := by rw [← h60]; rfl
                    clear hio' h60 hrr hab
                    go_wp2
                    go_ret
                    exact ⟨rfl, BF.out⟩
          · have e3 : ((n : Int) != (m : Int)) = true := by
              have : ¬ (n : Int) = (m : Int) := by omega
              simpa using this
            have h1 : ze = 1 := by
              have h := hio.out
              unfold lvsO at h
              rw [if_neg (by rw [HN.out, HM.out]; exact fun h => hnm h.1)] at h
              exact (Prod.mk.inj h).2.symm
            have e4 : (ze == 1) = true := by rw [h1]; rfl
            clear h1 hnm hza hzb
            go_wp2
            go_ret
            exact ⟨rfl, Bw9.out⟩
        · have e2 : (zb != 0) = true := by simpa using hzb
          have h1 : ze = 1 := by
            have h := hio.out
            unfold lvsO at h
            rw [if_neg (by rw [HZB.out]; exact fun h => hzb h.2.2)] at h
            exact (Prod.mk.inj h).2.symm
          have e4 : (ze == 1) = true := by rw [h1]; rfl
          clear h1 hza hzb
          go_wp2
          go_ret
          exact ⟨rfl, Bw9.out⟩
      · have e1 : (za != 0) = true := by simpa using hza
        have h1 : ze = 1 := by
          have h := hio.out
          unfold lvsO at h
          rw [if_neg (by rw [HZA.out]; exact fun h => hza h.2.1)] at h
          exact (Prod.mk.inj h).2.symm
        have e4 : (ze == 1) = true := by rw [h1]; rfl
        clear h1 hza
        go_wp2
        go_ret
        exact ⟨rfl, Bw9.out⟩
    · have f2 : (one == two) = false := by simpa using h12
      rw [if_neg (by simp [h12, hxx])] at hen'
      have hpp := (Prod.mk.inj hen').1
      have hzh := (Prod.mk.inj hen').2
      have hp1 := (Prod.mk.inj hpp).1
      have hq1 := (Prod.mk.inj hpp).2
      subst hp1 hq1
      have f3 : (zh == 0) = true := by rw [← hzh]; rfl
      have f4 : (zh != 0) = false := by rw [← hzh]; rfl
      have j7 := unlike_yes (0 :: one) (0 :: two) (by simp; omega) (by simp; omega) (fun e => h12 (List.cons.inj e).2) (by rw [hx1.out, hx2.out, hxx]) w9 (HT.out.below Bw9.out HT.out.lt)
      have j7 : Calls Tryd.prog 10 #[.agg #[.string ⟨(0 :: one).toArray⟩, .string ⟨(0 :: two).toArray⟩]] w9 _ := j7
      have k0 : w9.cell? ⟨gq, 0, none⟩ = some (.string ⟨(0 :: one).toArray⟩) := by rw [cell_of_row _ _ _ _ _ _ RQw9.out]; rfl
      have k1 : w9.cell? ⟨gq, 1, none⟩ = some (.string ⟨(0 :: two).toArray⟩) := by rw [cell_of_row _ _ _ _ _ _ RQw9.out]; rfl
      generalize (0 :: one).toArray = t1 at *
      generalize (0 :: two).toArray = t2 at *
      clear hen' hpp hzh hxx h12
      go_wp2_with (go_at_call 10; fail)
      refine j7.mono ?_
      rintro e w10 ⟨rfl, b⟩
      have Bw10 := hid (Bw9.out.trans (b.mono Bw9.out.size))
      have RPw10 := hid ((b.block _ (lt_of_heap RPw9.out)).trans RPw9.out)
      clear j7 b RPw9 RQw9 k0 k1
      by_cases hza : za = 0
      · have e1 : (za != 0) = false := by subst hza; rfl
        by_cases hzb : zb = 0
        · have e2 : (zb != 0) = false := by subst hzb; rfl
          by_cases hnm : n = m
          · have e3 : ((n : Int) != (m : Int)) = false := by rw [hnm]; simp
            have hok : Hid (A.length = B.length ∧ wrg A = 0 ∧ wrg B = 0) := ⟨by rw [HN.out, HM.out, hnm], HZA.out.trans hza, HZB.out.trans hzb⟩
            have oA := Okl.of hok.out.2.1
            have oB := Okl.of hok.out.2.2
            have hrae : Hid (ra = Tree.root A) := by have := HRA.out; rw [oA.out] at this; exact (Prod.mk.inj this).1.symm
            have hrbe : Hid (rb = Tree.root B) := by have := HRB.out; rw [oB.out] at this; exact (Prod.mk.inj this).1.symm
            have HOA := hid oA
            have HOB := hid oB
            have HNM := hid hnm
            clear hza hzb hnm oA oB
            go_wp2
            go_loopw [19, 20] (fun v i w' => ∃ k : Nat, i = .int .i64 (k : Int) ∧ k ≤ n ∧ v = .bool (decide (A.take k = B.take k)) ∧ Hid (Below w10.heap.size w10 w')) (fun _ i _ => n - (intOf i).toNat)
            case atStart => exact ⟨0, rfl, by omega, by rw [decide_eq_true (by rw [List.take_zero, List.take_zero])], hid (Below.refl _ _)⟩
            case round =>
              obtain ⟨k, rfl, hk, rfl, hb⟩ := hrel
              by_cases hkn : k < n
              · have c0 : (k : Int) < (n : Int) := by omega
                have c1 : (k : Int) < (m : Int) := by have := HNM.out; omega
                have lA : k < A.length := by rw [HN.out]; exact hkn
                have lB : k < B.length := by rw [HM.out, ← HNM.out]; exact hkn
                by_cases ht : A.take k = B.take k
                · rw [decide_eq_true ht]
                  obtain ⟨x, rfl, xb, hx⟩ := (HAA.out.below (Bw10.out.trans (hb.out.mono Bw10.out.size)) (Nat.le_refl _)) k A[k] (List.getElem?_eq_getElem lA)
                  obtain ⟨y, rfl, yb, hy⟩ := (HBB.out.below (Bw10.out.trans (hb.out.mono Bw10.out.size)) (Nat.le_refl _)) k B[k] (List.getElem?_eq_getElem lB)
                  rw [svS] at hx hy
                  clear xb yb
                  by_cases he : A[k] = B[k]
                  · have hq' := take_next ht lA lB he
                    rw [← he] at hy
                    have HQ : Hid (Value.bool true = .bool (decide (A.take (k + 1) = B.take (k + 1)))) := by unfold Hid; rw [decide_eq_true hq']
                    generalize A[k] = pp at *
                    have y1 : (pp == pp) = true := by simp
                    clear ht he hq' lA lB
                    go_wp2
                    go_quiet (fail)
                    go_wp2
                    exact ⟨⟨k + 1, by go_num, by omega, HQ.out, hid (below_drewN hb.out _)⟩, by simp [intOf]; omega⟩
                  · have hq' : ¬ A.take (k + 1) = B.take (k + 1) := fun h => he (by
                      have h1 := congrArg (fun l => l[k]?) h
                      simp only [List.getElem?_take, Nat.lt_succ_self, if_true] at h1
                      rw [List.getElem?_eq_getElem lA, List.getElem?_eq_getElem lB] at h1
                      exact Option.some.inj h1)
                    have HQ : Hid (Value.bool false = .bool (decide (A.take (k + 1) = B.take (k + 1)))) := by unfold Hid; rw [decide_eq_false hq']
                    have y1 : (A[k] == B[k]) = false := by simpa using he
                    generalize A[k] = pp at *
                    generalize B[k] = qq at *
                    clear ht he hq' lA lB
                    go_wp2
                    go_quiet (fail)
                    go_wp2
                    exact ⟨⟨k + 1, by go_num, by omega, HQ.out, hid (below_drewN hb.out _)⟩, by simp [intOf]; omega⟩
                · rw [decide_eq_false ht]
                  have hq' : ¬ A.take (k + 1) = B.take (k + 1) := fun h => ht (by
                    have h1 := congrArg (fun l => l.take k) h
                    simp only [List.take_take] at h1
                    rwa [Nat.min_eq_left (Nat.le_succ k)] at h1)
                  have HQ : Hid (Value.bool false = .bool (decide (A.take (k + 1) = B.take (k + 1)))) := by unfold Hid; rw [decide_eq_false hq']
                  clear ht hq' lA lB
                  go_wp2
                  go_quiet (fail)
                  go_wp2
                  exact ⟨⟨k + 1, by go_num, by omega, HQ.out, hid (below_drewN hb.out _)⟩, by simp [intOf]; omega⟩
              · obtain rfl : k = n := by omega
                have c0 : ¬ (k : Int) < (k : Int) := by omega
                have tA : A.take k = A := List.take_of_length_le (by rw [HN.out]; exact Nat.le_refl _)
                have tB : B.take k = B := List.take_of_length_le (by rw [HM.out, ← HNM.out]; exact Nat.le_refl _)
                rw [tA, tB]
                have BF := hid (Bw10.out.trans (hb.out.mono Bw10.out.size))
                have RF := hid ((hb.out.block _ (lt_of_heap RPw10.out)).trans RPw10.out)
                clear tA tB hb
                have hio' := hio.out
                unfold lvsO at hio'
                rw [if_pos hok.out] at hio'
                by_cases hab : A = B
                · rw [decide_eq_true hab]
                  rw [if_pos (.inl hab)] at hio'
                  have h60 := (Prod.mk.inj hio').2
                  have e4 : (ze == 60) = true := by rw [← h60]; rfl
                  clear hio' h60 hab
                  go_wp2
                  go_ret
                  exact ⟨rfl, BF.out⟩
                · rw [decide_eq_false hab]
                  by_cases hrr : ra = rb
                  · have e4 : (ra == rb) = true := by simpa using hrr
                    have hrr2 : Tree.root A = Tree.root B := by rw [← hrae.out, ← hrbe.out]; exact hrr
                    obtain ⟨p', q', h1, h2, h3⟩ := Tree.partF_some A.length A B (Nat.le_refl _) hok.out.1 HOA.out.1 HOB.out.1 hrr2 hab
                    rw [if_neg (by simp [hab, hrr2]), h1] at hio'
                    have hpp := (Prod.mk.inj hio').1
                    have hze := (Prod.mk.inj hio').2
                    have hp1 := (Prod.mk.inj hpp).1
                    have hq1 := (Prod.mk.inj hpp).2
                    subst hp1 hq1
                    have hln := Tree.partF_len _ _ _ _ _ HOA.out.1 HOB.out.1 h1
                    have j5 := unlike_yes p' q' (by omega) (by omega) h2 h3 wr (HT.out.below BF.out HT.out.lt)
                    have j5 : Calls Tryd.prog 10 #[.agg #[.string ⟨p'.toArray⟩, .string ⟨q'.toArray⟩]] wr _ := j5
                    have e5 : (ze == 0) = true := by rw [← hze]; rfl
                    have k0 : wr.cell? ⟨gp, 0, none⟩ = some (.string ⟨p'.toArray⟩) := by rw [cell_of_row _ _ _ _ _ _ RF.out]; rfl
                    have k1 : wr.cell? ⟨gp, 1, none⟩ = some (.string ⟨q'.toArray⟩) := by rw [cell_of_row _ _ _ _ _ _ RF.out]; rfl
                    clear hio' hpp hze h1 h2 h3 hln hrr hrr2 hab
                    go_wp2_with (go_at_call 10; fail)
                    refine j5.mono ?_
                    rintro e w20 ⟨rfl, b20⟩
                    have B20 := hid (BF.out.trans (b20.mono BF.out.size))
                    clear j5 b20
                    go_wp2
                    go_ret
                    exact ⟨rfl, B20.out⟩
                  · have e4 : (ra == rb) = false := by simpa using hrr
                    rw [if_pos (.inr (by rw [← hrae.out, ← hrbe.out]; exact hrr))] at hio'
                    have h60 := (Prod.mk.inj hio').2
                    have e5 : (ze == 60) = true := by rw [← h60]; rfl
                    clear hio' h60 hrr hab
                    go_wp2
                    go_ret
                    exact ⟨rfl, BF.out⟩
          · have e3 : ((n : Int) != (m : Int)) = true := by
              have : ¬ (n : Int) = (m : Int) := by omega
              simpa using this
            have h1 : ze = 1 := by
              have h := hio.out
              unfold lvsO at h
              rw [if_neg (by rw [HN.out, HM.out]; exact fun h => hnm h.1)] at h
              exact (Prod.mk.inj h).2.symm
            have e4 : (ze == 1) = true := by rw [h1]; rfl
            clear h1 hnm hza hzb
            go_wp2
            go_ret
            exact ⟨rfl, Bw10.out⟩
        · have e2 : (zb != 0) = true := by simpa using hzb
          have h1 : ze = 1 := by
            have h := hio.out
            unfold lvsO at h
            rw [if_neg (by rw [HZB.out]; exact fun h => hzb h.2.2)] at h
            exact (Prod.mk.inj h).2.symm
          have e4 : (ze == 1) = true := by rw [h1]; rfl
          clear h1 hza hzb
          go_wp2
          go_ret
          exact ⟨rfl, Bw10.out⟩
      · have e1 : (za != 0) = true := by simpa using hza
        have h1 : ze = 1 := by
          have h := hio.out
          unfold lvsO at h
          rw [if_neg (by rw [HZA.out]; exact fun h => hza h.2.1)] at h
          exact (Prod.mk.inj h).2.symm
        have e4 : (ze == 1) = true := by rw [h1]; rfl
        clear h1 hza
        go_wp2
        go_ret
        exact ⟨rfl, Bw10.out⟩
  · have f1 : (x1 == x2) = false := by simpa using hxx
    rw [if_pos (.inr hxx)] at hen'
    have h60 := (Prod.mk.inj hen').2
    have f3 : (zh == 60) = true := by rw [← h60]; rfl
    clear hen' h60 hxx
    by_cases hza : za = 0
    · have e1 : (za != 0) = false := by subst hza; rfl
      by_cases hzb : zb = 0
      · have e2 : (zb != 0) = false := by subst hzb; rfl
        by_cases hnm : n = m
        · have e3 : ((n : Int) != (m : Int)) = false := by rw [hnm]; simp
          have hok : Hid (A.length = B.length ∧ wrg A = 0 ∧ wrg B = 0) := ⟨by rw [HN.out, HM.out, hnm], HZA.out.trans hza, HZB.out.trans hzb⟩
          have oA := Okl.of hok.out.2.1
          have oB := Okl.of hok.out.2.2
          have hrae : Hid (ra = Tree.root A) := by have := HRA.out; rw [oA.out] at this; exact (Prod.mk.inj this).1.symm
          have hrbe : Hid (rb = Tree.root B) := by have := HRB.out; rw [oB.out] at this; exact (Prod.mk.inj this).1.symm
          have HOA := hid oA
          have HOB := hid oB
          have HNM := hid hnm
          clear hza hzb hnm oA oB
          go_wp2
          go_loopw [19, 20] (fun v i w' => ∃ k : Nat, i = .int .i64 (k : Int) ∧ k ≤ n ∧ v = .bool (decide (A.take k = B.take k)) ∧ Hid (Below w9.heap.size w9 w')) (fun _ i _ => n - (intOf i).toNat)
          case atStart => exact ⟨0, rfl, by omega, by rw [decide_eq_true (by rw [List.take_zero, List.take_zero])], hid (Below.refl _ _)⟩
          case round =>
            obtain ⟨k, rfl, hk, rfl, hb⟩ := hrel
            by_cases hkn : k < n
            · have c0 : (k : Int) < (n : Int) := by omega
              have c1 : (k : Int) < (m : Int) := by have := HNM.out; omega
              have lA : k < A.length := by rw [HN.out]; exact hkn
              have lB : k < B.length := by rw [HM.out, ← HNM.out]; exact hkn
              by_cases ht : A.take k = B.take k
              · rw [decide_eq_true ht]
                obtain ⟨x, rfl, xb, hx⟩ := (HAA.out.below (Bw9.out.trans (hb.out.mono Bw9.out.size)) (Nat.le_refl _)) k A[k] (List.getElem?_eq_getElem lA)
                obtain ⟨y, rfl, yb, hy⟩ := (HBB.out.below (Bw9.out.trans (hb.out.mono Bw9.out.size)) (Nat.le_refl _)) k B[k] (List.getElem?_eq_getElem lB)
                rw [svS] at hx hy
                clear xb yb
                by_cases he : A[k] = B[k]
                · have hq' := take_next ht lA lB he
                  rw [← he] at hy
                  have HQ : Hid (Value.bool true = .bool (decide (A.take (k + 1) = B.take (k + 1)))) := by unfold Hid; rw [decide_eq_true hq']
                  generalize A[k] = pp at *
                  have y1 : (pp == pp) = true := by simp
                  clear ht he hq' lA lB
                  go_wp2
                  go_quiet (fail)
                  go_wp2
                  exact ⟨⟨k + 1, by go_num, by omega, HQ.out, hid (below_drewN hb.out _)⟩, by simp [intOf]; omega⟩
                · have hq' : ¬ A.take (k + 1) = B.take (k + 1) := fun h => he (by
                    have h1 := congrArg (fun l => l[k]?) h
                    simp only [List.getElem?_take, Nat.lt_succ_self, if_true] at h1
                    rw [List.getElem?_eq_getElem lA, List.getElem?_eq_getElem lB] at h1
                    exact Option.some.inj h1)
                  have HQ : Hid (Value.bool false = .bool (decide (A.take (k + 1) = B.take (k + 1)))) := by unfold Hid; rw [decide_eq_false hq']
                  have y1 : (A[k] == B[k]) = false := by simpa using he
                  generalize A[k] = pp at *
                  generalize B[k] = qq at *
                  clear ht he hq' lA lB
                  go_wp2
                  go_quiet (fail)
                  go_wp2
                  exact ⟨⟨k + 1, by go_num, by omega, HQ.out, hid (below_drewN hb.out _)⟩, by simp [intOf]; omega⟩
              · rw [decide_eq_false ht]
                have hq' : ¬ A.take (k + 1) = B.take (k + 1) := fun h => ht (by
                  have h1 := congrArg (fun l => l.take k) h
                  simp only [List.take_take] at h1
                  rwa [Nat.min_eq_left (Nat.le_succ k)] at h1)
                have HQ : Hid (Value.bool false = .bool (decide (A.take (k + 1) = B.take (k + 1)))) := by unfold Hid; rw [decide_eq_false hq']
                clear ht hq' lA lB
                go_wp2
                go_quiet (fail)
                go_wp2
                exact ⟨⟨k + 1, by go_num, by omega, HQ.out, hid (below_drewN hb.out _)⟩, by simp [intOf]; omega⟩
            · obtain rfl : k = n := by omega
              have c0 : ¬ (k : Int) < (k : Int) := by omega
              have tA : A.take k = A := List.take_of_length_le (by rw [HN.out]; exact Nat.le_refl _)
              have tB : B.take k = B := List.take_of_length_le (by rw [HM.out, ← HNM.out]; exact Nat.le_refl _)
              rw [tA, tB]
              have BF := hid (Bw9.out.trans (hb.out.mono Bw9.out.size))
              have RF := hid ((hb.out.block _ (lt_of_heap RPw9.out)).trans RPw9.out)
              clear tA tB hb
              have hio' := hio.out
              unfold lvsO at hio'
              rw [if_pos hok.out] at hio'
              by_cases hab : A = B
              · rw [decide_eq_true hab]
                rw [if_pos (.inl hab)] at hio'
                have h60 := (Prod.mk.inj hio').2
                have e4 : (ze == 60) = true := by rw [← h60]; rfl
                clear hio' h60 hab
                go_wp2
                go_ret
                exact ⟨rfl, BF.out⟩
              · rw [decide_eq_false hab]
                by_cases hrr : ra = rb
                · have e4 : (ra == rb) = true := by simpa using hrr
                  have hrr2 : Tree.root A = Tree.root B := by rw [← hrae.out, ← hrbe.out]; exact hrr
                  obtain ⟨p', q', h1, h2, h3⟩ := Tree.partF_some A.length A B (Nat.le_refl _) hok.out.1 HOA.out.1 HOB.out.1 hrr2 hab
                  rw [if_neg (by simp [hab, hrr2]), h1] at hio'
                  have hpp := (Prod.mk.inj hio').1
                  have hze := (Prod.mk.inj hio').2
                  have hp1 := (Prod.mk.inj hpp).1
                  have hq1 := (Prod.mk.inj hpp).2
                  subst hp1 hq1
                  have hln := Tree.partF_len _ _ _ _ _ HOA.out.1 HOB.out.1 h1
                  have j5 := unlike_yes p' q' (by omega) (by omega) h2 h3 wr (HT.out.below BF.out HT.out.lt)
                  have j5 : Calls Tryd.prog 10 #[.agg #[.string ⟨p'.toArray⟩, .string ⟨q'.toArray⟩]] wr _ := j5
                  have e5 : (ze == 0) = true := by rw [← hze]; rfl
                  have k0 : wr.cell? ⟨gp, 0, none⟩ = some (.string ⟨p'.toArray⟩) := by rw [cell_of_row _ _ _ _ _ _ RF.out]; rfl
                  have k1 : wr.cell? ⟨gp, 1, none⟩ = some (.string ⟨q'.toArray⟩) := by rw [cell_of_row _ _ _ _ _ _ RF.out]; rfl
                  clear hio' hpp hze h1 h2 h3 hln hrr hrr2 hab
                  go_wp2_with (go_at_call 10; fail)
                  refine j5.mono ?_
                  rintro e w20 ⟨rfl, b20⟩
                  have B20 := hid (BF.out.trans (b20.mono BF.out.size))
                  clear j5 b20
                  go_wp2
                  go_ret
                  exact ⟨rfl, B20.out⟩
                · have e4 : (ra == rb) = false := by simpa using hrr
                  rw [if_pos (.inr (by rw [← hrae.out, ← hrbe.out]; exact hrr))] at hio'
                  have h60 := (Prod.mk.inj hio').2
                  have e5 : (ze == 60) = true := by rw [← h60]; rfl
                  clear hio' h60 hrr hab
                  go_wp2
                  go_ret
                  exact ⟨rfl, BF.out⟩
        · have e3 : ((n : Int) != (m : Int)) = true := by
            have : ¬ (n : Int) = (m : Int) := by omega
            simpa using this
          have h1 : ze = 1 := by
            have h := hio.out
            unfold lvsO at h
            rw [if_neg (by rw [HN.out, HM.out]; exact fun h => hnm h.1)] at h
            exact (Prod.mk.inj h).2.symm
          have e4 : (ze == 1) = true := by rw [h1]; rfl
          clear h1 hnm hza hzb
          go_wp2
          go_ret
          exact ⟨rfl, Bw9.out⟩
      · have e2 : (zb != 0) = true := by simpa using hzb
        have h1 : ze = 1 := by
          have h := hio.out
          unfold lvsO at h
          rw [if_neg (by rw [HZB.out]; exact fun h => hzb h.2.2)] at h
          exact (Prod.mk.inj h).2.symm
        have e4 : (ze == 1) = true := by rw [h1]; rfl
        clear h1 hza hzb
        go_wp2
        go_ret
        exact ⟨rfl, Bw9.out⟩
    · have e1 : (za != 0) = true := by simpa using hza
      have h1 : ze = 1 := by
        have h := hio.out
        unfold lvsO at h
        rw [if_neg (by rw [HZA.out]; exact fun h => hza h.2.1)] at h
        exact (Prod.mk.inj h).2.symm
      have e4 : (ze == 1) = true := by rw [h1]; rfl
      clear h1 hza
      go_wp2
      go_ret
      exact ⟨rfl, Bw9.out⟩
end Go.Proofs.YtlfmnedmbkpdbaaDoor
