import Derived.Test.YtkbngmhhlpdpnaaDoorI18
namespace Go.Proofs.YtkbngmhhlpdpnaaDoor
open Go.RowKit
theorem At.cellSv {w : World} {x : Addr} {l : List (List UInt8)} (h : At w (some x) l) {j : Nat} {p : List UInt8} (hp : l[j]? = some p) : w.cell? (x.add j) = some (sv p) := by
  obtain ⟨y, hy, _, hc⟩ := h j p hp
  obtain rfl := Option.some.inj hy
  exact hc
set_option maxRecDepth 100000 in
set_option maxHeartbeats 600000 in
theorem trees_any (l : List (List UInt8)) (c1 c2 : Int) (a : Option Addr) (cap : Nat) (w : World) (h1 : -9223372036854775808 ≤ c1) (h1' : c1 ≤ 9223372036854775807) (h2 : -9223372036854775808 ≤ c2) (h2' : c2 ≤ 9223372036854775807) (hl : l.length ≤ 9223372036854775807) (hq : ∀ q ∈ l, q.length ≤ 140737488351232) (hA : At w a l) (T : Tabs w) :
    Calls Tryd.prog 6 #[.slice a l.length cap, .int .i64 c1, .int .i64 c2] w fun e w' => e = .returned (.bool true) ∧ Below w.heap.size w w' := by
  obtain ⟨ll, hll⟩ : ∃ ll, Hid (l.length = ll) := ⟨_, rfl⟩
  rw [hll.out] at hl ⊢
  have p0 := pk4_nonneg (ll : Int) 70 (by decide)
  have p0' := pk4_lt (ll : Int) 70 (by decide)
  have cp0 := pick4_any (ll : Int) 70 (by omega) (by omega) (by decide) (by decide)
  obtain ⟨s, hs⟩ := Int.eq_ofNat_of_zero_le p0
  rw [hs] at p0' cp0
  clear p0 hs
  obtain ⟨n, hn⟩ : ∃ n, 1 + s = n := ⟨_, rfl⟩
  have hn1 : 1 ≤ n := by omega
  have hn70 : n ≤ 70 := by omega
  have en := hid (show ((n : Nat) : Int) = 1 + (s : Int) by omega)
  clear hn
  have p1 := pk4_nonneg c1 (n : Int) (by omega)
  have p1' := pk4_lt c1 (n : Int) (by omega)
  have cp1 := pick4_any c1 (n : Int) h1 h1' (by omega) (by omega)
  obtain ⟨K, hK⟩ := Int.eq_ofNat_of_zero_le p1
  rw [hK] at p1' cp1
  have hKn : K < n := by omega
  clear p1 hK
  have p2 := pk4_nonneg c2 (n : Int) (by omega)
  have p2' := pk4_lt c2 (n : Int) (by omega)
  have cp2 := pick4_any c2 (n : Int) h2 h2' (by omega) (by omega)
  obtain ⟨M0, hM0⟩ := Int.eq_ofNat_of_zero_le p2
  rw [hM0] at p2' cp2
  obtain ⟨M, hM⟩ : ∃ M, 1 + M0 = M := ⟨_, rfl⟩
  have hM1 : 1 ≤ M := by omega
  have hMn : M ≤ n := by omega
  have eM := hid (show ((M : Nat) : Int) = 1 + (M0 : Int) by omega)
  clear p2 hM0 hM
  have HT := hid T
  have hT := T.lt
  have B0 := hid (Below.refl w.heap.size w)
  have T0 := HT
  have HA0 := hid hA
  have HQ := hid hq
  clear T hA hq
  go_enter Tryd.func6, Tryd.ntmps6
  go_wp2_with (go_at_call 23; fail)
  refine (known4_any _ T0.out).mono ?_
  rintro e w1 ⟨rfl, hw1⟩
  have B1 := hid (B0.out.trans (hw1.mono B0.out.size))
  have T1 := hid (HT.out.below B1.out hT)
  clear hw1 B0 T0
  go_wp2_with (first
    | (go_at_call 24; (with_reducible refine (cp0 _).mono ?_); rintro e w2 ⟨rfl, rfl⟩)
    | (go_at_call 26; fail))
  have hh := fun w' (hb : Below w.heap.size w w') => hashes4_any l n (by omega) HQ.out a cap w' (by rw [hll.out]; exact hl) (HA0.out.below hb (Nat.le_refl _))
  rw [hll.out, en.out] at hh
  refine (hh _ B1.out).mono ?_
  rintro e w3 ⟨v, X, rfl, hXl, hXa, hO, hw3⟩
  obtain ⟨xa, xc, rfl, hX, hxc, hxc2⟩ := hO.at4
  rw [hXl] at hxc ⊢
  obtain ⟨x, rfl⟩ := hX.pos (by omega)
  have hHs := Tree.hs_of_all hXa
  have hleaf : ∃ leaf, X[K]? = some leaf := ⟨X[K]'(by omega), List.getElem?_eq_getElem (by omega)⟩
  obtain ⟨leaf, hleaf⟩ := hleaf
  have says := treeSays hHs (by omega) hleaf hM1 (by omega)
  obtain ⟨sp1, sp2, sp3, sp4⟩ := says
  have hHs2 := Tree.Hs.take hHs M
  have htl : (X.take M).length = M := by rw [List.length_take]; omega
  have lr := Tree.root_hash hHs
  have cP := fun (P : List (List UInt8)) (h : Hid (Tree.path K X = P)) => Path_at (X := X) (P := P) (K := K) hHs (by omega) (by omega) h
  have cQ := fun (P : List (List UInt8)) (h : Hid (Tree.proof M X true = P)) => Proof_at (X := X) (P := P) (M := M) hHs (by omega) hM1 (by omega) h
  have cR := fun (r : List UInt8) (h : Hid (Tree.root X = r)) => Root_at (X := X) (r := r) hHs (by omega) h
  have cR2 := fun (r : List UInt8) (h : Hid (Tree.root (X.take M) = r)) => Root_at (X := X.take M) (r := r) hHs2 (by omega) h
  rw [hXl] at sp1 sp2 sp3 sp4
  obtain ⟨r0, hr0⟩ : ∃ r, Hid (Tree.root X = r) := ⟨_, rfl⟩
  obtain ⟨old, hold⟩ : ∃ r, Hid (Tree.root (X.take M) = r) := ⟨_, rfl⟩
  obtain ⟨P, hP⟩ : ∃ r, Hid (Tree.path K X = r) := ⟨_, rfl⟩
  obtain ⟨Q, hQ⟩ : ∃ r, Hid (Tree.proof M X true = r) := ⟨_, rfl⟩
  rw [hr0.out] at sp3 sp4 lr
  rw [hold.out] at sp4
  rw [hP.out] at sp1 sp3
  rw [hQ.out] at sp2 sp4
  obtain ⟨pl, hpl⟩ : ∃ k, Hid (P.length = k) := ⟨_, rfl⟩
  obtain ⟨ql, hql⟩ : ∃ k, Hid (Q.length = k) := ⟨_, rfl⟩
  rw [hpl.out] at sp1
  rw [hql.out] at sp2
  have S1 := hid sp1
  have S2 := hid sp2
  have S3 := hid sp3
  have S4 := hid sp4
  have HL := hid hleaf
  have HXl := hid hXl
  have hT1 := hid htl
  have A3 := hid hX
  have B3 := hid (B1.out.trans (hw3.mono B1.out.size))
  have T3 := hid (HT.out.below B3.out hT)
  have k1 : (K : Int) < (n : Int) := by omega
  have k2 : (M : Int) ≤ (xc : Int) := by omega
  have k3 : M ≤ xc := by omega
  have k4 : (1 + (M0 : Int)).toNat = M := by have := eM.out; omega
  have k5 : 1 + (M0 : Int) ≤ (xc : Int) := by have := eM.out; omega
  have k6 : 0 ≤ 1 + (M0 : Int) := by omega
  clear hw3 B1 T1 hO hX hXa hh sp1 sp2 sp3 sp4 hleaf hHs hHs2 htl HQ HA0 hXl
  go_wp2_with (go_at_call 33; fail)
  refine (cR r0 hr0 _ n xc _ HXl.out hxc hxc2 A3.out T3.out).mono ?_
  rintro e w4 ⟨rfl, hw4⟩
  have B4 := hid (B3.out.trans (hw4.mono B3.out.size))
  have T4 := hid (HT.out.below B4.out hT)
  have A4 := hid (A3.out.below hw4 (Nat.le_refl _))
  clear A3
  clear hw4 B3 T3
  go_wp2_with (first
    | (go_at_call 24; (with_reducible refine (cp1 _).mono ?_); rintro e w5 ⟨rfl, rfl⟩)
    | (go_at_call 24; (with_reducible refine (cp2 _).mono ?_); rintro e w5 ⟨rfl, rfl⟩)
    | (go_at_call 33; fail))
  rw [← eM.out]
  have A5 := A4
  have B5 := B4
  have T5 := T4
  clear A4 B4 T4
  refine (cR2 old hold _ M xc _ hT1.out (by omega) hxc2 (A5.out.take M) T5.out).mono ?_
  rintro e w6 ⟨rfl, hw6⟩
  have B6 := hid (B5.out.trans (hw6.mono B5.out.size))
  have T6 := hid (HT.out.below B6.out hT)
  have A6 := hid (A5.out.below hw6 (Nat.le_refl _))
  clear A5
  clear hw6 B5 T5
  go_wp2_with (go_at_call 11; fail)
  refine (cP P hP _ n xc _ HXl.out hxc hxc2 A6.out T6.out).mono ?_
  rintro e w7 ⟨vp, rfl, hOp, hw7⟩
  have B7 := hid (B6.out.trans (hw7.mono B6.out.size))
  have T7 := hid (HT.out.below B7.out hT)
  have A7 := hid (A6.out.below hw7 (Nat.le_refl _))
  clear A6
  obtain ⟨pa, pc, rfl, hpA, hp1, hp2⟩ := hOp.at4
  rw [hpl.out] at hp1 ⊢
  have P7 := hid hpA
  clear hpA hOp
  clear hw7 B6 T6
  go_wp2_with (go_at_call 13; fail)
  refine (cQ Q hQ _ n xc _ HXl.out hxc hxc2 A7.out T7.out).mono ?_
  rintro e w8 ⟨vq, rfl, hOq, hw8⟩
  have B8 := hid (B7.out.trans (hw8.mono B7.out.size))
  have T8 := hid (HT.out.below B8.out hT)
  have A8 := hid (A7.out.below hw8 (Nat.le_refl _))
  clear A7
  have P8 := hid (P7.out.below hw8 (Nat.le_refl _))
  clear P7
  obtain ⟨qa, qc, rfl, hqA, hq1, hq2⟩ := hOq.at4
  rw [hql.out] at hq1 ⊢
  have Q8 := hid hqA
  clear hqA hOq
  clear hw8 B7 T7
  go_wp2_with (go_at_call 25; fail)
  refine (PathLen_at S1.out _).mono ?_
  rintro e w9 ⟨rfl, hw9⟩
  have B9 := hid (B8.out.trans (hw9.mono B8.out.size))
  have T9 := hid (HT.out.below B9.out hT)
  have A9 := hid (A8.out.below hw9 (Nat.le_refl _))
  clear A8
  have P9 := hid (P8.out.below hw9 (Nat.le_refl _))
  clear P8
  have Q9 := hid (Q8.out.below hw9 (Nat.le_refl _))
  clear Q8
  clear hw9 B8 T8
  go_wp2_with (go_at_call 31; fail)
  refine (ProofLen_at S2.out _).mono ?_
  rintro e w10 ⟨rfl, hw10⟩
  have B10 := hid (B9.out.trans (hw10.mono B9.out.size))
  have T10 := hid (HT.out.below B10.out hT)
  have A10 := hid (A9.out.below hw10 (Nat.le_refl _))
  clear A9
  have P10 := hid (P9.out.below hw10 (Nat.le_refl _))
  clear P9
  have Q10 := hid (Q9.out.below hw10 (Nat.le_refl _))
  clear Q9
  have cK := A10.out.cellSv HL.out
  clear hw10 B9 T9
  go_wp2_with (go_at_call 27; fail)
  refine (RootOf_at S3 pa pl pc _ hpl.out (by omega) P10.out T10.out).mono ?_
  rintro e w11 ⟨rfl, hw11⟩
  have B11 := hid (B10.out.trans (hw11.mono B10.out.size))
  have T11 := hid (HT.out.below B11.out hT)
  have A11 := hid (A10.out.below hw11 (Nat.le_refl _))
  clear A10
  have P11 := hid (P10.out.below hw11 (Nat.le_refl _))
  clear P10
  have Q11 := hid (Q10.out.below hw11 (Nat.le_refl _))
  clear Q10
  clear cK
  clear hw11 B10 T10
  go_wp2_with (go_at_call 34; fail)
  refine (RootsOf_at S4 qa ql qc _ hql.out (by omega) Q11.out T11.out).mono ?_
  rintro e w12 ⟨rfl, hw12⟩
  have B12 := hid (B11.out.trans (hw12.mono B11.out.size))
  have T12 := hid (HT.out.below B12.out hT)
  have A12 := hid (A11.out.below hw12 (Nat.le_refl _))
  clear A11
  have P12 := hid (P11.out.below hw12 (Nat.le_refl _))
  clear P11
  have Q12 := hid (Q11.out.below hw12 (Nat.le_refl _))
  clear Q11
  have cK := A12.out.cellSv HL.out
  clear hw12 B11 T11
  have Hi : Hid (incOf4 (n : Nat) (K : Nat) leaf P r0 = 0) := by unfold Hid; rw [incOf4, S3.out, if_pos rfl, if_pos lr, if_pos rfl]
  have Hc : Hid (conOf4 (M : Nat) (n : Nat) old r0 Q = 0) := by unfold Hid; rw [conOf4, S4.out, if_pos rfl, if_pos lr, if_pos rfl]
  obtain ⟨D, hD⟩ : ∃ D, Hid (Sha.sha (ByteArray.mk r0.toArray).data.toList = D) := ⟨_, rfl⟩
  have lD : D.length = 32 := by rw [← hD.out, Sha.sha_length]
  have hsz : (ByteArray.mk r0.toArray).size ≤ 140737488355000 := by rw [sv_size]; omega
  obtain ⟨z, hz⟩ : ∃ z, Hid (incOf4 (n : Nat) (K : Nat) leaf P D = z) := ⟨_, rfl⟩
  obtain ⟨z2, hz2⟩ : ∃ z, Hid (conOf4 (M : Nat) (n : Nat) old D Q = z) := ⟨_, rfl⟩
  go_wp2_with (go_at_call 29; fail)
  refine (Inclusion_at Hi pa pl pc _ hpl.out (by omega) P12.out T12.out).mono ?_
  rintro e w13 ⟨rfl, hw13⟩
  have B13 := hid (B12.out.trans (hw13.mono B12.out.size))
  have T13 := hid (HT.out.below B13.out hT)
  have A13 := hid (A12.out.below hw13 (Nat.le_refl _))
  clear A12
  have P13 := hid (P12.out.below hw13 (Nat.le_refl _))
  clear P12
  have Q13 := hid (Q12.out.below hw13 (Nat.le_refl _))
  clear Q12
  clear cK
  clear hw13 B12 T12
  go_wp2_with (go_at_call 35; fail)
  refine (Consistency_at Hc qa ql qc _ hql.out (by omega) Q13.out T13.out).mono ?_
  rintro e w14 ⟨rfl, hw14⟩
  have B14 := hid (B13.out.trans (hw14.mono B13.out.size))
  have T14 := hid (HT.out.below B14.out hT)
  have A14 := hid (A13.out.below hw14 (Nat.le_refl _))
  clear A13
  have P14 := hid (P13.out.below hw14 (Nat.le_refl _))
  clear P13
  have Q14 := hid (Q13.out.below hw14 (Nat.le_refl _))
  clear Q13
  clear hw14 B13 T13
  go_wp2_with (go_at_call 28; fail)
  refine (lhash_any ⟨r0.toArray⟩ D hD hsz _).mono ?_
  rintro e w15 ⟨rfl, hw15⟩
  have B15 := hid (B14.out.trans (hw15.mono B14.out.size))
  have T15 := hid (HT.out.below B15.out hT)
  have A15 := hid (A14.out.below hw15 (Nat.le_refl _))
  clear A14
  have P15 := hid (P14.out.below hw15 (Nat.le_refl _))
  clear P14
  have Q15 := hid (Q14.out.below hw15 (Nat.le_refl _))
  clear Q14
  have cK := A15.out.cellSv HL.out
  clear hw15 B14 T14
  rw [show sv D = .string ⟨D.toArray⟩ from rfl, show sv r0 = .string ⟨r0.toArray⟩ from rfl, show sv old = .string ⟨old.toArray⟩ from rfl]
  by_cases he : r0 = D
  · have ez : z = 0 := by rw [← hz.out, incOf4, S3.out, if_pos rfl, if_pos lD, if_pos he]
    have ez2 : z2 = 0 := by rw [← hz2.out, conOf4, S4.out, if_pos rfl, if_pos lD, if_pos (by rw [he])]
    have e1 : ((ByteArray.mk D.toArray).toList == (ByteArray.mk r0.toArray).toList) = true := by rw [he]; simp
    have e1' : (ByteArray.mk D.toArray).toList = (ByteArray.mk r0.toArray).toList := by rw [he]
    rw [ez] at hz
    rw [ez2] at hz2
    clear ez ez2
    go_wp2_with (go_at_call 29; fail)
    refine (Inclusion_at hz pa pl pc _ hpl.out (by omega) P15.out T15.out).mono ?_
    rintro e w16 ⟨rfl, hw16⟩
    have B16 := hid (B15.out.trans (hw16.mono B15.out.size))
    have T16 := hid (HT.out.below B16.out hT)
    have Q16 := hid (Q15.out.below hw16 (Nat.le_refl _))
    clear hw16
    go_wp2_with (go_at_call 35; fail)
    refine (Consistency_at hz2 qa ql qc _ hql.out (by omega) Q16.out T16.out).mono ?_
    rintro e w17 ⟨rfl, hw17⟩
    have B17 := hid (B16.out.trans (hw17.mono B16.out.size))
    clear hw17
    go_wp2
    go_ret
    exact ⟨rfl, B17.out⟩
  · have ez : z = 44 := by rw [← hz.out, incOf4, S3.out, if_pos rfl, if_pos lD, if_neg he]
    have ez2 : z2 = 44 := by rw [← hz2.out, conOf4, S4.out, if_pos rfl, if_pos lD, if_neg (fun h => he (congrArg Prod.snd h))]
    have e1 : ((ByteArray.mk D.toArray).toList == (ByteArray.mk r0.toArray).toList) = false := by rw [ByteArray.toList_eq, ByteArray.toList_eq]; simpa using fun h => he h.symm
    have e1' : ¬ (ByteArray.mk D.toArray).toList = (ByteArray.mk r0.toArray).toList := by rw [ByteArray.toList_eq, ByteArray.toList_eq]; exact fun h => he h.symm
    have e2 : (D == r0) = false := by simpa using fun h => he h.symm
    have e2' : ¬ D = r0 := fun h => he h.symm
    rw [ez] at hz
    rw [ez2] at hz2
    clear ez ez2
    go_wp2_with (go_at_call 29; fail)
    refine (Inclusion_at hz pa pl pc _ hpl.out (by omega) P15.out T15.out).mono ?_
    rintro e w16 ⟨rfl, hw16⟩
    have B16 := hid (B15.out.trans (hw16.mono B15.out.size))
    have T16 := hid (HT.out.below B16.out hT)
    have Q16 := hid (Q15.out.below hw16 (Nat.le_refl _))
    clear hw16
    go_wp2_with (go_at_call 35; fail)
    refine (Consistency_at hz2 qa ql qc _ hql.out (by omega) Q16.out T16.out).mono ?_
    rintro e w17 ⟨rfl, hw17⟩
    have B17 := hid (B16.out.trans (hw17.mono B16.out.size))
    clear hw17
    go_wp2
    go_ret
    exact ⟨rfl, B17.out⟩
end Go.Proofs.YtkbngmhhlpdpnaaDoor
