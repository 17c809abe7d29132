import Derived.Test.YtkbngmhhlpdpnaaDoorI30
namespace Go.Proofs.YtkbngmhhlpdpnaaDoor
open Go.RowKit
theorem rProofLen_at {m n : Int} {L : Nat} (h : prfLen m n = ((L : Int), 0)) (w : World) :
    Calls Tryd.prog 32 #[.int .i64 m, .int .i64 n] w fun e w' => e = .returned (.tuple #[.int .i64 (L : Int), .int .i64 0]) ∧ w' = w := by
  have := rProofLen_any m n w
  rwa [h] at this
set_option maxRecDepth 100000 in
set_option maxHeartbeats 600000 in
theorem proofs_any (c0 c1 : Int) (u v : List UInt8) (l : List (List UInt8)) (a : Option Addr) (cap : Nat) (w : World) (h0 : -9223372036854775808 ≤ c0) (h0' : c0 ≤ 9223372036854775807) (h1 : -9223372036854775808 ≤ c1) (h1' : c1 ≤ 9223372036854775807) (hu : u.length ≤ 140737488351232) (hv : v.length ≤ 140737488351232) (hl : l.length ≤ 8796093021952) (hlc : l.length ≤ cap) (hcap : cap ≤ 9223372036854775807) (hq : ∀ q ∈ l, q.length ≤ 140737488351232) (hA : At w a l) (T : Tabs w) :
    Calls Tryd.prog 8 #[.int .i64 c0, .int .i64 c1, sv u, sv v, .slice a l.length cap] w fun e w' => e = .returned (.bool true) ∧ Below w.heap.size w w' := by
  have p0 := pk4_nonneg c1 1099511627776 (by decide)
  have p0' := pk4_lt c1 1099511627776 (by decide)
  have cp0 := pick4_any c1 1099511627776 h1 h1' (by decide) (by decide)
  generalize pk4 c1 1099511627776 = N at *
  have p1 := pk4_nonneg c0 (1 + N) (by omega)
  have p1' := pk4_lt c0 (1 + N) (by omega)
  have cp1 := pick4_any c0 (1 + N) h0 h0' (by omega) (by omega)
  generalize pk4 c0 (1 + N) = k at *
  obtain ⟨L, hL40, hlen⟩ := pair_ok (m := 1 + k) (n := 1 + N) (by omega) (by omega) (by omega)
  obtain ⟨D, hD⟩ : ∃ D, Hid (Sha.sha (ByteArray.mk u.toArray).data.toList = D) := ⟨_, rfl⟩
  obtain ⟨D2, hD2⟩ : ∃ D, Hid (Sha.sha (ByteArray.mk v.toArray).data.toList = D) := ⟨_, rfl⟩
  have hsu : (ByteArray.mk u.toArray).size ≤ 140737488355000 := by rw [sv_size]; omega
  have hsv : (ByteArray.mk v.toArray).size ≤ 140737488355000 := by rw [sv_size]; omega
  have Hlen := hid hlen
  have HT := hid T
  have hT := T.lt
  have B0 := hid (Below.refl w.heap.size w)
  have T0 := HT
  have A0 := hid hA
  have HQ := hid hq
  clear T hA hlen hq
  obtain ⟨ll, hll⟩ : ∃ ll, Hid (l.length = ll) := ⟨_, rfl⟩
  rw [hll.out] at hl hlc ⊢
  go_enter Tryd.func8, Tryd.ntmps8
  go_wp2_with (go_at_call 23; fail)
  refine (known4_any _ T0.out).mono ?_
  rintro e w1 ⟨rfl, hw1⟩
  have B1 := hid (B0.out.trans (hw1.mono B0.out.size))
  have T1 := hid (HT.out.below B1.out hT)
  have A1 := hid (A0.out.below hw1 (Nat.le_refl _))
  clear A0
  clear hw1 B0 T0
  go_wp2_with (go_at_call 37; fail)
  refine (proof4_any c0 c1 u v l a ll cap _ hll.out hl hlc hcap HQ.out A1.out T1.out).mono ?_
  rintro e w2 ⟨rfl, hw2⟩
  have B2 := hid (B1.out.trans (hw2.mono B1.out.size))
  have T2 := hid (HT.out.below B2.out hT)
  have A2 := hid (A1.out.below hw2 (Nat.le_refl _))
  clear A1
  clear hw2 B1 T1
  go_wp2_with (first
    | (go_at_call 24; (with_reducible refine (cp0 _).mono ?_); rintro e w3 ⟨rfl, rfl⟩)
    | (go_at_call 24; (with_reducible refine (cp1 _).mono ?_); rintro e w3 ⟨rfl, rfl⟩)
    | (go_at_call 32; fail))
  refine (rProofLen_at Hlen.out _).mono ?_
  rintro e w4 ⟨rfl, rfl⟩
  go_wp2_with (go_at_call 26; fail)
  have hh := fun M (hM : M ≤ 200) w' (hA' : At w' a l) => hashes4_any l M hM HQ.out a cap w' (by rw [hll.out]; omega) hA'
  rw [hll.out] at hh
  refine (hh L (by omega) _ A2.out).mono ?_
  rintro e w5 ⟨xv, X, rfl, hXl, hXa, hO, hw5⟩
  have A5 := hid (A2.out.below hw5 (Nat.le_refl _))
  have B5 := hid (B2.out.trans (hw5.mono B2.out.size))
  have T5 := hid (HT.out.below B5.out hT)
  have hXb := hid B2.out.size
  obtain ⟨xa, xc, rfl, hX, hxc, hxc2⟩ := hO.at4
  rw [hXl] at hxc
  have O5 := hid hO
  have X5 := hid hX
  have HXl := hid hXl
  have HXq := hid (X_q hXa)
  rw [hXl]
  clear hw5 B2 T2 A2 hO hX hXa hXl
  go_wp2_with (go_at_call 28; fail)
  refine (lhash_any ⟨u.toArray⟩ D hD hsu _).mono ?_
  rintro e w6 ⟨rfl, hw6⟩
  have B6 := hid (B5.out.trans (hw6.mono B5.out.size))
  have T6 := hid (HT.out.below B6.out hT)
  have A6 := hid (A5.out.below hw6 (Nat.le_refl _))
  clear A5
  have O6 := hid (O5.out.below hw6 (Nat.le_refl _))
  clear O5
  have X6 := hid (X5.out.below hw6 (Nat.le_refl _))
  clear X5
  clear hw6 B5 T5
  go_wp2_with (go_at_call 37; fail)
  refine (proof4_any (1 + k) (1 + N) D v X xa L xc _ HXl.out (by omega) hxc hxc2 HXq.out X6.out T6.out).mono ?_
  rintro e w7 ⟨rfl, hw7⟩
  have B7 := hid (B6.out.trans (hw7.mono B6.out.size))
  have T7 := hid (HT.out.below B7.out hT)
  have A7 := hid (A6.out.below hw7 (Nat.le_refl _))
  clear A6
  have O7 := hid (O6.out.below hw7 (Nat.le_refl _))
  clear O6
  have X7 := hid (X6.out.below hw7 (Nat.le_refl _))
  clear X6
  clear hw7 B6 T6
  go_wp2_with (go_at_call 28; fail)
  refine (lhash_any ⟨v.toArray⟩ D2 hD2 hsv _).mono ?_
  rintro e w8 ⟨rfl, hw8⟩
  have B8 := hid (B7.out.trans (hw8.mono B7.out.size))
  have T8 := hid (HT.out.below B8.out hT)
  have A8 := hid (A7.out.below hw8 (Nat.le_refl _))
  clear A7
  have O8 := hid (O7.out.below hw8 (Nat.le_refl _))
  clear O7
  have X8 := hid (X7.out.below hw8 (Nat.le_refl _))
  clear X7
  clear hw8 B7 T7
  go_wp2_with (go_at_call 37; fail)
  refine (proof4_any (1 + k) (1 + N) u D2 X xa L xc _ HXl.out (by omega) hxc hxc2 HXq.out X8.out T8.out).mono ?_
  rintro e w9 ⟨rfl, hw9⟩
  have B9 := hid (B8.out.trans (hw9.mono B8.out.size))
  have T9 := hid (HT.out.below B9.out hT)
  have A9 := hid (A8.out.below hw9 (Nat.le_refl _))
  clear A8
  have O9 := hid (O8.out.below hw9 (Nat.le_refl _))
  clear O8
  have X9 := hid (X8.out.below hw9 (Nat.le_refl _))
  clear X8
  clear hw9 B8 T8
  go_wp2_with (go_at_call 28; fail)
  refine (lhash_any ⟨u.toArray⟩ D hD hsu _).mono ?_
  rintro e w91 ⟨rfl, hw91⟩
  have B91 := hid (B9.out.trans (hw91.mono B9.out.size))
  have T91 := hid (HT.out.below B91.out hT)
  have A91 := hid (A9.out.below hw91 (Nat.le_refl _))
  clear A9
  have O91 := hid (O9.out.below hw91 (Nat.le_refl _))
  clear O9
  have X91 := hid (X9.out.below hw91 (Nat.le_refl _))
  clear X9
  clear hw91 B9 T9
  go_wp2_with (go_at_call 28; fail)
  refine (lhash_any ⟨v.toArray⟩ D2 hD2 hsv _).mono ?_
  rintro e w10 ⟨rfl, hw10⟩
  have B10 := hid (B91.out.trans (hw10.mono B91.out.size))
  have T10 := hid (HT.out.below B10.out hT)
  have A10 := hid (A91.out.below hw10 (Nat.le_refl _))
  clear A91
  have O10 := hid (O91.out.below hw10 (Nat.le_refl _))
  clear O91
  have X10 := hid (X91.out.below hw10 (Nat.le_refl _))
  clear X91
  clear hw10 B91 T91
  go_wp2_with (go_at_call 26; fail)
  have hh2 := hh (L + 1) (by omega) _ A10.out
  rw [show ((L + 1 : Nat) : Int) = (L : Int) + 1 from by omega] at hh2
  refine hh2.mono ?_
  rintro e w11 ⟨yv, Y, rfl, hYl, hYa, hOY, hw11⟩
  obtain ⟨ya, yc, rfl, hY, hyc, hyc2⟩ := hOY.at4
  obtain ⟨L1, hL1⟩ : ∃ k, L + 1 = k := ⟨_, rfl⟩
  rw [hL1] at hYl
  rw [hYl] at hyc ⊢
  have A11 := hid (A10.out.below hw11 (Nat.le_refl _))
  have B11 := hid (B10.out.trans (hw11.mono B10.out.size))
  have T11 := hid (HT.out.below B11.out hT)
  have O11 := hid (O10.out.below hw11 (Nat.le_refl _))
  have X11 := hid (X10.out.below hw11 (Nat.le_refl _))
  have Y11 := hid hY
  have HYq := hid (X_q hYa)
  clear hw11 B10 T10 A10 O10 X10 hOY hY hYa hh2 hh
  go_wp2_with (go_at_call 37; fail)
  refine (proof4_any (1 + k) (1 + N) D D2 Y ya L1 yc _ hYl (by omega) hyc hyc2 HYq.out Y11.out T11.out).mono ?_
  rintro e w12 ⟨rfl, hw12⟩
  have B12 := hid (B11.out.trans (hw12.mono B11.out.size))
  have T12 := hid (HT.out.below B12.out hT)
  have A12 := hid (A11.out.below hw12 (Nat.le_refl _))
  clear A11
  have O12 := hid (O11.out.below hw12 (Nat.le_refl _))
  clear O11
  have X12 := hid (X11.out.below hw12 (Nat.le_refl _))
  clear X11
  clear hw12 B11 T11
  clear HYq hYl hyc hyc2 Y11 A12
  by_cases hL0 : L = 0
  · subst hL0
    go_wp2
    go_ret
    exact ⟨rfl, B12.out⟩
  · have g1 : ((L : Int) == 0) = false := by simp; omega
    have g2 : (0 : Int) < (L : Int) := by omega
    obtain ⟨q, hq⟩ : ∃ q, q + 1 = L := ⟨L - 1, by omega⟩
    have g3 : (L : Int) - 1 = (q : Int) := by omega
    have g4 : (q : Int) ≤ (xc : Int) := by omega
    have g5 : q ≤ xc := by omega
    have g6 : IntKind.i64.wrap (q : Int) = (q : Int) := wrap_small _ (by omega) (by omega)
    have hO' := O12.out
    rcases hO' with ⟨h, _⟩ | ⟨g, cc, h, _⟩
    · exfalso
      injection h with _ e2 _
      have := HXl.out
      omega
    obtain rfl : xa = some ⟨g, 0, none⟩ := by injection h
    clear h
    have tq : (X.take q).length = q := by rw [List.length_take, HXl.out]; omega
    have tqq : ∀ z ∈ X.take q, z.length ≤ 140737488351232 := fun z hz => HXq.out z (List.mem_of_mem_take hz)
    have hd : ∀ w', Calls Tryd.prog 28 #[sv u] w' fun e w'' => e = .returned (sv D) ∧ Below w'.heap.size w' w'' := fun w' => lhash_any ⟨u.toArray⟩ D hD hsu w'
    have hdv : ∀ w', Calls Tryd.prog 28 #[sv v] w' fun e w'' => e = .returned (sv D2) ∧ Below w'.heap.size w' w'' := fun w' => lhash_any ⟨v.toArray⟩ D2 hD2 hsv w'
    have hsub := fun w' (hb : Below w12.heap.size w12 w') => proof4_any (1 + k) (1 + N) D D2 (X.take q) (some ⟨g, 0, none⟩) q xc w' tq (by omega) (by omega) hxc2 tqq (X12.out.take q |>.below hb (Nat.le_refl _)) (T12.out.below hb T12.out.lt)
    have P0 := pk4_nonneg c0 (L : Int) (by omega)
    have P1 := pk4_lt c0 (L : Int) (by omega)
    have cpL := pick4_any c0 (L : Int) h0 h0' (by omega) (by omega)
    obtain ⟨I, hI⟩ := Int.eq_ofNat_of_zero_le P0
    rw [hI] at P1 cpL
    clear P0 hI
    go_wp2
    go_region_held3 (fun _ => True) (trivial) (first
      | (go_at_call 28; (with_reducible refine (hd _).mono ?_); rintro e w13 ⟨rfl, hw13'⟩; have hw13 := drewBelow hw13')
      | (go_at_call 28; (with_reducible refine (hdv _).mono ?_); rintro e w13b ⟨rfl, hw13b'⟩; have hw13b := hw13.trans (hw13b'.mono hw13.size))
      | (go_at_call 37; (with_reducible refine (hsub _ hw13b).mono ?_); rintro e w14 ⟨rfl, hw14'⟩; have hw14 := hw13b.trans (hw14'.mono hw13b.size)))
    have B14 := hid (B12.out.trans (hw14.mono B12.out.size))
    have T14 := hid (HT.out.below B14.out hT)
    have O14 := hid (O12.out.below hw14 (Nat.le_refl _))
    clear hw13 hw13' hw13b hw13b' hw14' hw14 hsub B12 T12 O12 X12
    go_wp2_with (go_at_call 24; fail)
    refine (cpL _).mono ?_
    rintro e w15 ⟨rfl, rfl⟩
    have hIL : I < L := by omega
    have P2 : (I : Int) < (L : Int) := by omega
    obtain ⟨xI, hXI⟩ : ∃ xI, (svs X)[I]? = some xI := ⟨_, List.getElem?_eq_getElem (by rw [svs_length, HXl.out]; exact hIL)⟩
    have hO15 : Own w15 w4.heap.size (.slice (some ⟨g, 0, none⟩) (svs X).length xc) (svs X) := by
      have := O14.out
      rwa [show (svs X).length = X.length from svs_length X]
    obtain ⟨cI, fI, gb, gl⟩ := hO15.cell5 hXI
    have hO16 := hO15.set5 I (by rw [svs_length, HXl.out]; exact hIL) (sv u)
    have hset : (svs X).set I (sv u) = svs (X.set I u) := by simp [svs, List.map_set]
    rw [hset] at hO16
    have O16 := hid hO16
    have hgw : w.heap.size ≤ g := Nat.le_trans hXb.out gb
    have B16 := hid (B14.out.setCell (p := ⟨g, I, none⟩) hgw (sv u))
    have T16 := hid (HT.out.below B16.out hT)
    have hsl : (X.set I u).length = L := by rw [List.length_set]; exact HXl.out
    have hsq : ∀ z ∈ X.set I u, z.length ≤ 140737488351232 := fun z hz => by
      rcases List.mem_or_eq_of_mem_set hz with h | h
      · exact HXq.out z h
      · rw [h]; exact hu
    have HSQ := hid hsq
    rw [show sv u = .string ⟨u.toArray⟩ from rfl] at O16 B16 T16 ⊢
    generalize X.set I u = X' at *
    clear hO15 hO16 hset hXI O14 B14 T14 HXq hsq HXl
    have hd3 := fun w' => lhash_any ⟨u.toArray⟩ D hD hsu w'
    go_wp2_with (go_at_call 28; fail)
    refine (hd3 _).mono ?_
    rintro e w17 ⟨rfl, hw17⟩
    have B17 := hid (B16.out.trans (hw17.mono B16.out.size))
    have T17 := hid (HT.out.below B17.out hT)
    have O17 := hid (O16.out.below hw17 (Nat.le_refl _))
    clear hw17 B16 T16 O16
    go_wp2_with (go_at_call 28; fail)
    refine (lhash_any ⟨v.toArray⟩ D2 hD2 hsv _).mono ?_
    rintro e w17b ⟨rfl, hw17b⟩
    have B17b := hid (B17.out.trans (hw17b.mono B17.out.size))
    have T17b := hid (HT.out.below B17b.out hT)
    have O17b := hid (O17.out.below hw17b (Nat.le_refl _))
    clear hw17b B17 T17 O17
    obtain ⟨za, zc, hz, hZ, hzc, hzc2⟩ := O17b.out.at4
    rw [hsl, svs_length, hsl] at hz
    injection hz with e1 e2 e3
    subst e1 e3
    go_wp2_with (go_at_call 37; fail)
    refine (proof4_any (1 + k) (1 + N) D D2 X' _ L _ _ hsl (by omega) (by omega) hzc2 HSQ.out hZ T17b.out).mono ?_
    rintro e w18 ⟨rfl, hw18⟩
    have B18 := hid (B17b.out.trans (hw18.mono B17b.out.size))
    clear hw18
    go_wp2
    go_ret
    exact ⟨rfl, B18.out⟩
end Go.Proofs.YtkbngmhhlpdpnaaDoor
