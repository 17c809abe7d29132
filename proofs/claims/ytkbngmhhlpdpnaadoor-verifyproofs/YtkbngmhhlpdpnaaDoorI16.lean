import Derived.Test.YtkbngmhhlpdpnaaDoorI15
namespace Go.Proofs.YtkbngmhhlpdpnaaDoor
open Go.RowKit
theorem Own.at4 {w : World} {base : Nat} {v : Value} {L : List (List UInt8)} (h : Own w base v (svs L)) : ∃ a cap, v = .slice a L.length cap ∧ At w a L ∧ L.length ≤ cap ∧ cap ≤ 9223372036854775807 := by
  rcases h with ⟨rfl, h⟩ | ⟨g, cap, rfl, h1, h2, h3, h4, h5, h6⟩
  · obtain rfl : L = [] := by simpa [svs] using h
    exact ⟨none, 0, rfl, At.nil _ _, by simp, by omega⟩
  · rw [svs_length] at h2
    refine ⟨some ⟨g, 0, none⟩, cap, by rw [svs_length], fun j p hp => ⟨_, rfl, h6, ?_⟩, h2, h3⟩
    rw [Addr.add_mid]
    exact h4 j (sv p) (by simp [svs, hp])
theorem Tree.upd_len : ∀ (ds : List Bool) (hs : List (List UInt8)) (r : List UInt8), r.length = 32 → hs.all (·.length == 32) = true → (Tree.upd r ds hs).length = 32
  | [], _, r, h, _ => by unfold Tree.upd; exact h
  | d :: ds, [], r, h, _ => by unfold Tree.upd; exact h
  | d :: ds, x :: hs, r, h, ha => by
    rw [List.all_cons, Bool.and_eq_true] at ha
    have hx : x.length = 32 := by simpa using ha.1
    unfold Tree.upd
    refine Tree.upd_len ds hs _ ?_ ha.2
    cases d
    · exact Tree.nd_length h hx
    · exact Tree.nd_length hx h
/-- of a size and an index that may be -/
theorem place_ok {n k : Int} (h1 : 1 ≤ n) (h2 : n ≤ 1099511627776) (h3 : 0 ≤ k) (h4 : k < n) : ∃ L : Nat, L ≤ 40 ∧ lenOf n k = ((L : Int), 0) ∧ (Tree.D n.toNat k.toNat).length = L := by
  refine ⟨(Tree.D n.toNat k.toNat).length, ?_, ?_, rfl⟩
  · rw [Tree.D_U _ _ _ (Nat.le_refl _) (by omega)]
    exact Tree.U_len 40 _ _ (by omega)
  · rw [lenOf, if_neg (by omega), if_neg (by omega)]
theorem rootOf_ok {n k : Int} {L : Nat} {x : List UInt8} {X : List (List UInt8)} (h : lenOf n k = ((L : Int), 0)) (hx : x.length = 32) (hX : X.length = L) (ha : X.all (·.length == 32) = true) : ∃ r, rootOf4 n k x X = (r, 0) ∧ r.length = 32 := by
  refine ⟨Tree.upd x (Tree.D n.toNat k.toNat) X, ?_, Tree.upd_len _ _ _ hx ha⟩
  rw [rootOf4, h, if_pos rfl, if_pos]
  unfold chk
  rw [if_pos ⟨hx, ha⟩, if_pos (by omega)]
theorem inc_is {n k : Int} {x r : List UInt8} {X : List (List UInt8)} (h : rootOf4 n k x X = (r, 0)) (root : List UInt8) : incOf4 n k x X root = if root.length = 32 then (if r = root then 0 else 44) else 42 := by
  rw [incOf4, h, if_pos rfl]
theorem PathLen_at {n m : Int} {L : Nat} (h : lenOf n m = ((L : Int), 0)) (w : World) :
    Calls Tryd.prog 25 #[.int .i64 n, .int .i64 m] w fun e w' => e = .returned (.tuple #[.int .i64 (L : Int), .int .i64 0]) ∧ Below w.heap.size w w' := by
  have := PathLen_any n m w
  rwa [h] at this
theorem RootOf_at {n m : Int} {leaf : List UInt8} {path : List (List UInt8)} {r : List UInt8} {z : Int} (h : Hid (rootOf4 n m leaf path = (r, z))) (a : Option Addr) (k cap : Nat) (w : World) (hk : path.length = k) (hc : k ≤ 9223372036854775807) (hA : At w a path) (T : Tabs w) :
    Calls Tryd.prog 27 #[.int .i64 n, .int .i64 m, sv leaf, .slice a k cap] w fun e w' => e = .returned (.tuple #[sv r, .int .i64 z]) ∧ Below w.heap.size w w' := by
  have := RootOf_any n m leaf path a cap w (by omega) hA T
  rwa [h.out, hk] at this
theorem Inclusion_at {n m : Int} {leaf root : List UInt8} {path : List (List UInt8)} {z : Int} (h : Hid (incOf4 n m leaf path root = z)) (a : Option Addr) (k cap : Nat) (w : World) (hk : path.length = k) (hc : k ≤ 9223372036854775807) (hA : At w a path) (T : Tabs w) :
    Calls Tryd.prog 29 #[.int .i64 n, .int .i64 m, sv leaf, .slice a k cap, sv root] w fun e w' => e = .returned (.int .i64 z) ∧ Below w.heap.size w w' := by
  have := Inclusion_any n m leaf path root a cap w (by omega) hA T
  rwa [h.out, hk] at this
set_option maxRecDepth 100000 in
set_option maxHeartbeats 4000000 in
theorem one_any (c0 c1 : Int) (lf rt : ByteArray) (l : List (List UInt8)) (a : Option Addr) (cap : Nat) (w : World) (h0 : -9223372036854775808 ≤ c0) (h0' : c0 ≤ 9223372036854775807) (h1 : -9223372036854775808 ≤ c1) (h1' : c1 ≤ 9223372036854775807) (hlf : lf.size ≤ 140737488355000) (hrt : rt.size ≤ 140737488355000) (hl : l.length ≤ 9223372036854775807) (hq : ∀ q ∈ l, q.length ≤ 140737488351232) (hA : At w a l) (T : Tabs w) :
    Calls Tryd.prog 4 #[.int .i64 c0, .int .i64 c1, .string lf, .slice a l.length cap, .string rt] w fun e w' => e = .returned (.bool true) ∧ Below w.heap.size w w' := by
  have p0 := pk4_nonneg c0 1099511627776 (by decide)
  have p0' := pk4_lt c0 1099511627776 (by decide)
  have cp0 := pick4_any c0 1099511627776 h0 h0' (by decide) (by decide)
  generalize pk4 c0 1099511627776 = N at *
  have p1 := pk4_nonneg c1 (1 + N) (by omega)
  have p1' := pk4_lt c1 (1 + N) (by omega)
  have cp1 := pick4_any c1 (1 + N) h1 h1' (by omega) (by omega)
  generalize pk4 c1 (1 + N) = k at *
  obtain ⟨L, hL40, hlen, hDl⟩ := place_ok (n := 1 + N) (k := k) (by omega) (by omega) p1 p1'
  obtain ⟨D, hD⟩ : ∃ D, Hid (Sha.sha lf.data.toList = D) := ⟨_, rfl⟩
  have lD : D.length = 32 := by rw [← hD.out, Sha.sha_length]
  obtain ⟨D2, hD2⟩ : ∃ D, Hid (Sha.sha rt.data.toList = D) := ⟨_, rfl⟩
  have lD2 : D2.length = 32 := by rw [← hD2.out, Sha.sha_length]
  have Hlen := hid hlen
  have HT := hid T
  have hT := T.lt
  have B0 := hid (Below.refl w.heap.size w)
  have T0 := HT
  have HA0 := hid hA
  have HQ := hid hq
  have g0 : ¬ (L : Int) < 0 := by omega
  have g1 : ¬ (40 : Int) < (L : Int) := by omega
  clear T hA hlen hDl hq
  obtain ⟨ll, hll⟩ : ∃ ll, Hid (l.length = ll) := ⟨_, rfl⟩
  rw [hll.out] at hl ⊢
  go_enter Tryd.func4, Tryd.ntmps4
  go_wp2_with (go_at_call 23; fail)
  refine (known4_any _ T0.out).mono ?_
  rintro e w1 ⟨rfl, hw1⟩
  have B1 := hid (B0.out.trans (hw1.mono B0.out.size))
  have T1 := hid (HT.out.below B1.out hT)
  clear hw1 B0 T0
  go_wp2_with (first
    | (go_at_call 24; (with_reducible refine (cp0 _).mono ?_); rintro e w2 ⟨rfl, rfl⟩)
    | (go_at_call 24; (with_reducible refine (cp1 _).mono ?_); rintro e w2 ⟨rfl, rfl⟩)
    | (go_at_call 25; fail))
  refine (PathLen_at Hlen.out _).mono ?_
  rintro e w3 ⟨rfl, hw3⟩
  have B3 := hid (B1.out.trans (hw3.mono B1.out.size))
  have T3 := hid (HT.out.below B3.out hT)
  clear hw3 B1 T1
  go_wp2_with (go_at_call 26; fail)
  have hh := hashes4_any l L (by omega) HQ.out a cap w3 (by rw [hll.out]; exact hl) (HA0.out.below B3.out (Nat.le_refl _))
  rw [hll.out] at hh
  refine hh.mono ?_
  rintro e w4 ⟨v, X, rfl, hXl, hXa, hO, hw4⟩
  obtain ⟨xa, xc, rfl, hX, hxc, hxc2⟩ := hO.at4
  rw [hXl] at hxc ⊢
  obtain ⟨r, hr, lr⟩ := rootOf_ok Hlen.out lD hXl hXa
  have Hr := hid hr
  have A4 := hid hX
  have B4 := hid (B3.out.trans (hw4.mono B3.out.size))
  have T4 := hid (HT.out.below B4.out hT)
  have hXl' := hid hXl
  clear hw4 B3 T3 hO hX hXa hh
  go_wp2_with (go_at_call 28; fail)
  refine (lhash_any lf D hD hlf _).mono ?_
  rintro e w5 ⟨rfl, hw5⟩
  have B5 := hid (B4.out.trans (hw5.mono B4.out.size))
  have T5 := hid (HT.out.below B5.out hT)
  have A5 := hid (A4.out.below hw5 (Nat.le_refl _))
  clear A4
  clear hw5 B4 T4
  go_wp2_with (go_at_call 27; fail)
  refine (RootOf_at Hr xa L xc _ hXl'.out (by omega) A5.out T5.out).mono ?_
  rintro e w6 ⟨rfl, hw6⟩
  have B6 := hid (B5.out.trans (hw6.mono B5.out.size))
  have T6 := hid (HT.out.below B6.out hT)
  have A6 := hid (A5.out.below hw6 (Nat.le_refl _))
  clear A5
  clear hw6 B5 T5
  have Hg : Hid (incOf4 (1 + N) k D X r = 0) := by unfold Hid; rw [inc_is hr, if_pos lr, if_pos rfl]
  obtain ⟨z, hz⟩ : ∃ z, Hid (incOf4 (1 + N) k D X rt.data.toList = z) := ⟨_, rfl⟩
  obtain ⟨z2, hz2⟩ : ∃ z, Hid (incOf4 (1 + N) k D X D2 = z) := ⟨_, rfl⟩
  go_wp2_with (go_at_call 28; fail)
  refine (lhash_any lf D hD hlf _).mono ?_
  rintro e w7 ⟨rfl, hw7⟩
  have B7 := hid (B6.out.trans (hw7.mono B6.out.size))
  have T7 := hid (HT.out.below B7.out hT)
  have A7 := hid (A6.out.below hw7 (Nat.le_refl _))
  clear A6
  clear hw7 B6 T6
  go_wp2_with (go_at_call 29; fail)
  refine (Inclusion_at Hg xa L xc _ hXl'.out (by omega) A7.out T7.out).mono ?_
  rintro e w8 ⟨rfl, hw8⟩
  have B8 := hid (B7.out.trans (hw8.mono B7.out.size))
  have T8 := hid (HT.out.below B8.out hT)
  have A8 := hid (A7.out.below hw8 (Nat.le_refl _))
  clear A7
  clear hw8 B7 T7
  go_wp2_with (go_at_call 28; fail)
  refine (lhash_any lf D hD hlf _).mono ?_
  rintro e w9 ⟨rfl, hw9⟩
  have B9 := hid (B8.out.trans (hw9.mono B8.out.size))
  have T9 := hid (HT.out.below B9.out hT)
  have A9 := hid (A8.out.below hw9 (Nat.le_refl _))
  clear A8
  clear hw9 B8 T8
  rw [sv_data4 rt]
  go_wp2_with (go_at_call 29; fail)
  refine (Inclusion_at hz xa L xc _ hXl'.out (by omega) A9.out T9.out).mono ?_
  rintro e w10 ⟨rfl, hw10⟩
  have B10 := hid (B9.out.trans (hw10.mono B9.out.size))
  have T10 := hid (HT.out.below B10.out hT)
  have A10 := hid (A9.out.below hw10 (Nat.le_refl _))
  clear A9
  clear hw10 B9 T9
  rw [← sv_data4 rt]
  go_wp2_with (go_at_call 28; fail)
  refine (lhash_any lf D hD hlf _).mono ?_
  rintro e w11 ⟨rfl, hw11⟩
  have B11 := hid (B10.out.trans (hw11.mono B10.out.size))
  have T11 := hid (HT.out.below B11.out hT)
  have A11 := hid (A10.out.below hw11 (Nat.le_refl _))
  clear A10
  clear hw11 B10 T10
  go_wp2_with (go_at_call 28; fail)
  refine (lhash_any rt D2 hD2 hrt _).mono ?_
  rintro e w12 ⟨rfl, hw12⟩
  have B12 := hid (B11.out.trans (hw12.mono B11.out.size))
  have T12 := hid (HT.out.below B12.out hT)
  have A12 := hid (A11.out.below hw12 (Nat.le_refl _))
  clear A11
  clear hw12 B11 T11
  go_wp2_with (go_at_call 29; fail)
  refine (Inclusion_at hz2 xa L xc _ hXl'.out (by omega) A12.out T12.out).mono ?_
  rintro e w13 ⟨rfl, hw13⟩
  have B13 := hid (B12.out.trans (hw13.mono B12.out.size))
  have T13 := hid (HT.out.below B13.out hT)
  have A13 := hid (A12.out.below hw13 (Nat.le_refl _))
  clear A12
  clear hw13 B12 T12
  have ez := hid (hz.out.symm.trans (inc_is hr rt.data.toList))
  have ez2 := hid (hz2.out.symm.trans (inc_is hr D2))
  clear hz hz2 Hr hr Hg A13 hXl' HQ HA0
  rw [data_length] at ez
  rw [show sv r = .string ⟨r.toArray⟩ from rfl]
  have hlast : ∀ w', Calls Tryd.prog 28 #[.string rt] w' fun e w'' => e = .returned (sv D2) ∧ Below w'.heap.size w' w'' := fun w' => lhash_any rt D2 hD2 hrt w'
  rw [show sv D2 = .string ⟨D2.toArray⟩ from rfl] at hlast
  have q2 : (r = D2 ∧ Hid (z2 = 0)) ∨ (¬ r = D2 ∧ Hid (z2 = 44)) := by
    by_cases h : r = D2
    · exact .inl ⟨h, by have := ez2.out; rw [if_pos lD2, if_pos h] at this; exact this⟩
    · exact .inr ⟨h, by have := ez2.out; rw [if_pos lD2, if_neg h] at this; exact this⟩
  by_cases hs : rt.size = 32
  · have b5 : ((rt.size : Int) != 32) = false := by simp; omega
    by_cases hreq : r = rt.data.toList
    · have ez' : z = 0 := by have := ez.out; rw [if_pos hs, if_pos hreq] at this; exact this
      have e1 : (rt.toList == (ByteArray.mk r.toArray).toList) = true := by rw [ByteArray.toList_eq, ByteArray.toList_eq, hreq]; simp
      have e1' : rt.toList = (ByteArray.mk r.toArray).toList := by rw [ByteArray.toList_eq, ByteArray.toList_eq, hreq]
      rcases q2 with ⟨hq2, hz2⟩ | ⟨hq2, hz2⟩
      · have e2 : ((ByteArray.mk D2.toArray).toList == (ByteArray.mk r.toArray).toList) = true := by rw [hq2]; simp
        have e2' : (ByteArray.mk D2.toArray).toList = (ByteArray.mk r.toArray).toList := by rw [hq2]
        rw [ez', hz2.out]
        generalize ByteArray.mk r.toArray = RR at *
        generalize ByteArray.mk D2.toArray = DD at *
        clear ez ez2 ez' hreq hq2 hD2 hz2 hD
        go_wp2_with (go_at_call 28; refine (hlast _).mono ?_; rintro e w14 ⟨rfl, hw14⟩)
        go_ret
        exact ⟨rfl, B13.out.trans (hw14.mono B13.out.size)⟩
      · have e2 : ((ByteArray.mk D2.toArray).toList == (ByteArray.mk r.toArray).toList) = false := by rw [ByteArray.toList_eq, ByteArray.toList_eq]; simpa using fun h => hq2 h.symm
        have e2' : ¬ (ByteArray.mk D2.toArray).toList = (ByteArray.mk r.toArray).toList := by rw [ByteArray.toList_eq, ByteArray.toList_eq]; exact fun h => hq2 h.symm
        rw [ez', hz2.out]
        generalize ByteArray.mk r.toArray = RR at *
        generalize ByteArray.mk D2.toArray = DD at *
        clear ez ez2 ez' hreq hq2 hD2 hz2 hD
        go_wp2_with (go_at_call 28; refine (hlast _).mono ?_; rintro e w14 ⟨rfl, hw14⟩)
        go_ret
        exact ⟨rfl, B13.out.trans (hw14.mono B13.out.size)⟩
    · have ez' : z = 44 := by have := ez.out; rw [if_pos hs, if_neg hreq] at this; exact this
      have e1 : (rt.toList == (ByteArray.mk r.toArray).toList) = false := by rw [ByteArray.toList_eq, ByteArray.toList_eq]; simpa using fun h => hreq h.symm
      have e1' : ¬ rt.toList = (ByteArray.mk r.toArray).toList := by rw [ByteArray.toList_eq, ByteArray.toList_eq]; exact fun h => hreq h.symm
      rcases q2 with ⟨hq2, hz2⟩ | ⟨hq2, hz2⟩
      · have e2 : ((ByteArray.mk D2.toArray).toList == (ByteArray.mk r.toArray).toList) = true := by rw [hq2]; simp
        have e2' : (ByteArray.mk D2.toArray).toList = (ByteArray.mk r.toArray).toList := by rw [hq2]
        rw [ez', hz2.out]
        generalize ByteArray.mk r.toArray = RR at *
        generalize ByteArray.mk D2.toArray = DD at *
        clear ez ez2 ez' hreq hq2 hD2 hz2 hD
        go_wp2_with (go_at_call 28; refine (hlast _).mono ?_; rintro e w14 ⟨rfl, hw14⟩)
        go_ret
        exact ⟨rfl, B13.out.trans (hw14.mono B13.out.size)⟩
      · have e2 : ((ByteArray.mk D2.toArray).toList == (ByteArray.mk r.toArray).toList) = false := by rw [ByteArray.toList_eq, ByteArray.toList_eq]; simpa using fun h => hq2 h.symm
        have e2' : ¬ (ByteArray.mk D2.toArray).toList = (ByteArray.mk r.toArray).toList := by rw [ByteArray.toList_eq, ByteArray.toList_eq]; exact fun h => hq2 h.symm
        rw [ez', hz2.out]
        generalize ByteArray.mk r.toArray = RR at *
        generalize ByteArray.mk D2.toArray = DD at *
        clear ez ez2 ez' hreq hq2 hD2 hz2 hD
        go_wp2_with (go_at_call 28; refine (hlast _).mono ?_; rintro e w14 ⟨rfl, hw14⟩)
        go_ret
        exact ⟨rfl, B13.out.trans (hw14.mono B13.out.size)⟩
  · have b5 : ((rt.size : Int) != 32) = true := by simp; omega
    have ez' : z = 42 := by have := ez.out; rw [if_neg hs] at this; exact this
    have hreq : ¬ r = rt.data.toList := fun h => hs (by rw [← data_length, ← h]; exact lr)
    have e1 : (rt.toList == (ByteArray.mk r.toArray).toList) = false := by rw [ByteArray.toList_eq, ByteArray.toList_eq]; simpa using fun h => hreq h.symm
    have e1' : ¬ rt.toList = (ByteArray.mk r.toArray).toList := by rw [ByteArray.toList_eq, ByteArray.toList_eq]; exact fun h => hreq h.symm
    rcases q2 with ⟨hq2, hz2⟩ | ⟨hq2, hz2⟩
    · have e2 : ((ByteArray.mk D2.toArray).toList == (ByteArray.mk r.toArray).toList) = true := by rw [hq2]; simp
      have e2' : (ByteArray.mk D2.toArray).toList = (ByteArray.mk r.toArray).toList := by rw [hq2]
      rw [ez', hz2.out]
      generalize ByteArray.mk r.toArray = RR at *
      generalize ByteArray.mk D2.toArray = DD at *
      clear ez ez2 ez' hreq hq2 hD2 hz2 hD
      go_wp2_with (go_at_call 28; refine (hlast _).mono ?_; rintro e w14 ⟨rfl, hw14⟩)
      go_ret
      exact ⟨rfl, B13.out.trans (hw14.mono B13.out.size)⟩
    · have e2 : ((ByteArray.mk D2.toArray).toList == (ByteArray.mk r.toArray).toList) = false := by rw [ByteArray.toList_eq, ByteArray.toList_eq]; simpa using fun h => hq2 h.symm
      have e2' : ¬ (ByteArray.mk D2.toArray).toList = (ByteArray.mk r.toArray).toList := by rw [ByteArray.toList_eq, ByteArray.toList_eq]; exact fun h => hq2 h.symm
      rw [ez', hz2.out]
      generalize ByteArray.mk r.toArray = RR at *
      generalize ByteArray.mk D2.toArray = DD at *
      clear ez ez2 ez' hreq hq2 hD2 hz2 hD
      go_wp2_with (go_at_call 28; refine (hlast _).mono ?_; rintro e w14 ⟨rfl, hw14⟩)
      go_ret
      exact ⟨rfl, B13.out.trans (hw14.mono B13.out.size)⟩
end Go.Proofs.YtkbngmhhlpdpnaaDoor
