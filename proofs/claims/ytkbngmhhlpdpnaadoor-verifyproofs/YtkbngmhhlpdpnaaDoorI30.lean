import Derived.Test.YtkbngmhhlpdpnaaDoorI27
namespace Go.Proofs.YtkbngmhhlpdpnaaDoor
open Go.RowKit
theorem pair_ok {m n : Int} (h1 : 1 ≤ m) (h2 : m ≤ n) (h3 : n ≤ 1099511627776) : ∃ L : Nat, L ≤ 41 ∧ prfLen m n = ((L : Int), 0) := by
  refine ⟨Tree.pl m.toNat n.toNat true, ?_, by rw [prfLen, if_neg (by omega)]⟩
  by_cases he : m.toNat = n.toNat
  · rw [he, Tree.pl_same]; decide
  · obtain ⟨P, L, hS⟩ : ∃ P L, Tree.St (m.toNat - 1) (n.toNat - 1) = (P, L) := ⟨_, _, rfl⟩
    have hle := Tree.St_le (m.toNat - 1) (n.toNat - 1)
    rw [hS] at hle
    simp only at hle
    rw [Tree.pl_St (by omega) (by omega) hS]
    have := Tree.U_len 40 P L (by omega)
    split <;> omega
set_option maxRecDepth 100000 in
set_option maxHeartbeats 600000 in
theorem rRootsOf_any (m n : Int) (old : List UInt8) (proof : List (List UInt8)) (a : Option Addr) (cap : Nat) (w : World) (hc : proof.length ≤ cap ∧ cap ≤ 9223372036854775807) (hA : At w a proof) :
    Calls Tryd.prog 73 #[.int .i64 m, .int .i64 n, sv old, .slice a proof.length cap] w fun e w' => e = .returned (.tuple #[sv (rootsOf4 m n old proof).1.1, sv (rootsOf4 m n old proof).1.2, .int .i64 (rootsOf4 m n old proof).2]) ∧ Below w.heap.size w w' := by
  obtain ⟨hlc, hc⟩ := hc
  have h1 := rProofLen_any m n w
  by_cases h : (prfLen m n).2 = 0
  · obtain ⟨a1, a2, a3, hl⟩ := prfLen_ok h
    have h2 := r4hashes_any proof a cap w (by omega) hA
    have hs := sv_size old
    by_cases hk : chk old proof (prfLen m n).1 = 0
    · have ho : rootsOf4 m n old proof = (Tree.bth m.toNat n.toNat true old proof, 0) := by rw [rootsOf4, if_pos h, if_pos hk]
      rw [ho]
      obtain ⟨hlen, hlf, hall⟩ := chk_len hk
      rw [hall] at h2
      rw [hl] at hlen h1
      simp only at hlen h1
      have h4 := rboth_any _ m.toNat n.toNat true old proof a cap w (Nat.le_refl _) (by omega) (by omega) (by omega) (by omega) hlc hc hA
      rw [Int.toNat_of_nonneg (show 0 ≤ m by omega), Int.toNat_of_nonneg (show 0 ≤ n by omega)] at h4
      generalize Tree.bth m.toNat n.toNat true old proof = X at *
      rw [hlf] at hs
      rw [show sv old = .string ⟨old.toArray⟩ from rfl] at h4 ⊢
      generalize ByteArray.mk old.toArray = LF at *
      have b0 : ((LF.size : Int) != 32) = false := by simp; omega
      generalize (Tree.pl m.toNat n.toNat true : Nat) = L at *
      obtain ⟨pl, hpl⟩ : ∃ pl, proof.length = pl := ⟨_, rfl⟩
      rw [hpl] at hlen h2 h4 hlc ⊢
      obtain rfl : pl = L := by omega
      have b1 : ((pl : Int) != (pl : Int)) = false := by simp
      clear hA hl hk h ho hlen hall hlf hpl
      go_enter Tryd.func73, Tryd.ntmps73
      go_wp2_with (first
        | (go_at_call 32; refine h1.mono ?_; rintro e w1 ⟨rfl, rfl⟩)
        | (go_at_call 98; refine h2.mono ?_; rintro e w2 ⟨rfl, rfl⟩)
        | (go_at_call 100; refine h4.mono ?_; rintro e w4 ⟨rfl, hw4⟩))
      go_ret3
      exact ⟨rfl, hw4⟩
    · have ho : rootsOf4 m n old proof = (([], []), chk old proof (prfLen m n).1) := by rw [rootsOf4, if_pos h, if_neg hk]
      rw [ho, svE]
      rw [hl] at h1 hk ⊢
      simp only at h1 hk ⊢
      generalize (Tree.pl m.toNat n.toNat true : Nat) = L at *
      unfold chk at hk ⊢
      by_cases h32 : old.length = 32 ∧ proof.all (·.length == 32) = true
      · rw [if_pos h32] at hk ⊢
        rw [h32.2] at h2
        have hne : ¬ ((proof.length : Nat) : Int) = (L : Int) := fun h => by rw [if_pos h] at hk; exact hk rfl
        rw [if_neg hne]
        rw [h32.1] at hs
        rw [show sv old = .string ⟨old.toArray⟩ from rfl]
        generalize ByteArray.mk old.toArray = LF at *
        have b0 : ((LF.size : Int) != 32) = false := by simp; omega
        generalize proof.length = pl at *
        have b1 : ((pl : Int) != (L : Int)) = true := by simp; omega
        clear hA hl ho h hk h32
        go_enter Tryd.func73, Tryd.ntmps73
        go_wp2_with (first
          | (go_at_call 32; refine h1.mono ?_; rintro e w1 ⟨rfl, rfl⟩)
          | (go_at_call 98; refine h2.mono ?_; rintro e w2 ⟨rfl, rfl⟩))
        go_ret3
        exact ⟨rfl, Below.refl _ _⟩
      · rw [if_neg h32]
        rw [show sv old = .string ⟨old.toArray⟩ from rfl]
        by_cases hlf : old.length = 32
        · have hall : proof.all (·.length == 32) = false := by
            cases hh : proof.all (·.length == 32)
            · rfl
            · exact absurd ⟨hlf, hh⟩ h32
          rw [hall] at h2
          rw [hlf] at hs
          generalize ByteArray.mk old.toArray = LF at *
          have b0 : ((LF.size : Int) != 32) = false := by simp; omega
          generalize proof.length = pl at *
          clear hA hl ho h hk h32
          go_enter Tryd.func73, Tryd.ntmps73
          go_wp2_with (first
            | (go_at_call 32; refine h1.mono ?_; rintro e w1 ⟨rfl, rfl⟩)
            | (go_at_call 98; refine h2.mono ?_; rintro e w2 ⟨rfl, rfl⟩))
          go_ret3
          exact ⟨rfl, Below.refl _ _⟩
        · generalize proof.all (·.length == 32) = bb at *
          generalize ByteArray.mk old.toArray = LF at *
          have b0 : ((LF.size : Int) != 32) = true := by simp; omega
          generalize proof.length = pl at *
          clear hA hl ho h hk h32
          go_enter Tryd.func73, Tryd.ntmps73
          go_wp2_with (first
            | (go_at_call 32; refine h1.mono ?_; rintro e w1 ⟨rfl, rfl⟩)
            | (go_at_call 98; refine h2.mono ?_; rintro e w2 ⟨rfl, rfl⟩))
          go_ret3
          exact ⟨rfl, Below.refl _ _⟩
  · have ho : rootsOf4 m n old proof = (([], []), (prfLen m n).2) := by rw [rootsOf4, if_neg h]
    rw [ho, svE]
    generalize (prfLen m n).1 = y at *
    generalize (prfLen m n).2 = z at *
    have b0 : (z != 0) = true := by simpa using h
    generalize proof.length = pl at *
    clear hA ho
    go_enter Tryd.func73, Tryd.ntmps73
    go_wp2_with (go_at_call 32; refine h1.mono ?_; rintro e w1 ⟨rfl, rfl⟩)
    go_ret3
    exact ⟨rfl, Below.refl _ _⟩
set_option maxRecDepth 100000 in
set_option maxHeartbeats 2000000 in
theorem rConsistency_any (m n : Int) (old now : List UInt8) (proof : List (List UInt8)) (a : Option Addr) (cap : Nat) (w : World) (hc : proof.length ≤ cap ∧ cap ≤ 9223372036854775807) (hA : At w a proof)  :
    Calls Tryd.prog 74 #[.int .i64 m, .int .i64 n, sv old, sv now, .slice a proof.length cap] w fun e w' => e = .returned (.int .i64 (conOf4 m n old now proof)) ∧ Below w.heap.size w w' := by
  have h1 := rRootsOf_any m n old proof a cap w hc hA 
  have hs := sv_size now
  unfold conOf4
  generalize rootsOf4 m n old proof = o at *
  obtain ⟨⟨x, y⟩, z⟩ := o
  simp only at h1 ⊢
  generalize proof.length = pl at *
  clear hA
  by_cases hz : z = 0
  · subst hz
    rw [if_pos rfl]
    by_cases h32 : now.length = 32
    · rw [if_pos h32]
      have i1 : ((((ByteArray.mk now.toArray).size : Nat) : Int) != 32) = false := by rw [hs]; simp [h32]
      by_cases hx : x = old
      · subst hx
        by_cases hy : y = now
        · subst hy
          rw [if_pos rfl]
          have e1 := str_eq x
          have e2 := str_eq y
          rw [show sv x = .string ⟨x.toArray⟩ from rfl] at h1 ⊢
          rw [show sv y = .string ⟨y.toArray⟩ from rfl] at h1 ⊢
          generalize ByteArray.mk x.toArray = R at *
          generalize ByteArray.mk y.toArray = R' at *
          go_enter Tryd.func74, Tryd.ntmps74
          go_wp2_with (first
            | (go_at_call 73; refine h1.mono ?_; rintro e w1 ⟨rfl, hw1⟩))
          go_ret
          exact ⟨rfl, hw1⟩
        · rw [if_neg (fun h => hy (congrArg Prod.snd h))]
          have e1 := str_eq x
          have e2 := str_ne hy
          have e3 := str_ne' hy
          have e4 := str_ne2 hy
          rw [show sv x = .string ⟨x.toArray⟩ from rfl] at h1 ⊢
          rw [show sv y = .string ⟨y.toArray⟩ from rfl] at h1
          rw [show sv now = .string ⟨now.toArray⟩ from rfl]
          generalize ByteArray.mk x.toArray = R at *
          generalize ByteArray.mk y.toArray = R1 at *
          generalize ByteArray.mk now.toArray = R2 at *
          go_enter Tryd.func74, Tryd.ntmps74
          go_wp2_with (first
            | (go_at_call 73; refine h1.mono ?_; rintro e w1 ⟨rfl, hw1⟩))
          go_ret
          exact ⟨rfl, hw1⟩
      · rw [if_neg (fun h => hx (congrArg Prod.fst h))]
        have e1 := str_ne hx
        have e3 := str_ne' hx
        have e4 := str_ne2 hx
        rw [show sv x = .string ⟨x.toArray⟩ from rfl] at h1
        rw [show sv y = .string ⟨y.toArray⟩ from rfl] at h1
        rw [show sv old = .string ⟨old.toArray⟩ from rfl] at h1 ⊢
        rw [show sv now = .string ⟨now.toArray⟩ from rfl]
        generalize ByteArray.mk x.toArray = R at *
        generalize ByteArray.mk y.toArray = R1 at *
        generalize ByteArray.mk now.toArray = R2 at *
        generalize ByteArray.mk old.toArray = R3 at *
        go_enter Tryd.func74, Tryd.ntmps74
        go_wp2_with (first
          | (go_at_call 73; refine h1.mono ?_; rintro e w1 ⟨rfl, hw1⟩))
        go_ret
        exact ⟨rfl, hw1⟩
    · rw [if_neg h32]
      have i1 : ((((ByteArray.mk now.toArray).size : Nat) : Int) != 32) = true := by rw [hs]; simp; try omega
      rw [show sv now = .string ⟨now.toArray⟩ from rfl]
      generalize ByteArray.mk now.toArray = R2 at *
      go_enter Tryd.func74, Tryd.ntmps74
      go_wp2_with (first
        | (go_at_call 73; refine h1.mono ?_; rintro e w1 ⟨rfl, hw1⟩))
      go_ret
      exact ⟨rfl, hw1⟩
  · rw [if_neg hz]
    have b0 : (z != 0) = true := by simpa using hz
    go_enter Tryd.func74, Tryd.ntmps74
    go_wp2_with (go_at_call 73; refine h1.mono ?_; rintro e w1 ⟨rfl, hw1⟩)
    go_ret
    exact ⟨rfl, hw1⟩
theorem RootsOf_at4 {m n : Int} {old : List UInt8} {proof : List (List UInt8)} {x y : List UInt8} {z : Int} (h : Hid (rootsOf4 m n old proof = ((x, y), z))) (a : Option Addr) (k cap : Nat) (w : World) (hk : proof.length = k) (hc : k ≤ 9223372036854775807) (hA : At w a proof) (T : Tabs w) :
    Calls Tryd.prog 34 #[.int .i64 m, .int .i64 n, sv old, .slice a k cap] w fun e w' => e = .returned (.tuple #[sv x, sv y, .int .i64 z]) ∧ Below w.heap.size w w' := by
  have := RootsOf_any m n old proof a cap w (by omega) hA T
  rwa [h.out, hk] at this
theorem Consistency_at4 {m n : Int} {old now : List UInt8} {proof : List (List UInt8)} {z : Int} (h : Hid (conOf4 m n old now proof = z)) (a : Option Addr) (k cap : Nat) (w : World) (hk : proof.length = k) (hc : k ≤ 9223372036854775807) (hA : At w a proof) (T : Tabs w) :
    Calls Tryd.prog 35 #[.int .i64 m, .int .i64 n, sv old, sv now, .slice a k cap] w fun e w' => e = .returned (.int .i64 z) ∧ Below w.heap.size w w' := by
  have := Consistency_any m n old now proof a cap w (by omega) hA T
  rwa [h.out, hk] at this
theorem rRootsOf_at {m n : Int} {old : List UInt8} {proof : List (List UInt8)} {x y : List UInt8} {z : Int} (h : Hid (rootsOf4 m n old proof = ((x, y), z))) (a : Option Addr) (k cap : Nat) (w : World) (hk : proof.length = k) (hlc : k ≤ cap) (hc : cap ≤ 9223372036854775807) (hA : At w a proof) :
    Calls Tryd.prog 73 #[.int .i64 m, .int .i64 n, sv old, .slice a k cap] w fun e w' => e = .returned (.tuple #[sv x, sv y, .int .i64 z]) ∧ Below w.heap.size w w' := by
  have := rRootsOf_any m n old proof a cap w ⟨by omega, hc⟩ hA
  rwa [h.out, hk] at this
theorem rConsistency_at {m n : Int} {old now : List UInt8} {proof : List (List UInt8)} {z : Int} (h : Hid (conOf4 m n old now proof = z)) (a : Option Addr) (k cap : Nat) (w : World) (hk : proof.length = k) (hlc : k ≤ cap) (hc : cap ≤ 9223372036854775807) (hA : At w a proof) :
    Calls Tryd.prog 74 #[.int .i64 m, .int .i64 n, sv old, sv now, .slice a k cap] w fun e w' => e = .returned (.int .i64 z) ∧ Below w.heap.size w w' := by
  have := rConsistency_any m n old now proof a cap w ⟨by omega, hc⟩ hA
  rwa [h.out, hk] at this
set_option maxRecDepth 100000 in
set_option maxHeartbeats 600000 in
theorem proof4_any (m n : Int) (old now : List UInt8) (l : List (List UInt8)) (a : Option Addr) (L cap : Nat) (w : World) (hL : l.length = L) (hl : L ≤ 8796093021952) (hlc : L ≤ cap) (hc : cap ≤ 9223372036854775807) (hq : ∀ q ∈ l, q.length ≤ 140737488351232) (hA : At w a l) (T : Tabs w) :
    Calls Tryd.prog 37 #[.int .i64 m, .int .i64 n, sv old, sv now, .slice a L cap] w fun e w' => e = .returned (.bool true) ∧ Below w.heap.size w w' := by
  have HT := hid T
  have hT := T.lt
  have B0 := hid (Below.refl w.heap.size w)
  have T0 := HT
  have A0 := hid hA
  have HQ := hid hq
  have HL := hid hL
  obtain ⟨n8, hn8⟩ : ∃ k, Hid (L + 8 = k) := ⟨_, rfl⟩
  have c1 := lent4_any l a cap w (by omega) hA
  rw [hL, hn8.out] at c1
  have cK := fun w' (hR : Row w' w.heap.size (l ++ bhds 8)) (hA' : At w' a l) => kept4_yes l w.heap.size a cap w' (by omega) hR hA'
  rw [hL, hn8.out] at cK
  have cT := fun w' (hA' : At w' a l) => turned4_any l a cap w' (by omega) HQ.out hA'
  rw [hL] at cT
  obtain ⟨H, hH⟩ : ∃ H, Hid (w.heap.size = H) := ⟨_, rfl⟩
  have hHle := Nat.le_of_eq hH.out
  rw [hH.out] at c1 cK
  obtain ⟨rA, rB, zA, hr⟩ : ∃ r r' z, Hid (rootsOf4 m n old l = ((r, r'), z)) := ⟨_, _, _, rfl⟩
  obtain ⟨zg, hg⟩ : ∃ z, Hid (conOf4 m n old now l = z) := ⟨_, rfl⟩
  obtain ⟨zi, hi⟩ : ∃ z, Hid (conOf4 m n rA rB l = z) := ⟨_, rfl⟩
  obtain ⟨zm, hm⟩ : ∃ z, Hid (conOf4 m n old rB l = z) := ⟨_, rfl⟩
  have g1 : (L : Int) ≤ (n8 : Int) := by have := hn8.out; omega
  have g2 : L ≤ n8 := by have := hn8.out; omega
  have g3 : n8 ≤ 9223372036854775807 := by have := hn8.out; omega
  clear T hA hq hL
  go_enter Tryd.func37, Tryd.ntmps37
  go_wp2_with (go_at_call 68; fail)
  refine c1.mono ?_
  rintro e w1 ⟨rfl, hR1, hw1⟩
  rw [← hH.out] at hw1
  have B1 := hid (B0.out.trans (hw1.mono B0.out.size))
  have T1 := hid (HT.out.below B1.out hT)
  have A1 := hid (A0.out.below hw1 (Nat.le_refl _))
  have R1 := hid hR1
  clear hw1 B0 T0 A0 hR1 c1
  have X1 : Hid (At w1 (some ⟨H, 0, none⟩) l) := by
    have := R1.out.at.take l.length
    rwa [List.take_left] at this
  go_wp2_with (go_at_call 34; fail)
  refine (RootsOf_at4 hr (some ⟨H, 0, none⟩) L n8 _ HL.out (by omega) X1.out T1.out).mono ?_
  rintro e w2 ⟨rfl, hw2⟩
  have B2 := hid (B1.out.trans (hw2.mono B1.out.size))
  have T2 := hid (HT.out.below B2.out hT)
  have A2 := hid (A1.out.below hw2 (Nat.le_refl _))
  clear A1
  have R2 := hid (R1.out.below hw2 R1.out.lt)
  clear R1
  clear hw2 B1 T1
  go_wp2_with (go_at_call 73; fail)
  refine (rRootsOf_at hr a L cap _ HL.out hlc hc A2.out).mono ?_
  rintro e w3 ⟨rfl, hw3⟩
  have B3 := hid (B2.out.trans (hw3.mono B2.out.size))
  have T3 := hid (HT.out.below B3.out hT)
  have A3 := hid (A2.out.below hw3 (Nat.le_refl _))
  clear A2
  have R3 := hid (R2.out.below hw3 R2.out.lt)
  clear R2
  clear hw3 B2 T2
  have X3 : Hid (At w3 (some ⟨H, 0, none⟩) l) := by
    have := R3.out.at.take l.length
    rwa [List.take_left] at this
  go_wp2_with (go_at_call 35; fail)
  refine (Consistency_at4 hg (some ⟨H, 0, none⟩) L n8 _ HL.out (by omega) X3.out T3.out).mono ?_
  rintro e w4 ⟨rfl, hw4⟩
  have B4 := hid (B3.out.trans (hw4.mono B3.out.size))
  have T4 := hid (HT.out.below B4.out hT)
  have A4 := hid (A3.out.below hw4 (Nat.le_refl _))
  clear A3
  have R4 := hid (R3.out.below hw4 R3.out.lt)
  clear R3
  clear hw4 B3 T3
  go_wp2_with (go_at_call 74; fail)
  refine (rConsistency_at hg a L cap _ HL.out hlc hc A4.out).mono ?_
  rintro e w5 ⟨rfl, hw5⟩
  have B5 := hid (B4.out.trans (hw5.mono B4.out.size))
  have T5 := hid (HT.out.below B5.out hT)
  have A5 := hid (A4.out.below hw5 (Nat.le_refl _))
  clear A4
  have R5 := hid (R4.out.below hw5 R4.out.lt)
  clear R4
  clear hw5 B4 T4
  have X5 : Hid (At w5 (some ⟨H, 0, none⟩) l) := by
    have := R5.out.at.take l.length
    rwa [List.take_left] at this
  go_wp2_with (go_at_call 35; fail)
  refine (Consistency_at4 hi (some ⟨H, 0, none⟩) L n8 _ HL.out (by omega) X5.out T5.out).mono ?_
  rintro e w6 ⟨rfl, hw6⟩
  have B6 := hid (B5.out.trans (hw6.mono B5.out.size))
  have T6 := hid (HT.out.below B6.out hT)
  have A6 := hid (A5.out.below hw6 (Nat.le_refl _))
  clear A5
  have R6 := hid (R5.out.below hw6 R5.out.lt)
  clear R5
  clear hw6 B5 T5
  go_wp2_with (go_at_call 74; fail)
  refine (rConsistency_at hi a L cap _ HL.out hlc hc A6.out).mono ?_
  rintro e w7 ⟨rfl, hw7⟩
  have B7 := hid (B6.out.trans (hw7.mono B6.out.size))
  have T7 := hid (HT.out.below B7.out hT)
  have A7 := hid (A6.out.below hw7 (Nat.le_refl _))
  clear A6
  have R7 := hid (R6.out.below hw7 R6.out.lt)
  clear R6
  clear hw7 B6 T6
  have X7 : Hid (At w7 (some ⟨H, 0, none⟩) l) := by
    have := R7.out.at.take l.length
    rwa [List.take_left] at this
  go_wp2_with (go_at_call 35; fail)
  refine (Consistency_at4 hm (some ⟨H, 0, none⟩) L n8 _ HL.out (by omega) X7.out T7.out).mono ?_
  rintro e w8 ⟨rfl, hw8⟩
  have B8 := hid (B7.out.trans (hw8.mono B7.out.size))
  have T8 := hid (HT.out.below B8.out hT)
  have A8 := hid (A7.out.below hw8 (Nat.le_refl _))
  clear A7
  have R8 := hid (R7.out.below hw8 R7.out.lt)
  clear R7
  clear hw8 B7 T7
  go_wp2_with (go_at_call 74; fail)
  refine (rConsistency_at hm a L cap _ HL.out hlc hc A8.out).mono ?_
  rintro e w9 ⟨rfl, hw9⟩
  have B9 := hid (B8.out.trans (hw9.mono B8.out.size))
  have T9 := hid (HT.out.below B9.out hT)
  have A9 := hid (A8.out.below hw9 (Nat.le_refl _))
  clear A8
  have R9 := hid (R8.out.below hw9 R8.out.lt)
  clear R8
  clear hw9 B8 T8
  go_wp2_with (go_at_call 71; fail)
  refine (cK _ (hH.out ▸ R9.out) A9.out).mono ?_
  rintro e w10 ⟨rfl, hw10, hh10⟩
  have B10 := hid (B9.out.trans (hw10.mono B9.out.size))
  have T10 := hid (HT.out.below B10.out hT)
  have A10 := hid (A9.out.below hw10 (Nat.le_refl _))
  have R10 := hid (R9.out.below hw10 R9.out.lt)
  clear hw10 hh10 B9 T9 A9 R9 cK
  rw [show sv rA = .string ⟨rA.toArray⟩ from rfl, show sv rB = .string ⟨rB.toArray⟩ from rfl]
  go_wp2_with (go_at_call 72; fail)
  refine (cT _ A10.out).mono ?_
  rintro e w11 ⟨v11, X, rfl, hXl, hO11, hw11⟩
  obtain ⟨xa, xc, rfl, hX, hxc, hxc2, hxg⟩ := hO11.at5
  have hxb : ∀ y, xa = some y → y.block ≠ H := by
    intro y hy
    have h1 := hxg y hy
    have h2 := R10.out.lt
    omega
  clear hxg
  rw [hXl] at hxc ⊢
  have B11 := hid (B10.out.trans (hw11.mono B10.out.size))
  have R11 := hid (R10.out.below hw11 R10.out.lt)
  obtain ⟨w12, hcp, hR12, hbut⟩ := copy_textsG w11 H xa xc X l (bhds 8) (by rw [hXl]; exact HL.out) hX R11.out n8
  rw [hXl] at hcp
  have hbelow : Below w.heap.size w11 w12 := hbut.below hHle B11.out.size
  have B12 := hid (B11.out.trans hbelow)
  have T12 := hid (HT.out.below B12.out hT)
  have A12 := hid (hX.but hbut hbelow.size hxb)
  have R12 := hid hR12
  have HXl := hid hXl
  clear hw11 hO11 hbelow hbut hX hR12 B10 T10 A10 R10 cT B11 R11 hxb
  obtain ⟨sA, sB, zB, hrB⟩ : ∃ r r' z, Hid (rootsOf4 m n old X = ((r, r'), z)) := ⟨_, _, _, rfl⟩
  have X12 : Hid (At w12 (some ⟨H, 0, none⟩) X) := by
    have := R12.out.at.take X.length
    rwa [List.take_left] at this
  go_wp2_with (go_at_call 34; fail)
  refine (RootsOf_at4 hrB (some ⟨H, 0, none⟩) L n8 _ HXl.out (by omega) X12.out T12.out).mono ?_
  rintro e w13 ⟨rfl, hw13⟩
  have B13 := hid (B12.out.trans (hw13.mono B12.out.size))
  have T13 := hid (HT.out.below B13.out hT)
  have A13 := hid (A12.out.below hw13 (Nat.le_refl _))
  clear A12
  have R13 := hid (R12.out.below hw13 R12.out.lt)
  clear R12
  clear hw13 B12 T12
  go_wp2_with (go_at_call 73; fail)
  refine (rRootsOf_at hrB xa L xc _ HXl.out hxc hxc2 A13.out).mono ?_
  rintro e w14 ⟨rfl, hw14⟩
  have B14 := hid (B13.out.trans (hw14.mono B13.out.size))
  have T14 := hid (HT.out.below B14.out hT)
  have A14 := hid (A13.out.below hw14 (Nat.le_refl _))
  clear A13
  have R14 := hid (R13.out.below hw14 R13.out.lt)
  clear R13
  clear hw14 B13 T13
  rw [show sv sA = .string ⟨sA.toArray⟩ from rfl, show sv sB = .string ⟨sB.toArray⟩ from rfl]
  go_wp2
  go_ret
  exact ⟨rfl, B14.out⟩
end Go.Proofs.YtkbngmhhlpdpnaaDoor
