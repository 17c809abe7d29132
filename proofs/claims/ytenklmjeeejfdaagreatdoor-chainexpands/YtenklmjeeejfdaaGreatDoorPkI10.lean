import Derived.Test.YtenklmjeeejfdaaGreatDoorPkI4
import Derived.Test.YtenklmjeeejfdaaGreatDoorPkCP9
import Derived.Test.YtenklmjeeejfdaaGreatDoorPkO2
import Derived.Test.YtenklmjeeejfdaaGreatDoorPkSP4
import Derived.Test.YtenklmjeeejfdaaGreatDoorPkSP24
import Derived.Test.YtenklmjeeejfdaaGreatDoorPkR4
import Derived.Test.YtenklmjeeejfdaaGreatDoorPkI1
namespace Go.Proofs.YtenklmjeeejfdaaGreatDoor
open Go.RowKit
theorem goUpProof_any (m n : Nat) (h1 : 1 ≤ m) (h2 : m < n) (hn : n ≤ 1099511627776) (old : List UInt8) (proof : List (List UInt8)) (a : Option Addr) (cap : Nat) (w : World) (hlen : proof.length = Tree.pl m n true) (hA : At w a proof) (T : Tabs w) :
    Calls Tryz.prog 92 #[wy (Tree.St (m - 1) (n - 1)).1 (Tree.St (m - 1) (n - 1)).2, sv old, .slice a proof.length cap] w fun e w' => e = .returned (.tuple #[sv (Tree.bth m n true old proof).1, sv (Tree.bth m n true old proof).2]) ∧ Below w.heap.size w w' := by
  have hlt := Tree.St_lt (m - 1) (n - 1) (by omega)
  have hle := Tree.St_le (m - 1) (n - 1)
  obtain ⟨P, L, hS⟩ : ∃ P L, Tree.St (m - 1) (n - 1) = (P, L) := ⟨_, _, rfl⟩
  have e := Tree.pl_St h1 h2 hS
  obtain ⟨eP, eF⟩ := Tree.PD_SU _ m n (Nat.le_refl _) h1 h2
  have eP' : Tree.PD m n = Tree.U P L := by rw [eP]; unfold Tree.SU; rw [hS]
  rw [hS] at hlt hle eF ⊢
  simp only at hlt hle eF ⊢
  have hul := Tree.U_len 40 P L (by omega)
  rw [e] at hlen
  by_cases hP : P = 0
  · have hf : ¬ Tree.fl m n true = true := by unfold Tree.fl; rw [eF]; simp [hP]
    have hb : Tree.bth m n true old proof = Tree.upd2 old old (Tree.U P L) proof := by unfold Tree.bth; rw [if_neg hf, eP']
    rw [hb]
    rw [if_pos hP] at hlen
    exact goUpProof_zero P L hP old proof a cap w (by omega) (by omega) hA T (by omega)
  · have hf : Tree.fl m n true = true := by unfold Tree.fl; rw [eF]; simp [hP]
    rw [if_neg hP] at hlen
    match proof, hlen, hA with
    | h :: t, hlen, hA =>
      have hb : Tree.bth m n true old (h :: t) = Tree.upd2 h h (Tree.U P L) t := by unfold Tree.bth; rw [if_pos hf, eP']; rfl
      rw [hb]
      have hl1 : (h :: t).length = t.length + 1 := rfl
      have hne := Tree.U_ne L P (by omega) (by omega)
      have ht : 1 ≤ t.length := by
        rcases Nat.eq_zero_or_pos (Tree.U P L).length with h0 | h0
        · exact absurd (List.length_eq_zero_iff.1 h0) hne
        · omega
      exact goUpProof_more P L old h t a cap w (by omega) hP (by omega) (by omega) hA T (by omega) ht
theorem str_ne' {a b : List UInt8} (h : a ≠ b) : ((ByteArray.mk a.toArray).toList == (ByteArray.mk b.toArray).toList) = false := by
  rw [ByteArray.toList_eq, ByteArray.toList_eq]
  show (a == b) = false
  simpa using h
theorem str_ne2 {a b : List UInt8} (h : a ≠ b) : ¬ (ByteArray.mk a.toArray).toList = (ByteArray.mk b.toArray).toList := by
  rw [ByteArray.toList_eq, ByteArray.toList_eq]
  exact h
def rootsOf4 (m n : Int) (old : List UInt8) (proof : List (List UInt8)) : (List UInt8 × List UInt8) × Int :=
  if (prfLen m n).2 = 0 then (if chk old proof (prfLen m n).1 = 0 then (Tree.bth m.toNat n.toNat true old proof, 0) else (([], []), chk old proof (prfLen m n).1)) else (([], []), (prfLen m n).2)
def conOf4 (m n : Int) (old now : List UInt8) (proof : List (List UInt8)) : Int :=
  if (rootsOf4 m n old proof).2 = 0 then (if now.length = 32 then (if (rootsOf4 m n old proof).1 = (old, now) then 0 else 44) else 42) else (rootsOf4 m n old proof).2
theorem prfLen_ok {m n : Int} (h : (prfLen m n).2 = 0) : 1 ≤ m ∧ m ≤ n ∧ n ≤ 1099511627776 ∧ prfLen m n = (((Tree.pl m.toNat n.toNat true : Nat) : Int), 0) := by
  unfold prfLen at h ⊢
  split at h
  · simp at h
  · rename_i h1
    refine ⟨by omega, by omega, by omega, ?_⟩
    rw [if_neg h1]
set_option maxRecDepth 100000 in
set_option maxHeartbeats 2000000 in
theorem RootsOf_any (m n : Int) (old : List UInt8) (proof : List (List UInt8)) (a : Option Addr) (cap : Nat) (w : World) (hc : proof.length ≤ 9223372036854775807) (hA : At w a proof) (T : Tabs w) :
    Calls Tryz.prog 67 #[.int .i64 m, .int .i64 n, sv old, .slice a proof.length cap] w fun e w' => e = .returned (.tuple #[sv (rootsOf4 m n old proof).1.1, sv (rootsOf4 m n old proof).1.2, .int .i64 (rootsOf4 m n old proof).2]) ∧ Below w.heap.size w w' := by
  have h1 := ProofLen_any m n w
  by_cases h : (prfLen m n).2 = 0
  · obtain ⟨a1, a2, a3, hl⟩ := prfLen_ok h
    have h2 := fun w1 (hb : Below w.heap.size w w1) => checkHashes_any old proof (prfLen m n).1 a cap w1 hc (hA.below hb (Nat.le_refl _))
    by_cases hk : chk old proof (prfLen m n).1 = 0
    · have ho : rootsOf4 m n old proof = (Tree.bth m.toNat n.toNat true old proof, 0) := by rw [rootsOf4, if_pos h, if_pos hk]
      rw [ho]
      rw [hk] at h2
      have hlen := (chk_len hk).1
      rw [hl] at hlen h1 h2
      simp only at hlen h1 h2
      by_cases he : m = n
      · subst he
        rw [Tree.bth_same]
        have b0 : (m == m) = true := by simp
        generalize (Tree.pl m.toNat m.toNat true : Nat) = L at *
        generalize proof.length = pl at *
        clear hA T hl hk h ho hlen
        go_enter Tryz.func67, Tryz.ntmps67
        go_wp2_with (first
          | (go_at_call 90; refine h1.mono ?_; rintro e w1 ⟨rfl, hw1⟩)
          | (go_at_call 91; refine (h2 _ hw1).mono ?_; rintro e w2 ⟨rfl, rfl⟩))
        go_ret3
        exact ⟨rfl, hw1⟩
      · have b0 : (m == n) = false := by simpa using he
        have h3 := fun w1 => proofWay_any m.toNat n.toNat (by omega) (by omega) (by omega) (by omega) w1
        rw [Int.toNat_of_nonneg (show 0 ≤ m by omega), Int.toNat_of_nonneg (show 0 ≤ n by omega)] at h3
        have h4 := fun w1 (hb : Below w.heap.size w w1) => goUpProof_any m.toNat n.toNat (by omega) (by omega) (by omega) old proof a cap w1 (by omega) (hA.below hb (Nat.le_refl _)) (T.below hb T.lt)
        generalize Tree.bth m.toNat n.toNat true old proof = X at *
        generalize (Tree.pl m.toNat n.toNat true : Nat) = L at *
        generalize Tree.St (m.toNat - 1) (n.toNat - 1) = S at *
        generalize proof.length = pl at *
        clear hA T hl hk h ho hlen
        go_enter Tryz.func67, Tryz.ntmps67
        go_wp2_with (first
          | (go_at_call 90; refine h1.mono ?_; rintro e w1 ⟨rfl, hw1⟩)
          | (go_at_call 91; refine (h2 _ hw1).mono ?_; rintro e w2 ⟨rfl, rfl⟩)
          | (go_at_call 93; refine (h3 _).mono ?_; rintro e w3 ⟨rfl, hw3⟩; have hb3 := hid (hw1.trans (hw3.mono hw1.size)))
          | (go_at_call 92; refine (h4 _ hb3.out).mono ?_; rintro e w4 ⟨rfl, hw4⟩))
        go_ret3
        exact ⟨rfl, hb3.out.trans (hw4.mono hb3.out.size)⟩
    · have ho : rootsOf4 m n old proof = (([], []), chk old proof (prfLen m n).1) := by rw [rootsOf4, if_pos h, if_neg hk]
      rw [ho, svE]
      rw [hl] at h1 h2 hk ⊢
      simp only at h1 h2 hk ⊢
      generalize (((Tree.pl m.toNat n.toNat true : Nat) : Int)) = L at *
      generalize chk old proof L = z at *
      have b0 : (z != 0) = true := by simpa using hk
      generalize proof.length = pl at *
      clear hA T hl ho h
      go_enter Tryz.func67, Tryz.ntmps67
      go_wp2_with (first
        | (go_at_call 90; refine h1.mono ?_; rintro e w1 ⟨rfl, hw1⟩)
        | (go_at_call 91; refine (h2 _ hw1).mono ?_; rintro e w2 ⟨rfl, rfl⟩))
      go_ret3
      exact ⟨rfl, hw1⟩
  · have ho : rootsOf4 m n old proof = (([], []), (prfLen m n).2) := by rw [rootsOf4, if_neg h]
    rw [ho, svE]
    generalize (prfLen m n).1 = y at *
    generalize (prfLen m n).2 = z at *
    have b0 : (z != 0) = true := by simpa using h
    generalize proof.length = pl at *
    clear hA T ho
    go_enter Tryz.func67, Tryz.ntmps67
    go_wp2_with (go_at_call 90; refine h1.mono ?_; rintro e w1 ⟨rfl, hw1⟩)
    go_ret3
    exact ⟨rfl, hw1⟩
set_option maxRecDepth 100000 in
set_option maxHeartbeats 2000000 in
theorem Consistency_any (m n : Int) (old now : List UInt8) (proof : List (List UInt8)) (a : Option Addr) (cap : Nat) (w : World) (hc : proof.length ≤ 9223372036854775807) (hA : At w a proof) (T : Tabs w) :
    Calls Tryz.prog 46 #[.int .i64 m, .int .i64 n, sv old, sv now, .slice a proof.length cap] w fun e w' => e = .returned (.int .i64 (conOf4 m n old now proof)) ∧ Below w.heap.size w w' := by
  have h1 := RootsOf_any m n old proof a cap w hc hA T
  have hs := sv_size now
  unfold conOf4
  generalize rootsOf4 m n old proof = o at *
  obtain ⟨⟨x, y⟩, z⟩ := o
  simp only at h1 ⊢
  generalize proof.length = pl at *
  clear hA T
  by_cases hz : z = 0
  · subst hz
    rw [if_pos rfl]
    by_cases h32 : now.length = 32
    · rw [if_pos h32]
      have i1 := isHash_at ⟨now.toArray⟩ true (by rw [hs]; simp [h32])
      by_cases hx : x = old
      · subst hx
        by_cases hy : y = now
        · subst hy
          rw [if_pos rfl]
          have e1 := str_eq x
          have e2 := str_eq y
          rw [show sv x = .string ⟨x.toArray⟩ from rfl] at h1 ⊢
          rw [show sv y = .string ⟨y.toArray⟩ from rfl] at h1 ⊢
          generalize ByteArray.mk x.toArray = R at *
          generalize ByteArray.mk y.toArray = R' at *
          go_enter Tryz.func46, Tryz.ntmps46
          go_wp2_with (first
            | (go_at_call 67; refine h1.mono ?_; rintro e w1 ⟨rfl, hw1⟩)
            | (go_at_call 68; refine (i1 _).mono ?_; rintro e w2 ⟨rfl, rfl⟩))
          go_ret
          exact ⟨rfl, hw1⟩
        · rw [if_neg (fun h => hy (congrArg Prod.snd h))]
          have e1 := str_eq x
          have e2 := str_ne hy
          have e3 := str_ne' hy
          have e4 := str_ne2 hy
          rw [show sv x = .string ⟨x.toArray⟩ from rfl] at h1 ⊢
          rw [show sv y = .string ⟨y.toArray⟩ from rfl] at h1
          rw [show sv now = .string ⟨now.toArray⟩ from rfl]
          generalize ByteArray.mk x.toArray = R at *
          generalize ByteArray.mk y.toArray = R1 at *
          generalize ByteArray.mk now.toArray = R2 at *
          go_enter Tryz.func46, Tryz.ntmps46
          go_wp2_with (first
            | (go_at_call 67; refine h1.mono ?_; rintro e w1 ⟨rfl, hw1⟩)
            | (go_at_call 68; refine (i1 _).mono ?_; rintro e w2 ⟨rfl, rfl⟩))
          go_ret
          exact ⟨rfl, hw1⟩
      · rw [if_neg (fun h => hx (congrArg Prod.fst h))]
        have e1 := str_ne hx
        have e3 := str_ne' hx
        have e4 := str_ne2 hx
        rw [show sv x = .string ⟨x.toArray⟩ from rfl] at h1
        rw [show sv y = .string ⟨y.toArray⟩ from rfl] at h1
        rw [show sv old = .string ⟨old.toArray⟩ from rfl] at h1 ⊢
        rw [show sv now = .string ⟨now.toArray⟩ from rfl]
        generalize ByteArray.mk x.toArray = R at *
        generalize ByteArray.mk y.toArray = R1 at *
        generalize ByteArray.mk now.toArray = R2 at *
        generalize ByteArray.mk old.toArray = R3 at *
        go_enter Tryz.func46, Tryz.ntmps46
        go_wp2_with (first
          | (go_at_call 67; refine h1.mono ?_; rintro e w1 ⟨rfl, hw1⟩)
          | (go_at_call 68; refine (i1 _).mono ?_; rintro e w2 ⟨rfl, rfl⟩))
        go_ret
        exact ⟨rfl, hw1⟩
    · rw [if_neg h32]
      have i1 := isHash_at ⟨now.toArray⟩ false (by rw [hs]; simp; try omega)
      rw [show sv now = .string ⟨now.toArray⟩ from rfl]
      generalize ByteArray.mk now.toArray = R2 at *
      go_enter Tryz.func46, Tryz.ntmps46
      go_wp2_with (first
        | (go_at_call 67; refine h1.mono ?_; rintro e w1 ⟨rfl, hw1⟩)
        | (go_at_call 68; refine (i1 _).mono ?_; rintro e w2 ⟨rfl, rfl⟩))
      go_ret
      exact ⟨rfl, hw1⟩
  · rw [if_neg hz]
    have b0 : (z != 0) = true := by simpa using hz
    go_enter Tryz.func46, Tryz.ntmps46
    go_wp2_with (go_at_call 67; refine h1.mono ?_; rintro e w1 ⟨rfl, hw1⟩)
    go_ret
    exact ⟨rfl, hw1⟩
end Go.Proofs.YtenklmjeeejfdaaGreatDoor

namespace Go.Proofs.YtenklmjeeejfdaaGreatDoor
open Go.RowKit Go.Shelf
namespace Chn
def ckC (hs : List Nat) (ps : List (List (List UInt8))) (R : List (List UInt8)) (i : Nat) : Int := conOf4 (hs.getD i 0 : Int) (hs.getD (i + 1) 0 : Int) (R.getD i []) (R.getD (i + 1) []) (ps.getD i [])
def ckA (hs : List Nat) (ps : List (List (List UInt8))) (R : List (List UInt8)) (n : Nat) : Bool := (List.range n).all fun i => decide (ckC hs ps R i = 0)
theorem ckA_next {hs : List Nat} {ps : List (List (List UInt8))} {R : List (List UInt8)} {n : Nat} : ckA hs ps R (n + 1) = (ckA hs ps R n && decide (ckC hs ps R n = 0)) := by
  unfold ckA
  rw [List.range_succ, List.all_append]
  simp
theorem ckA_not {hs : List Nat} {ps : List (List (List UInt8))} {R : List (List UInt8)} {k n : Nat} (hk : k < n) (h : ckC hs ps R k ≠ 0) : ckA hs ps R n = false := by
  cases e : ckA hs ps R n with
  | false => rfl
  | true =>
    unfold ckA at e
    rw [List.all_eq_true] at e
    exact absurd (of_decide_eq_true (e k (List.mem_range.2 hk))) h
def ckO (cs : List Int) (H R : List (List UInt8)) : Int := if exE cs H = 0 then (if R.length = cs.length ∧ hsB8 R = true then (if ckA (cs.map Int.toNat) (exL (cs.map Int.toNat) H) R (cs.length - 1) = true then 0 else 132) else 131) else exE cs H
theorem atGet {w : World} {a : Option Addr} {l : List (List UInt8)} (h : At w a l) {i : Nat} (hi : i < l.length) : ∃ x : Addr, a = some x ∧ x.block < w.heap.size ∧ w.cell? (x.add i) = some (sv (l.getD i [])) := by
  refine h i _ ?_
  rw [List.getD_eq_getElem?_getD, List.getElem?_eq_getElem hi]
  rfl
set_option maxRecDepth 100000 in
set_option maxHeartbeats 2000000 in
theorem checkC_bad (cs : List Int) (H : List (List UInt8)) (m k n : Nat) (hm : Hid (cs.length = m)) (hk : Hid (H.length = k)) (ac ah ar : Option Addr) (cc chp cr : Nat) (w : World) (hA : AtI w ac cs) (hAh : At w ah H) (lc : m ≤ 9223372036854775807) (lh : k ≤ 9223372036854775807) (he : exE cs H ≠ 0) :
    Calls Tryz.prog 19 #[ch (.slice ac m cc) (.slice ah k chp), .slice ar n cr] w fun r w' => r = .returned (.int .i64 (exE cs H)) ∧ Below w.heap.size w w' := by
  have b0 := (Below.refl w.heap.size w).alloc (Nat.le_refl _) (.cells #[.slice ac m cc, .slice ah k chp] 25)
  have i1 := expandC_bad cs H m k hm hk ac ah cc chp _ (hA.below b0 (Nat.le_refl _)) (hAh.below b0 (Nat.le_refl _)) lc lh he
  generalize exE cs H = E at *
  have h0 : (E != 0) = true := by simpa using he
  have h1 : ¬ E = 0 := he
  have B0 := hid b0
  clear hA hAh b0 hm hk
  go_enter Tryz.func19, Tryz.ntmps19
  go_wp2_with (go_at_call 17; refine i1.mono ?_; rintro r w1 ⟨rfl, b1⟩; have B1 := hid (B0.out.trans (b1.mono B0.out.size)); clear b1)
  go_ret
  exact ⟨rfl, B1.out⟩
set_option maxRecDepth 100000 in
set_option maxHeartbeats 2000000 in
theorem checkC_form (hs : List Nat) (HH : Hds hs) (H R : List (List UInt8)) (m k n : Nat) (hm : Hid (hs.length = m)) (hk : Hid (H.length = k)) (hn : Hid (R.length = n)) (HT : Hid ((told hs).length = k)) (ac ah ar : Option Addr) (cc chp cr : Nat) (w : World) (hA : AtI w ac (ix hs)) (hAh : At w ah H) (hAr : At w ar R) (hq : hsB8 H = true) (T : Tabs w) (ln : n ≤ 9223372036854775807) (he : ¬ (n = m ∧ hsB8 R = true)) :
    Calls Tryz.prog 19 #[ch (.slice ac m cc) (.slice ah k chp), .slice ar n cr] w fun r w' => r = .returned (.int .i64 131) ∧ Below w.heap.size w w' := by
  have b0 := (Below.refl w.heap.size w).alloc (Nat.le_refl _) (.cells #[.slice ac m cc, .slice ah k chp] 25)
  have S0 := hid (ChI.new w (.slice ac m cc) (.slice ah k chp))
  have i1 := expandC_ok hs HH H m k hm hk HT ac ah cc chp _ (hA.below b0 (Nat.le_refl _)) (hAh.below b0 (Nat.le_refl _)) hq (T.below b0 T.lt)
  have B0 := hid b0
  by_cases hl : n = m
  · have hr : hsB8 R = false := by
      cases hc : hsB8 R with
      | false => rfl
      | true => exact absurd ⟨hl, hc⟩ he
    have i2 := fun w' (bb : Below w.heap.size w w') => areHashes13_is R false hr ar cr w' (by rw [hn.out]; exact ln) (hAr.below bb (Nat.le_refl _))
    rw [hn.out] at i2
    subst hl
    have z0 : ((n : Int) != (n : Int)) = false := by simp
    have z1 : ((n : Int) == (n : Int)) = true := by simp
    clear hA hAh hAr b0 he hm hk hn hr hq T HT HH
    go_enter Tryz.func19, Tryz.ntmps19
    go_wp2_with (first
      | (go_at_call 17; refine i1.mono ?_; rintro r w1 ⟨G, gs, rfl, _, _, _, _, b1⟩; have B1 := hid (B0.out.trans (b1.mono B0.out.size)); have c1 := (S0.out.below b1).c0; clear b1)
      | (go_at_call 45; refine (i2 _ B1.out).mono ?_; rintro r w4 ⟨rfl, hw4⟩; have hw4 := hw4.symm; subst hw4))
    go_ret
    exact ⟨rfl, B1.out⟩
  · have z0 : ((n : Int) != (m : Int)) = true := by simp; omega
    have z1 : ((n : Int) == (m : Int)) = false := by simp; omega
    have z2 : ¬ (n : Int) = (m : Int) := by omega
    clear hA hAh hAr b0 he hm hk hn hq T HT HH
    go_enter Tryz.func19, Tryz.ntmps19
    go_wp2_with (go_at_call 17; refine i1.mono ?_; rintro r w1 ⟨G, gs, rfl, _, _, _, _, b1⟩; have B1 := hid (B0.out.trans (b1.mono B0.out.size)); have c1 := (S0.out.below b1).c0; clear b1)
    go_ret
    exact ⟨rfl, B1.out⟩
theorem zip_at {gs : List Nat} {ps : List (List (List UInt8))} (h : gs.length = ps.length) {j : Nat} (hj : j < ps.length) : ∃ g, gs[j]? = some g ∧ (List.zipWith lst gs ps)[j]? = some (lst g (ps.getD j [])) := by
  have hg : j < gs.length := by omega
  refine ⟨gs[j], List.getElem?_eq_getElem hg, ?_⟩
  rw [List.getElem?_zipWith, List.getElem?_eq_getElem hg, List.getElem?_eq_getElem hj, List.getD_eq_getElem?_getD, List.getElem?_eq_getElem hj]
  rfl
theorem Row.at13 {w : World} {g : Nat} {l : List (List UInt8)} (h : Row w g l) : At w (some ⟨g, 0, none⟩) l := fun j p hp => by
  refine ⟨⟨g, 0, none⟩, rfl, h.lt, ?_⟩
  rw [Addr.add_mid, Nat.zero_add, cell_of_row _ _ _ _ _ _ h]
  simp [svs, hp]
theorem exL_few {hs : List Nat} (HH : Hds hs) (H : List (List UInt8)) (j : Nat) : ((exL hs H).getD j []).length ≤ 41 := by
  rw [List.getD_eq_getElem?_getD]
  by_cases hj : j < (exL hs H).length
  · rw [List.getElem?_eq_getElem hj]
    have hj' : j < hs.length - 1 := by simpa [exL] using hj
    have hp := HH.pair (i := j) (by omega)
    have := prf_len hp.1 (Nat.le_of_lt hp.2.1) hp.2.2
    simpa [exL, exP] using this
  · rw [List.getElem?_eq_none (by omega)]; simp
set_option maxRecDepth 100000 in
set_option maxHeartbeats 4000000 in
theorem checkC_ok (hs : List Nat) (HH : Hds hs) (H R : List (List UInt8)) (m k : Nat) (hm : Hid (hs.length = m)) (hk : Hid (H.length = k)) (hn : Hid (R.length = m)) (HT : Hid ((told hs).length = k)) (ac ah ar : Option Addr) (cc chp cr : Nat) (w : World) (hA : AtI w ac (ix hs)) (hAh : At w ah H) (hAr : At w ar R) (hq : hsB8 H = true) (hr : hsB8 R = true) (T : Tabs w) :
    Calls Tryz.prog 19 #[ch (.slice ac m cc) (.slice ah k chp), .slice ar m cr] w fun r w' => r = .returned (.int .i64 (if ckA hs (exL hs H) R (m - 1) = true then 0 else 132)) ∧ Below w.heap.size w w' := by
  have b0 := (Below.refl w.heap.size w).alloc (Nat.le_refl _) (.cells #[.slice ac m cc, .slice ah k chp] 25)
  have S0 := hid (ChI.new w (.slice ac m cc) (.slice ah k chp))
  have i1 := expandC_ok hs HH H m k hm hk HT ac ah cc chp _ (hA.below b0 (Nat.le_refl _)) (hAh.below b0 (Nat.le_refl _)) hq (T.below b0 T.lt)
  have B0 := hid b0
  have lm : m ≤ 64 := by rw [← hm.out]; exact HH.le
  have lm1 : 1 ≤ m := by rw [← hm.out]; exact HH.ne
  have i2 := fun w' (bb : Below w.heap.size w w') => areHashes13_is R true hr ar cr w' (by rw [hn.out]; omega) (hAr.below bb (Nat.le_refl _))
  rw [hn.out] at i2
  obtain ⟨x, rfl⟩ := hA.pos (by simp [ix]; rw [hm.out]; omega)
  obtain ⟨y, rfl, _, _⟩ := atGet hAr (i := 0) (by rw [hn.out]; omega)
  have HA := hid (fun w' (bb : Below w.heap.size w w') => hA.below bb (Nat.le_refl _))
  have HR := hid (fun w' (bb : Below w.heap.size w w') => hAr.below bb (Nat.le_refl _))
  have TT := hid (fun w' (bb : Below w.heap.size w w') => T.below bb T.lt)
  have few := hid (exL_few HH H)
  have hpl : Hid ((exL hs H).length = m - 1) := by unfold Hid; rw [← hm.out]; simp [exL]
  have z0 : ((m : Int) != (m : Int)) = false := by simp
  have z1 : ((m : Int) == (m : Int)) = true := by simp
  obtain ⟨V, hV⟩ : ∃ V : Int, Hid ((if ckA hs (exL hs H) R (m - 1) = true then (0 : Int) else 132) = V) := ⟨_, rfl⟩
  rw [hV.out]
  generalize exL hs H = ps at *
  have v1 : IntKind.i64.wrap ((m : Int) - 1) = (m : Int) - 1 := by rw [IntKind.wrap_i64]; omega
  have v2 : (m : Int) - 1 = ((m - 1 : Nat) : Int) := by omega
  obtain ⟨M, hM⟩ : ∃ M, m - 1 = M := ⟨_, rfl⟩
  have HMM := hid hM
  rw [hM] at v2
  clear hA hAh hAr b0 hk hq hr T HT HH hM
  go_enter Tryz.func19, Tryz.ntmps19
  go_wp2_with (first
    | (go_at_call 17; refine i1.mono ?_; rintro r w1 ⟨G, gs, rfl, rv, gl, ls, _, b1⟩; have B1 := hid (B0.out.trans (b1.mono B0.out.size)); have S1 := hid (S0.out.below b1); have c1 := S1.out.c0; have RV := hid rv; have GL := hid gl; have LS := hid ls; clear b1 rv gl ls)
    | (go_at_call 45; refine (i2 _ B1.out).mono ?_; rintro r w4 ⟨rfl, hw4⟩; have hw4 := hw4.symm; subst hw4))
  clear i1 i2 c1 S0 B0
  go_loopw [7, 33] (fun _ i w' => ∃ j : Nat, j ≤ M ∧ i = .int .i64 (j : Int) ∧ Hid (ckA hs ps R j = true) ∧ Hid (Below w1.heap.size w1 w')) (fun _ i _ => M - (intOf i).toNat)
  case atStart => exact ⟨0, by omega, rfl, rfl, Below.refl _ _⟩
  case round =>
    obtain ⟨j, hj, rfl, hck, hbw⟩ := hrel
    have bww := B1.out.trans (hbw.out.mono B1.out.size)
    by_cases hjm : j < M
    · have e0 : (j : Int) < (M : Int) := by omega
      have hmm := HMM.out
      have hj1 : j + 1 < hs.length := by rw [hm.out]; omega
      have hj0 : j < hs.length := by omega
      have hjp : j < ps.length := by rw [hpl.out]; omega
      obtain ⟨g, hg1, hg2⟩ := zip_at GL.out hjp
      have hrow := LS.out.row j g (ps.getD j []) hg1 (by rw [List.getD_eq_getElem?_getD, List.getElem?_eq_getElem hjp]; rfl)
      have hgw := (LS.out.ge g (List.mem_of_getElem? hg1)).2
      have fact : ∀ w', Below w1.heap.size w1 w' → w'.cell? ⟨w.heap.size, 0, none⟩ = some (.slice (some x) m cc) ∧ w'.cell? (x.add j) = some (.int .i64 (hs.getD j 0 : Int)) ∧ w'.cell? ⟨x.block, x.off + (j + 1), none⟩ = some (.int .i64 (hs.getD (j + 1) 0 : Int)) ∧ w'.cell? (y.add j) = some (.string ⟨(R.getD j []).toArray⟩) ∧ w'.cell? ⟨y.block, y.off + (j + 1), none⟩ = some (.string ⟨(R.getD (j + 1) []).toArray⟩) ∧ w'.cell? ⟨G, j, none⟩ = some (.slice (some ⟨g, 0, none⟩) (ps.getD j []).length (ps.getD j []).length) := fun w' hb' => by
        have bw' := B1.out.trans (hb'.mono B1.out.size)
        obtain ⟨a1, h1, _, q1⟩ := (HA.out _ bw') j _ (ix_at hj0)
        obtain ⟨a2, h2, _, q2⟩ := (HA.out _ bw') (j + 1) _ (ix_at hj1)
        obtain ⟨a3, h3, _, q3⟩ := atGet (HR.out _ bw') (i := j) (by rw [hn.out]; omega)
        obtain ⟨a4, h4, _, q4⟩ := atGet (HR.out _ bw') (i := j + 1) (by rw [hn.out]; omega)
        obtain rfl := Option.some.inj h1
        obtain rfl := Option.some.inj h2
        obtain rfl := Option.some.inj h3
        obtain rfl := Option.some.inj h4
        refine ⟨(S1.out.below hb').c0, q1, ?_, q3, ?_, (RV.out.below hb' RV.out.lt).cell hg2⟩
        · rw [← q2]; simp [Addr.add]
        · rw [show (.string ⟨(R.getD (j + 1) []).toArray⟩ : Value) = sv (R.getD (j + 1) []) from rfl, ← q4]; simp [Addr.add]
      have x0 := fact _ hbw.out
      have HF := hid fact
      have i3 := Consistency_any (hs.getD j 0 : Int) (hs.getD (j + 1) 0 : Int) (R.getD j []) (R.getD (j + 1) []) (ps.getD j []) (some ⟨g, 0, none⟩) (ps.getD j []).length wr.drew (by have := few.out j; omega) ((Row.at13 (hrow.below hbw.out hgw)).below (Below.refl _ _).drew (Nat.le_refl _)) (TT.out _ bww.drew)
      have hC : ckC hs ps R j = conOf4 (hs.getD j 0 : Int) (hs.getD (j + 1) 0 : Int) (R.getD j []) (R.getD (j + 1) []) (ps.getD j []) := rfl
      rw [← hC] at i3
      clear hC
      unfold Hid at HF
      rw [show sv (R.getD j []) = Value.string ⟨(R.getD j []).toArray⟩ from rfl, show sv (R.getD (j + 1) []) = Value.string ⟨(R.getD (j + 1) []).toArray⟩ from rfl] at i3
      have hnx := hid (ckA_next (hs := hs) (ps := ps) (R := R) (n := j))
      have hno := hid (fun h => ckA_not (hs := hs) (ps := ps) (R := R) (k := j) (n := M) hjm h)
      obtain ⟨E, hE⟩ : ∃ E, ckC hs ps R j = E := ⟨_, rfl⟩
      unfold Hid at hnx hno
      rw [hE] at i3 hnx hno
      have hnx := hid hnx
      have hno := hid hno
      generalize hs.getD j 0 = a at *
      generalize hs.getD (j + 1) 0 = c at *
      generalize (⟨(R.getD j []).toArray⟩ : ByteArray) = ra at *
      generalize (⟨(R.getD (j + 1) []).toArray⟩ : ByteArray) = rb at *
      generalize (ps.getD j []).length = nl at *
      have HF := hid HF
      have v3 : IntKind.i64.wrap ((j : Int) + 1) = (j : Int) + 1 := by rw [IntKind.wrap_i64]; omega
      have v4 : ((j : Int) + 1).toNat = j + 1 := by omega
      have v5 : (0 : Int) ≤ (j : Int) + 1 := by omega
      have v6 : (j : Int) + 1 < (m : Int) := by omega
      have v7 : (j : Int) < (m : Int) := by omega
      have v8 : (0 : Int) ≤ (j : Int) := by omega
      have v9 : (j : Int) < ((ps.length : Nat) : Int) := by omega
      clear fact hg1 hg2 hrow hE
      by_cases h0 : E = 0
      · have hck2 : Hid (ckA hs ps R (j + 1) = true) := by unfold Hid; rw [hnx.out, hck.out, decide_eq_true h0]; rfl
        have q0 : (E != 0) = false := by simp [h0]
        have q1 : (E == 0) = true := by simp [h0]
        clear hck hnx hno
        subst h0
        go_wp2
        go_region_held3 (fun w' => w'.cell? ⟨w.heap.size, 0, none⟩ = some (.slice (some x) m cc) ∧ w'.cell? (x.add j) = some (.int .i64 (a : Int)) ∧ w'.cell? ⟨x.block, x.off + (j + 1), none⟩ = some (.int .i64 (c : Int)) ∧ w'.cell? (y.add j) = some (.string ra) ∧ w'.cell? ⟨y.block, y.off + (j + 1), none⟩ = some (.string rb) ∧ w'.cell? ⟨G, j, none⟩ = some (.slice (some ⟨g, 0, none⟩) nl nl)) (first | exact x1 | exact x0) (first | (go_at_call 46; refine i3.mono ?_; rintro r w3 ⟨rfl, b3⟩; have b3 := drewBelow8 b3; have B3 := hid (hbw.out.trans (b3.mono hbw.out.size)); have x1 := HF.out _ B3.out; clear b3))
        go_wp2
        exact ⟨⟨j + 1, by omega, by go_num, hck2, B3⟩, by simp [intOf]; omega⟩
      · have eV : Hid (V = 132) := by unfold Hid; rw [← hV.out, if_neg]; rw [HMM.out, hno.out h0]; simp
        have q0 : (E != 0) = true := by simpa using h0
        have q1 : (E == 0) = false := by simpa using h0
        clear hck hnx hno
        go_wp2
        go_region_held3 (fun w' => w'.cell? ⟨w.heap.size, 0, none⟩ = some (.slice (some x) m cc) ∧ w'.cell? (x.add j) = some (.int .i64 (a : Int)) ∧ w'.cell? ⟨x.block, x.off + (j + 1), none⟩ = some (.int .i64 (c : Int)) ∧ w'.cell? (y.add j) = some (.string ra) ∧ w'.cell? ⟨y.block, y.off + (j + 1), none⟩ = some (.string rb) ∧ w'.cell? ⟨G, j, none⟩ = some (.slice (some ⟨g, 0, none⟩) nl nl)) (first | exact x1 | exact x0) (first | (go_at_call 46; refine i3.mono ?_; rintro r w3 ⟨rfl, b3⟩; have b3 := drewBelow8 b3; have B3 := hid (hbw.out.trans (b3.mono hbw.out.size)); have x1 := HF.out _ B3.out; clear b3))
        go_wp2
        go_ret
        exact ⟨by rw [eV.out]; rfl, B1.out.trans (B3.out.mono B1.out.size)⟩
    · obtain rfl : j = M := by omega
      have e0 : ¬ (j : Int) < (j : Int) := by omega
      have eV : Hid (V = 0) := by unfold Hid; rw [← hV.out, if_pos]; rw [HMM.out]; exact hck.out
      go_wp2
      go_ret
      exact ⟨by rw [eV.out]; rfl, bww⟩
theorem checkC_any (cs : List Int) (H R : List (List UInt8)) (m k n : Nat) (hm : Hid (cs.length = m)) (hk : Hid (H.length = k)) (hn : Hid (R.length = n)) (ac ah ar : Option Addr) (cc chp cr : Nat) (w : World) (hA : AtI w ac cs) (hAh : At w ah H) (hAr : At w ar R) (T : Tabs w) (lc : m ≤ 9223372036854775807) (lh : k ≤ 9223372036854775807) (ln : n ≤ 9223372036854775807) :
    Calls Tryz.prog 19 #[ch (.slice ac m cc) (.slice ah k chp), .slice ar n cr] w fun r w' => r = .returned (.int .i64 (ckO cs H R)) ∧ Below w.heap.size w w' := by
  by_cases he : exE cs H = 0
  · obtain ⟨hs, rfl, HH, h1, h2⟩ := exE_ok he
    have hl : hs.length = m := by rw [← hm.out]; simp [ix]
    have e1 : ckO (ix hs) H R = if n = m ∧ hsB8 R = true then (if ckA hs (exL hs H) R (m - 1) = true then 0 else 132) else 131 := by
      unfold ckO
      rw [if_pos he, ix_toN, hn.out, hm.out]
    rw [e1]
    by_cases hc : n = m ∧ hsB8 R = true
    · rw [if_pos hc]
      obtain ⟨rfl, hr⟩ := hc
      exact checkC_ok hs HH H R n k hl hk hn (show (told hs).length = k by rw [← h1, hk.out]) ac ah ar cc chp cr w hA hAh hAr h2 hr T
    · rw [if_neg hc]
      exact checkC_form hs HH H R m k n hl hk hn (show (told hs).length = k by rw [← h1, hk.out]) ac ah ar cc chp cr w hA hAh hAr h2 T ln hc
  · have e1 : ckO cs H R = exE cs H := by unfold ckO; rw [if_neg he]
    rw [e1]
    exact checkC_bad cs H m k n hm hk ac ah ar cc chp cr w hA hAh lc lh he
end Chn
end Go.Proofs.YtenklmjeeejfdaaGreatDoor

namespace Go.Proofs.YtenklmjeeejfdaaGreatDoor
open Go.RowKit Go.Shelf
namespace Chn
def ivC (l : List Nat) : List Value := l.map fun (x : Nat) => .int .i64 (x : Int)
theorem ivC_len (l : List Nat) : (ivC l).length = l.length := by simp [ivC]
theorem infoIC : (Tryz.prog.info? 3).map (fun i => (i.zero, i.size, i.bytes)) = some (some (.int .i64 0), 1, 8) := by kernel_rfl
theorem append_intC (w : World) (v : Value) (l : List Nat) (x : Nat) (h : OwnM 1 w v l.length (ivC l)) (hl : l.length ≤ 1000000) :
    ∃ v' w', (Builtin.append_ #[22, 22] 22 #[v, .slice (some ⟨w.heap.size, 0, none⟩) 1 1]).run Tryz.prog (w.alloc (.cells #[.int .i64 (x : Int)] 3)) = .ok v' w' ∧ OwnM 1 w' v' (l ++ [x]).length (ivC (l ++ [x])) ∧ Grow w w' v v' := by
  obtain ⟨v', w', h1, h2, h3⟩ := append_oneL 22 3 (.int .i64 0) 8 Tryz.underlying22 infoIC rfl w v l.length (ivC l) [.int .i64 (x : Int)] rfl (fun u hu => by
    rw [List.mem_singleton] at hu; rw [hu]; rfl) h (by omega) (by rw [maxLen]; omega)
  refine ⟨v', w', h1, ?_, h3⟩
  have e : ivC (l ++ [x]) = ivC l ++ [.int .i64 (x : Int)] := by unfold ivC; rw [List.map_append]; rfl
  rw [e, List.length_append]
  exact h2
structure Rsg (n at_ : Nat) (l : List Nat) : Prop where
  up : l.Pairwise (· < ·)
  lo : ∀ x ∈ l, 1 ≤ x ∧ x < at_ ∧ x ≤ n
theorem Rsg.next {n a p : Nat} {l : List Nat} (h : Rsg n a l) (h1 : 1 ≤ a) (hp : a + p ≤ n) : Rsg n (a + p + 1) (l ++ [a + p]) := by
  refine ⟨List.pairwise_append.2 ⟨h.up, List.pairwise_singleton _ _, fun x hx y hy => ?_⟩, fun x hx => ?_⟩
  · rw [List.mem_singleton.1 hy]
    have := h.lo x hx
    omega
  · rcases List.mem_append.1 hx with hx | hx
    · have := h.lo x hx
      omega
    · rw [List.mem_singleton.1 hx]
      omega
theorem Rsg.hds {n a : Nat} {l : List Nat} (h : Rsg n a l) (h1 : 1 ≤ l.length) (h2 : l.length ≤ 64) (hn : n ≤ 1099511627776) : Hds l := by
  refine ⟨h1, h2, fun i x y hx hy => ?_, fun i x hx => ?_⟩
  · have e1 := List.getElem?_eq_some_iff.1 hx
    have e2 := List.getElem?_eq_some_iff.1 hy
    have := List.pairwise_iff_getElem.1 h.up i (i + 1) e1.1 e2.1 (by omega)
    rw [e1.2, e2.2] at this
    exact this
  · have := h.lo x (List.mem_of_getElem? hx)
    omega
def RsP (w : World) (n most : Nat) (r : Ending) (w' : World) : Prop := ∃ v hs, r = .returned v ∧ OwnM 1 w' v hs.length (ivC hs) ∧ Hds hs ∧ (∀ x ∈ hs, x ≤ n) ∧ hs.length ≤ most ∧ (∀ k, v.ownBlock = some k → w.heap.size ≤ k) ∧ Below w.heap.size w w'
structure Rm (w w' : World) (v : Value) (n a : Nat) (l : List Nat) : Prop where
  own : OwnM 1 w' v l.length (ivC l)
  rs : Rsg n a l
  ge : ∀ k, v.ownBlock = some k → w.heap.size ≤ k
  bel : Below w.heap.size w w'
theorem Rm.push {w w' w2 : World} {v v' : Value} {n a p : Nat} {l : List Nat} (h : Rm w w' v n a l) (h1 : 1 ≤ a) (hp : a + p ≤ n) (ho : OwnM 1 w2 v' (l ++ [a + p]).length (ivC (l ++ [a + p]))) (g : Grow w' w2 v v') : Rm w w2 v' n (a + p + 1) (l ++ [a + p]) :=
  ⟨ho, h.rs.next h1 hp, fun k hk => by
    have := h.bel.size
    rcases Grow.alt' g k hk with e | e
    · exact h.ge k e
    · omega, h.bel.trans (keep_belowC g.keep h.bel.size h.ge)⟩
set_option maxRecDepth 100000 in
set_option maxHeartbeats 2000000 in
theorem rising13_any (L : List Int) (n most : Nat) (hn : 1 ≤ n) (hn2 : n ≤ 1099511627776) (hm : 1 ≤ most) (hm2 : most ≤ 64) (N : Nat) (hN : Hid (L.length = N)) (lN : N ≤ 9223372036854775807) (a : Option Addr) (cap : Nat) (w : World) (hA : AtI w a L) (hr : ∀ c ∈ L, -9223372036854775808 ≤ c ∧ c ≤ 9223372036854775807) :
    Calls Tryz.prog 7 #[.slice a N cap, .int .i64 (n : Int), .int .i64 (most : Int)] w (RsP w n most) := by
  have HA := hid hA
  have HR := hid hr
  clear hA hr
  go_enter Tryz.func7, Tryz.ntmps7
  go_wp2
  go_loopw [7, 8, 9, 10] (fun v p i _ w' => ∃ (k at_ : Nat) (l : List Nat), k ≤ N ∧ 1 ≤ at_ ∧ at_ ≤ n + 1 ∧ l.length ≤ most ∧ (k = 0 ∨ 1 ≤ l.length) ∧ (l.length = 0 → at_ = 1) ∧ p = .int .i64 (at_ : Int) ∧ i = .int .i64 (k : Int) ∧ Hid (Rm w w' v n at_ l)) (fun _ _ i _ _ => N - (intOf i).toNat)
  case atStart => exact ⟨0, 1, [], by omega, by omega, by omega, by simp, .inl rfl, fun _ => rfl, rfl, rfl, ⟨OwnM.nil 1 _, ⟨List.Pairwise.nil, (fun x h => by cases h)⟩, (fun k hk => by cases hk), Below.refl _ _⟩⟩
  case round =>
    obtain ⟨k, p, l, hk, hp1, hp2, hl, hk0, hl0, rfl, rfl, hM⟩ := hrel
    obtain ⟨va, vc, hva, _, _⟩ := hM.out.own.shape
    obtain ⟨q, hq⟩ : ∃ q, l.length = q := ⟨_, rfl⟩
    have HQ := hid hq
    rw [hq] at hva hl hk0 hl0
    subst hva
    have e2 : (q : Int) ≤ (most : Int) := by omega
    by_cases c1 : k < N
    · have d1 : (k : Int) < (N : Int) := by omega
      by_cases c2 : q < most
      · have d2 : (q : Int) < (most : Int) := by omega
        by_cases c3 : p ≤ n
        · have d3 : (p : Int) ≤ (n : Int) := by omega
          have w1 : IntKind.i64.wrap ((n : Int) - (p : Int)) = (n : Int) - (p : Int) := by rw [IntKind.wrap_i64]; omega
          have w2 : IntKind.i64.wrap ((n : Int) - (p : Int) + 1) = (n : Int) - (p : Int) + 1 := by rw [IntKind.wrap_i64]; omega
          have hkL : k < L.length := by rw [hN.out]; exact c1
          obtain ⟨x, rfl, _, hx⟩ := (HA.out.below hM.out.bel (Nat.le_refl _)) k L[k] (List.getElem?_eq_getElem hkL)
          have hb := HR.out L[k] (List.getElem_mem hkL)
          have j0 : (0 : Int) ≤ (k : Int) := by omega
          generalize L[k] = c at *
          have key : ∀ r : Int, 1 ≤ r → r ≤ (n : Int) - (p : Int) + 1 → ∃ P : Nat, pk c r = (P : Int) ∧ p + P ≤ n := fun r h1 h2 => by
            have a1 := pk_nonneg c r (by omega)
            have a2 := pk_lt c r (by omega)
            exact ⟨(pk c r).toNat, by omega, by omega⟩
          by_cases par : k % 2 = 0 ∧ 9 < n - p + 1
          · have m1 : (k : Int) % 2 = 0 := by omega
            have m2 : (9 : Int) < (n : Int) - (p : Int) + 1 := by omega
            have m3 : (k : Int).tmod 2 = 0 := by rw [Int.tmod_eq_emod_of_nonneg (by omega)]; omega
            obtain ⟨P, hP, hPn⟩ := key 9 (by omega) (by omega)
            have i1 := pick_any c 9 hb.1 hb.2 (by omega) (by omega) wr
            rw [hP] at i1
            have s1 : IntKind.i64.wrap ((p : Int) + (P : Int)) = (p : Int) + (P : Int) := by rw [IntKind.wrap_i64]; omega
            have s2 : IntKind.i64.wrap ((p : Int) + (P : Int) + 1) = (p : Int) + (P : Int) + 1 := by rw [IntKind.wrap_i64]; omega
            obtain ⟨v', w3, hap, O3, G3⟩ := append_intC wr (.slice va q vc) l (p + P) hM.out.own (by rw [HQ.out]; omega)
            have M3 := hid (hM.out.push hp1 hPn O3 G3)
            have e5 : ((p + P : Nat) : Int) = (p : Int) + (P : Int) := by omega
            rw [e5] at hap
            clear O3 G3 key hP hb
            go_wp2_with (first
              | (go_at_call 13; refine i1.mono ?_; rintro r w2' ⟨rfl, h2⟩; have h2 := h2.symm; subst h2)
              | (at_builtin; go_must (refine Lib.wpList_append_run _ rfl _ _ 22 22 rfl _ _ rfl rfl _ _ hap ?_)))
            exact ⟨⟨k + 1, p + P + 1, l ++ [p + P], by omega, by omega, by omega, by rw [List.length_append, HQ.out, List.length_singleton]; omega, .inr (by simp), (fun e => by simp at e), by go_num, by go_num, M3⟩, by simp [intOf]; omega⟩
          · obtain ⟨P, hP, hPn⟩ := key ((n : Int) - (p : Int) + 1) (by omega) (by omega)
            have i1 := pick_any c ((n : Int) - (p : Int) + 1) hb.1 hb.2 (by omega) (by omega) wr
            rw [hP] at i1
            by_cases m0 : k % 2 = 0
            · have m1 : (k : Int) % 2 = 0 := by omega
              have m2 : ¬ (9 : Int) < (n : Int) - (p : Int) + 1 := by omega
              have m3 : (k : Int).tmod 2 = 0 := by rw [Int.tmod_eq_emod_of_nonneg (by omega)]; omega
              have s1 : IntKind.i64.wrap ((p : Int) + (P : Int)) = (p : Int) + (P : Int) := by rw [IntKind.wrap_i64]; omega
              have s2 : IntKind.i64.wrap ((p : Int) + (P : Int) + 1) = (p : Int) + (P : Int) + 1 := by rw [IntKind.wrap_i64]; omega
              obtain ⟨v', w3, hap, O3, G3⟩ := append_intC wr (.slice va q vc) l (p + P) hM.out.own (by rw [HQ.out]; omega)
              have M3 := hid (hM.out.push hp1 hPn O3 G3)
              have e5 : ((p + P : Nat) : Int) = (p : Int) + (P : Int) := by omega
              rw [e5] at hap
              clear O3 G3 key hP hb
              go_wp2_with (first
                | (go_at_call 13; refine i1.mono ?_; rintro r w2' ⟨rfl, h2⟩; have h2 := h2.symm; subst h2)
                | (at_builtin; go_must (refine Lib.wpList_append_run _ rfl _ _ 22 22 rfl _ _ rfl rfl _ _ hap ?_)))
              exact ⟨⟨k + 1, p + P + 1, l ++ [p + P], by omega, by omega, by omega, by rw [List.length_append, HQ.out, List.length_singleton]; omega, .inr (by simp), (fun e => by simp at e), by go_num, by go_num, M3⟩, by simp [intOf]; omega⟩
            · have m1 : ¬ (k : Int) % 2 = 0 := by omega
              have m3 : ¬ (k : Int).tmod 2 = 0 := by rw [Int.tmod_eq_emod_of_nonneg (by omega)]; omega
              have s1 : IntKind.i64.wrap ((p : Int) + (P : Int)) = (p : Int) + (P : Int) := by rw [IntKind.wrap_i64]; omega
              have s2 : IntKind.i64.wrap ((p : Int) + (P : Int) + 1) = (p : Int) + (P : Int) + 1 := by rw [IntKind.wrap_i64]; omega
              obtain ⟨v', w3, hap, O3, G3⟩ := append_intC wr (.slice va q vc) l (p + P) hM.out.own (by rw [HQ.out]; omega)
              have M3 := hid (hM.out.push hp1 hPn O3 G3)
              have e5 : ((p + P : Nat) : Int) = (p : Int) + (P : Int) := by omega
              rw [e5] at hap
              clear O3 G3 key hP hb
              go_wp2_with (first
                | (go_at_call 13; refine i1.mono ?_; rintro r w2' ⟨rfl, h2⟩; have h2 := h2.symm; subst h2)
                | (at_builtin; go_must (refine Lib.wpList_append_run _ rfl _ _ 22 22 rfl _ _ rfl rfl _ _ hap ?_)))
              exact ⟨⟨k + 1, p + P + 1, l ++ [p + P], by omega, by omega, by omega, by rw [List.length_append, HQ.out, List.length_singleton]; omega, .inr (by simp), (fun e => by simp at e), by go_num, by go_num, M3⟩, by simp [intOf]; omega⟩
        · have d3 : ¬ (p : Int) ≤ (n : Int) := by omega
          have d4 : ¬ (q : Int) = 0 := by omega
          clear hq
          go_wp2
          go_ret
          exact ⟨_, l, rfl, hM.out.own, hM.out.rs.hds (by rw [HQ.out]; omega) (by rw [HQ.out]; omega) hn2, fun x hx => (hM.out.rs.lo x hx).2.2, by rw [HQ.out]; omega, hM.out.ge, hM.out.bel⟩
      · have d2 : ¬ (q : Int) < (most : Int) := by omega
        have d4 : ¬ (q : Int) = 0 := by omega
        clear hq
        go_wp2
        go_ret
        exact ⟨_, l, rfl, hM.out.own, hM.out.rs.hds (by rw [HQ.out]; omega) (by rw [HQ.out]; omega) hn2, fun x hx => (hM.out.rs.lo x hx).2.2, by rw [HQ.out]; omega, hM.out.ge, hM.out.bel⟩
    · have d1 : ¬ (k : Int) < (N : Int) := by omega
      by_cases c4 : q = 0
      · have d4 : (q : Int) = 0 := by omega
        obtain rfl : l = [] := List.eq_nil_of_length_eq_zero (by rw [HQ.out]; exact c4)
        obtain rfl : p = 1 := hl0 c4
        subst c4
        obtain ⟨v', w3, hap, O3, G3⟩ := append_intC wr (.slice va 0 vc) [] (1 + (n - 1)) hM.out.own (by simp)
        have M3 := hid (hM.out.push (by omega) (by omega) O3 G3)
        have e5 : ((1 + (n - 1) : Nat) : Int) = (n : Int) := by omega
        rw [e5] at hap
        clear O3 G3 hq
        go_wp2_with (at_builtin; go_must (refine Lib.wpList_append_run _ rfl _ _ 22 22 rfl _ _ rfl rfl _ _ hap ?_))
        go_ret
        exact ⟨_, _, rfl, M3.out.own, M3.out.rs.hds (by simp) (by simp) hn2, fun x hx => (M3.out.rs.lo x hx).2.2, by simp; omega, M3.out.ge, M3.out.bel⟩
      · have d4 : ¬ (q : Int) = 0 := by omega
        clear hq
        go_wp2
        go_ret
        exact ⟨_, l, rfl, hM.out.own, hM.out.rs.hds (by rw [HQ.out]; omega) (by rw [HQ.out]; omega) hn2, fun x hx => (hM.out.rs.lo x hx).2.2, by rw [HQ.out]; omega, hM.out.ge, hM.out.bel⟩
end Chn
end Go.Proofs.YtenklmjeeejfdaaGreatDoor

namespace Go.Proofs.YtenklmjeeejfdaaGreatDoor
open Go.RowKit Go.Shelf
namespace Chn
namespace Gb
def AtV (w : World) (a : Option Addr) (l : List Value) : Prop := ∀ j u, l[j]? = some u → ∃ g, a = some ⟨g, 0, none⟩ ∧ g < w.heap.size ∧ w.cell? ⟨g, j, none⟩ = some u
theorem AtV.kept {w w' : World} {a : Option Addr} {l : List Value} (h : AtV w a l) (hs : w.heap.size ≤ w'.heap.size) (hb : ∀ x : Addr, a = some x → x.block < w.heap.size → w'.heap[x.block]? = w.heap[x.block]?) : AtV w' a l := fun j u hu => by
  obtain ⟨g, e, h1, h2⟩ := h j u hu
  have e2 := hb _ e h1
  exact ⟨g, e, by omega, (World.cell?_of_block (a := ⟨g, j, none⟩) e2).trans h2⟩
theorem AtV.own {w : World} {v : Value} {n : Nat} {l : List Value} (h : OwnM 1 w v n l) : ∃ a c, v = .slice a n c ∧ AtV w a l := by
  obtain ⟨a, c, e, _, _⟩ := h.shape
  refine ⟨a, c, e, fun j u hu => ?_⟩
  obtain ⟨g, c', e1, h1, h2⟩ := h.cell hu
  rw [e] at e1
  injection e1 with e1
  exact ⟨g, e1, h2, h1⟩
def MkV (w : World) (v : Value) (x : Value) : Prop := ∃ a n c, v = .slice a n c ∧ n ≤ 9223372036854775807 ∧ ∀ j, j < n → ∃ g, a = some ⟨g, 0, none⟩ ∧ g < w.heap.size ∧ w.cell? ⟨g, j, none⟩ = some x
theorem MkV.kept {w w' : World} {v : Value} {m : Value} (h : MkV w v m) (hs : w.heap.size ≤ w'.heap.size) (hb : ∀ k, v.ownBlock = some k → k < w.heap.size → w'.heap[k]? = w.heap[k]?) : MkV w' v m := by
  obtain ⟨a, n, c, rfl, h1, h2⟩ := h
  refine ⟨a, n, c, rfl, h1, fun j hj => ?_⟩
  obtain ⟨g, rfl, h3, h4⟩ := h2 j hj
  exact ⟨g, rfl, by omega, (World.cell?_of_block (a := ⟨g, j, none⟩) (hb g rfl h3)).trans h4⟩
theorem rep_at (x : Value) (n j : Nat) (h : j < n) : (List.replicate n x)[j]? = some x := by simp [h]
theorem mkV {w : World} {v : Value} {n : Nat} {m : Value} (h : OwnM 1 w v n (List.replicate n m)) : MkV w v m := by
  obtain ⟨a, c, e, h1, h2⟩ := h.shape
  refine ⟨a, n, c, e, by omega, fun j hj => ?_⟩
  obtain ⟨g, c', e1, h3, h4⟩ := h.cell (rep_at m n j hj)
  rw [e] at e1
  injection e1 with e1
  exact ⟨g, e1, h4, h3⟩
theorem rep_set {cs : List Value} {k n : Nat} (hl : cs.length = n) (hk : k < n) (m : Value) : (List.replicate k m ++ cs.drop k).set k m = List.replicate (k + 1) m ++ cs.drop (k + 1) := by
  rw [List.set_append_right _ _ (by simp), List.length_replicate, Nat.sub_self, List.drop_eq_getElem_cons (show k < cs.length by omega), List.replicate_succ', List.append_assoc]
  rfl
end Gb
end Chn
end Go.Proofs.YtenklmjeeejfdaaGreatDoor

namespace Go.Proofs.YtenklmjeeejfdaaGreatDoor
open Go.RowKit Go.Shelf
set_option maxRecDepth 100000 in
set_option maxHeartbeats 4000000 in
theorem spans_yes (l : List (Int × Int)) (a1 a2 : Option Addr) (c1 c2 : Nat) (w : World) (hl : l.length ≤ 9223372036854775800) (h1 : AtP w a1 l) (h2 : AtP w a2 l) :
    Calls Tryz.prog 18 #[.slice a1 l.length c1, .slice a2 l.length c2] w fun r w' => r = .returned (.bool true) ∧ Below w.heap.size w w' := by
  obtain ⟨n, hn⟩ : ∃ n, Hid (l.length = n) := ⟨_, rfl⟩
  rw [hn.out] at hl ⊢
  have H1 := hid h1
  have H2 := hid h2
  clear h1 h2
  go_enter Tryz.func18, Tryz.ntmps18
  go_wp2
  go_loopw [5] (fun i wr => ∃ k : Nat, i = .int .i64 (k : Int) ∧ k ≤ n ∧ Hid (Below w.heap.size w wr)) (fun i _ => n - (intOf i).toNat)
  case atStart => exact ⟨0, rfl, Nat.zero_le _, Below.refl _ _⟩
  case round =>
    obtain ⟨k, rfl, hk, hB⟩ := hrel
    by_cases hkn : k < n
    · have b0 : (k : Int) < (n : Int) := by omega
      have b1 : (0 : Int) ≤ (k : Int) := by omega
      obtain ⟨x, y, hq⟩ : ∃ x y, l[k]? = some (x, y) := ⟨_, _, List.getElem?_eq_getElem (by have := hn.out; omega)⟩
      obtain ⟨g1, rfl, _, p0, p1⟩ := (H1.out.below hB.out (Nat.le_refl _)) k (x, y) hq
      obtain ⟨g2, rfl, _, q0, q1⟩ := (H2.out.below hB.out (Nat.le_refl _)) k (x, y) hq
      have p0 : wr.cell? ⟨g1, k * 2, none⟩ = some (.int .i64 x) := p0
      have p1 : wr.cell? ⟨g1, k * 2 + 1, none⟩ = some (.int .i64 y) := p1
      have q0 : wr.cell? ⟨g2, k * 2, none⟩ = some (.int .i64 x) := q0
      have q1 : wr.cell? ⟨g2, k * 2 + 1, none⟩ = some (.int .i64 y) := q1
      clear H1 H2 hq
      go_wp2
      go_quiet (fail)
      go_wp2
      exact ⟨⟨k + 1, by go_num, by omega, by first | exact hB | exact hid hB.out.drew | exact hid (below_drewN hB.out _)⟩, by simp [intOf]; omega⟩
    · obtain rfl : k = n := by omega
      have b0 : ¬ (k : Int) < (k : Int) := by omega
      go_wp2
      go_ret
      exact ⟨rfl, hB.out⟩
theorem AtP.lit (w : World) (l : List (Int × Int)) (t : TypeId) : AtP (w.alloc (.cells (prI l).toArray t)) (some ⟨w.heap.size, 0, none⟩) l := fun j q hq => by
  have h := prI_get hq
  refine ⟨w.heap.size, rfl, by rw [size_alloc]; omega, ?_, ?_⟩
  · rw [cell_of_row _ _ _ _ _ _ (heap_alloc_new w _)]; simpa using h.1
  · rw [cell_of_row _ _ _ _ _ _ (heap_alloc_new w _)]; simpa using h.2
theorem AtI.lit (w : World) (l : List Int) (t : TypeId) : AtI (w.alloc (.cells (l.map (Value.int .i64)).toArray t)) (some ⟨w.heap.size, 0, none⟩) l := fun j q hq => by
  refine ⟨⟨w.heap.size, 0, none⟩, rfl, by show w.heap.size < _; rw [size_alloc]; omega, ?_⟩
  rw [Addr.add_mid, cell_of_row _ _ _ _ _ _ (heap_alloc_new w _), Nat.zero_add]
  simp [hq]
set_option maxRecDepth 100000 in
theorem hash8_any (s : ByteArray) (hs : s.size ≤ 140737488355000) (w : World) : Calls Tryz.prog 14 #[.string s] w fun r w' => r = .returned (sv (Sha.sha s.data.toList)) ∧ Below w.heap.size w w' := by
  have i1 := fun w' => rsum_any s (by omega) w'
  obtain ⟨D, hD⟩ : ∃ D : ByteArray, Hid (sv (Sha.sha s.data.toList) = .string D) := ⟨_, rfl⟩
  rw [hD.out] at i1 ⊢
  go_enter Tryz.func14, Tryz.ntmps14
  go_wp2_with (go_at_call 37; refine (i1 _).mono ?_; rintro e w' ⟨rfl, hw⟩)
  go_ret
  exact ⟨rfl, hw⟩
end Go.Proofs.YtenklmjeeejfdaaGreatDoor

namespace Go.Proofs.YtenklmjeeejfdaaGreatDoor
open Go.RowKit Go.Shelf
namespace Tree
end Tree
set_option maxRecDepth 100000 in
set_option maxHeartbeats 2000000 in
theorem rMiddle_at (b e m : Nat) (h2 : 2 ≤ e - b) (he : e ≤ 1099511627776) (hm : Hid (m = b + Tree.sp (e - b))) (w : World) :
    Calls Tryz.prog 69 #[sg b e] w fun r w' => r = .returned (.int .i64 (m : Int)) ∧ Below w.heap.size w w' := by
  obtain ⟨n, hn⟩ : ∃ n, Hid (e - b = n) := ⟨_, rfl⟩
  have S0 := SpI.new w b e
  have B0 := (Below.refl _ w).alloc (Nat.le_refl _) (.cells #[.int .i64 (b : Int), .int .i64 (e : Int)] 56)
  have c0 := S0.c0
  have c1 := S0.c1
  have hn2 : 2 ≤ n := by rw [← hn.out]; exact h2
  have hn3 : n ≤ 1099511627776 := by have := hn.out; omega
  have q0 : (e : Int) - (b : Int) = (n : Int) := by have := hn.out; omega
  have q1 : IntKind.i64.wrap ((e : Int) - (b : Int)) = (n : Int) := by rw [IntKind.wrap_i64]; omega
  rw [hn.out] at hm
  go_enter Tryz.func69, Tryz.ntmps69
  go_wp2
  clear q0 q1
  go_loopw [4] (fun k w' => ∃ a x : Nat, Hid (2 ^ a = x) ∧ k = .int .i64 (x : Int) ∧ x < n ∧ 0 < x ∧ w' = w.alloc (.cells #[.int .i64 (b : Int), .int .i64 (e : Int)] 56)) (fun k _ => n - (intOf k).toNat)
  case atStart => exact ⟨0, 1, rfl, rfl, by omega, by omega, rfl⟩
  case round =>
    obtain ⟨a, x, hx, rfl, hlt, hpos, rfl⟩ := hrel
    by_cases hk : 2 * (x : Int) < n
    · go_wp2
      exact ⟨⟨a + 1, 2 * x, by rw [Hid, Nat.pow_succ, hx.out, Nat.mul_comm], by go_num, by omega, by omega, trivial⟩, by simp [intOf]; omega⟩
    · have em := hid (show Tree.sp n = x by rw [Tree.sp_one hn2 a (by rw [hx.out]; omega) (by rw [hx.out]; omega), hx.out])
      have q2 : IntKind.i64.wrap ((b : Int) + (x : Int)) = (m : Int) := by rw [hm.out, em.out, IntKind.wrap_i64]; have := hn.out; omega
      go_wp2
      go_ret
      exact ⟨rfl, B0⟩
end Go.Proofs.YtenklmjeeejfdaaGreatDoor

/- THE PLAIN MATHEMATICS OF LAYER 8: spans that lie apart, walked from the left; nothing of the program. -/
namespace Go.Proofs.YtenklmjeeejfdaaGreatDoor
namespace Tree
end Tree
end Go.Proofs.YtenklmjeeejfdaaGreatDoor

namespace Go.Proofs.YtenklmjeeejfdaaGreatDoor
open Go.RowKit Go.Shelf
abbrev pm (L : List (Nat × Nat)) : List (Int × Int) := L.map fun s => ((s.1 : Int), (s.2 : Int))
end Go.Proofs.YtenklmjeeejfdaaGreatDoor

namespace Go.Proofs.YtenklmjeeejfdaaGreatDoor
open Go.RowKit Go.Shelf
def Mk (w : World) (v : Value) (m : Int) : Prop := ∃ a n c, v = .slice a n c ∧ n ≤ 9223372036854775807 ∧ ∀ j, j < n → ∃ g, a = some ⟨g, 0, none⟩ ∧ g < w.heap.size ∧ w.cell? ⟨g, j * 2, none⟩ = some (.int .i64 m) ∧ w.cell? ⟨g, j * 2 + 1, none⟩ = some (.int .i64 0)
end Go.Proofs.YtenklmjeeejfdaaGreatDoor

namespace Go.Proofs.YtenklmjeeejfdaaGreatDoor
open Go.RowKit Go.Shelf
theorem Wr.bel {ρ : Nat → Nat} {r B0 : Nat} {w0 w w' : World} (h : Wr ρ r w w') (hb : Below B0 w0 w) (hB : B0 ≤ w0.heap.size) (hl : ∀ k, k < B0 → ρ k = 0) (hr : r ≠ 0) : Below B0 w0 w' :=
  hb.trans ⟨h.os, h.tape, h.output, h.size, fun k hk => h.block k (by have := hb.size; omega) (by rw [hl k hk]; exact fun e => hr e.symm)⟩
end Go.Proofs.YtenklmjeeejfdaaGreatDoor

namespace Go.Proofs.YtenklmjeeejfdaaGreatDoor
open Go.RowKit Go.Shelf
namespace Chn
namespace Gb
structure Cb (mk : Nat → Value) (B0 X gh gw : Nat) (F : Value → Array Value) (hv wv : List Value) (Ws : List (List Value)) (w0 : World) (ρ : Nat → Nat) (w : World) (p : Nat) (vl : Value) (ls : List Value) : Prop where
  bel : Below B0 w0 w
  low : ∀ k, k < B0 → ρ k = 0
  fr0 : ∀ k, k < w0.heap.size → ρ k = 0 → w.heap[k]? = w0.heap[k]?
  row : w.heap[X]? = some (.cells (F vl) 32 (0, 0))
  rX : ρ X = 1
  hr : w.rangeAt gh 0 hv
  rh : ρ gh = 0
  lh : gh < w.heap.size
  wr : w.rangeAt gw 0 wv
  rw_ : ρ gw = 0
  lw : gw < w.heap.size
  want : ∀ (j : Nat) (W : List Value), Ws[j]? = some W → ∃ a c, wv[j]? = some (.slice a W.length c) ∧ AtV w a W ∧ ∀ x : Addr, a = some x → x.block < w.heap.size ∧ ρ x.block = 0
  own : ∀ (j : Nat) (W : List Value), p ≤ j → Ws[j]? = some W → ∃ v, hv[j]? = some v ∧ OwnM 1 w v W.length W ∧ ∀ k, v.ownBlock = some k → ρ k = 3 + j
  ol : OwnM 1 w vl ls.length ls
  rl : ∀ k, vl.ownBlock = some k → ρ k = 2
  mrk : ∀ (t : Nat) (v : Value), ls[t]? = some v → MkV w v (mk (t / 40)) ∧ ∀ k, v.ownBlock = some k → k < w.heap.size ∧ ρ k = 3 + t / 40
theorem Cb.step {mk : Nat → Value} {B0 X gh gw : Nat} {F : Value → Array Value} {hv wv : List Value} {Ws : List (List Value)} {w0 w w' : World} {ρ : Nat → Nat} {p p' r : Nat} {vl : Value} {ls : List Value} (h : Cb mk B0 X gh gw F hv wv Ws w0 ρ w p vl ls) (hB : B0 ≤ w0.heap.size) (hw : Wr ρ r w w') (h3 : 3 ≤ r) (hp : p ≤ p') (ρ' : Nat → Nat) (hρ : ∀ k, k < w.heap.size → ρ' k = ρ k)
    (hj : ∀ (j : Nat) (v : Value) (W : List Value), p' ≤ j → r = 3 + j → OwnM 1 w v W.length W → OwnM 1 w' v W.length W)
    (hm : ∀ (t : Nat) (v : Value), ls[t]? = some v → r = 3 + t / 40 → MkV w v (mk (t / 40)) → MkV w' v (mk (t / 40))) : Cb mk B0 X gh gw F hv wv Ws w0 ρ' w' p' vl ls where
  bel := hw.bel h.bel hB h.low (by omega)
  low := fun k hk => by rw [hρ k (by have := h.bel.size; omega)]; exact h.low k hk
  fr0 := fun k hk e => by
    have hs := h.bel.size
    rw [hρ k (by omega)] at e
    exact (hw.block k (by omega) (by omega)).trans (h.fr0 k hk e)
  row := (hw.block X (lt_of_heap h.row) (by rw [h.rX]; omega)).trans h.row
  rX := by rw [hρ X (lt_of_heap h.row)]; exact h.rX
  hr := rangeAt_heap h.hr (hw.block gh h.lh (by rw [h.rh]; omega))
  rh := by rw [hρ _ h.lh]; exact h.rh
  lh := Nat.lt_of_lt_of_le h.lh hw.size
  wr := rangeAt_heap h.wr (hw.block gw h.lw (by rw [h.rw_]; omega))
  rw_ := by rw [hρ _ h.lw]; exact h.rw_
  lw := Nat.lt_of_lt_of_le h.lw hw.size
  want := fun j W e => by
    obtain ⟨a, c, e1, e2, e3⟩ := h.want j W e
    exact ⟨a, c, e1, e2.kept hw.size (fun x hx hlt => hw.block _ hlt (by rw [(e3 x hx).2]; omega)), fun x hx => ⟨Nat.lt_of_lt_of_le (e3 x hx).1 hw.size, by rw [hρ _ (e3 x hx).1]; exact (e3 x hx).2⟩⟩
  own := fun j W hpj e => by
    obtain ⟨v, e1, e2, e3⟩ := h.own j W (by omega) e
    refine ⟨v, e1, ?_, fun k hk => by rw [hρ _ (e2.lt k hk)]; exact e3 k hk⟩
    by_cases hr : r = 3 + j
    · exact hj j v W hpj hr e2
    · exact e2.kept hw.size (fun g hg => hw.block g (e2.lt g hg) (by rw [e3 g hg]; exact fun e => hr e.symm))
  ol := h.ol.kept hw.size (fun g hg => hw.block g (h.ol.lt g hg) (by rw [h.rl g hg]; omega))
  rl := fun k hk => by rw [hρ _ (h.ol.lt k hk)]; exact h.rl k hk
  mrk := fun t v e => by
    obtain ⟨e1, e2⟩ := h.mrk t v e
    refine ⟨?_, fun k hk => ⟨Nat.lt_of_lt_of_le (e2 k hk).1 hw.size, by rw [hρ _ (e2 k hk).1]; exact (e2 k hk).2⟩⟩
    by_cases hr : r = 3 + t / 40
    · exact hm t v e hr e1
    · exact e1.kept hw.size (fun k hk hlt => hw.block k hlt (by rw [(e2 k hk).2]; exact fun e => hr e.symm))
theorem Cb.below {mk : Nat → Value} {B0 X gh gw : Nat} {F : Value → Array Value} {hv wv : List Value} {Ws : List (List Value)} {w0 w w' : World} {ρ : Nat → Nat} {p : Nat} {vl : Value} {ls : List Value} (h : Cb mk B0 X gh gw F hv wv Ws w0 ρ w p vl ls) (hB : B0 ≤ w0.heap.size) (hb : Below w.heap.size w w') : Cb mk B0 X gh gw F hv wv Ws w0 (rx ρ w 0) w' p vl ls :=
  h.step hB (Wr.below (r := 3) hb) (Nat.le_refl _) (Nat.le_refl _) _ (fun _ hk => rx_old hk) (fun _ _ _ _ _ e => e.below hb) (fun _ _ _ _ e => e.kept hb.size (fun k _ hlt => hb.block k hlt))
theorem Cb.push {mk : Nat → Value} {B0 X gh gw : Nat} {F : Value → Array Value} {hv wv : List Value} {Ws : List (List Value)} {w0 w w' : World} {ρ : Nat → Nat} {p ix : Nat} {vl vl' : Value} {ls : List Value} (h : Cb mk B0 X gh gw F hv wv Ws w0 ρ w p vl ls) (hB : B0 ≤ w0.heap.size) (hF : ∀ v v', (F v).setIfInBounds ix v' = F v')
    (hg : Grow w w' vl vl') {u : Value} (ho : OwnM 1 w' vl' (ls.length + 1) (ls ++ [u])) (hu : MkV w u (mk (ls.length / 40))) (hur : ∀ k, u.ownBlock = some k → k < w.heap.size ∧ ρ k = 3 + ls.length / 40) :
    Cb mk B0 X gh gw F hv wv Ws w0 (rx ρ w 2) (w'.setCell ⟨X, ix, none⟩ vl') p vl' (ls ++ [u]) := by
  have hw : Wr ρ 2 w w' := Wr.grow hg h.rl
  have hXl := lt_of_heap h.row
  have hrX : rx ρ w 2 X = 1 := by rw [rx_old hXl]; exact h.rX
  have row1 := (hw.block X hXl (by rw [h.rX]; omega)).trans h.row
  have e0 := setCell_eq_setRow w' X ix (F vl) 32 (0, 0) vl' row1
  have hset : ∀ k, k ≠ X → (w'.setCell ⟨X, ix, none⟩ vl').heap[k]? = w'.heap[k]? := fun k hk => heap_setCell_other w' ⟨X, ix, none⟩ k vl' hk
  have hsz : (w'.setCell ⟨X, ix, none⟩ vl').heap.size = w'.heap.size := by simp [World.setCell]
  have both : ∀ k, k < w.heap.size → ρ k ≠ 2 → ρ k ≠ 1 → (w'.setCell ⟨X, ix, none⟩ vl').heap[k]? = w.heap[k]? := fun k hk h2 h1 => (hset k (fun e => h1 (by rw [e]; exact h.rX))).trans (hw.block k hk h2)
  have hs2 : w.heap.size ≤ (w'.setCell ⟨X, ix, none⟩ vl').heap.size := by rw [hsz]; exact hw.size
  constructor
  case bel => exact (hw.bel h.bel hB h.low (by omega)).setCell (p := ⟨X, ix, none⟩) (by
      show B0 ≤ X
      rcases Nat.lt_or_ge X B0 with e | e
      · have := h.low X e; rw [h.rX] at this; omega
      · exact e) _
  case low => exact fun k hk => by rw [rx_old (by have := h.bel.size; omega)]; exact h.low k hk
  case fr0 =>
    intro k hk e
    have hs := h.bel.size
    rw [rx_old (by omega)] at e
    exact (both k (by omega) (by omega) (by omega)).trans (h.fr0 k hk e)
  case row =>
    rw [e0, setRow_heap _ _ _ _ _ _ row1]
    exact congrArg (fun A => some (Obj.cells A 32 (0, 0))) (hF _ _)
  case rX => exact hrX
  case hr => exact rangeAt_heap h.hr (both gh h.lh (by rw [h.rh]; omega) (by rw [h.rh]; omega))
  case rh => rw [rx_old h.lh]; exact h.rh
  case lh => exact Nat.lt_of_lt_of_le h.lh hs2
  case wr => exact rangeAt_heap h.wr (both gw h.lw (by rw [h.rw_]; omega) (by rw [h.rw_]; omega))
  case rw_ => rw [rx_old h.lw]; exact h.rw_
  case lw => exact Nat.lt_of_lt_of_le h.lw hs2
  case want =>
    intro j W e
    obtain ⟨a, c, e1, e2, e3⟩ := h.want j W e
    exact ⟨a, c, e1, e2.kept hs2 (fun x hx hlt => both _ hlt (by rw [(e3 x hx).2]; omega) (by rw [(e3 x hx).2]; omega)), fun x hx => ⟨Nat.lt_of_lt_of_le (e3 x hx).1 hs2, by rw [rx_old (e3 x hx).1]; exact (e3 x hx).2⟩⟩
  case own =>
    intro j W hpj e
    obtain ⟨v, e1, e2, e3⟩ := h.own j W hpj e
    exact ⟨v, e1, e2.kept hs2 (fun g hg => both g (e2.lt g hg) (by rw [e3 g hg]; omega) (by rw [e3 g hg]; omega)), fun k hk => by rw [rx_old (e2.lt k hk)]; exact e3 k hk⟩
  case ol =>
    rw [List.length_append]
    refine OwnM.kept ho (Nat.le_of_eq hsz.symm) (fun g hg' => hset g (fun e => ?_))
    have := Wr.own hg h.rl h.ol.lt g hg'
    rw [e, hrX] at this
    omega
  case rl => exact Wr.own hg h.rl h.ol.lt
  case mrk =>
    intro t v e
    rw [List.getElem?_append] at e
    split at e
    · obtain ⟨e1, e2⟩ := h.mrk t v e
      exact ⟨e1.kept hs2 (fun k hk hlt => both k hlt (by rw [(e2 k hk).2]; omega) (by rw [(e2 k hk).2]; omega)), fun k hk => ⟨Nat.lt_of_lt_of_le (e2 k hk).1 hs2, by rw [rx_old (e2 k hk).1]; exact (e2 k hk).2⟩⟩
    · next hlt =>
      obtain rfl : t = ls.length := by
        have := (List.getElem?_eq_some_iff.1 e).1
        simp at this
        omega
      rw [Nat.sub_self] at e
      obtain rfl : u = v := Option.some.inj e
      exact ⟨hu.kept hs2 (fun k hk hlt => both k hlt (by rw [(hur k hk).2]; omega) (by rw [(hur k hk).2]; omega)), fun k hk => ⟨Nat.lt_of_lt_of_le (hur k hk).1 hs2, by rw [rx_old (hur k hk).1]; exact (hur k hk).2⟩⟩
end Gb
end Chn
end Go.Proofs.YtenklmjeeejfdaaGreatDoor
