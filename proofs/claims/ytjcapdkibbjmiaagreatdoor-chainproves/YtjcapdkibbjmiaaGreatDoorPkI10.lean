import Derived.Test.YtjcapdkibbjmiaaGreatDoorPkI9a
import Derived.Test.YtjcapdkibbjmiaaGreatDoorPkCP9
namespace Go.Proofs.YtjcapdkibbjmiaaGreatDoor
open Go.RowKit
theorem goUpProof_any (m n : Nat) (h1 : 1 ≤ m) (h2 : m < n) (hn : n ≤ 1099511627776) (old : List UInt8) (proof : List (List UInt8)) (a : Option Addr) (cap : Nat) (w : World) (hlen : proof.length = Tree.pl m n true) (hA : At w a proof) (T : Tabs w) :
    Calls Tryz.prog 106 #[wy (Tree.St (m - 1) (n - 1)).1 (Tree.St (m - 1) (n - 1)).2, sv old, .slice a proof.length cap] w fun e w' => e = .returned (.tuple #[sv (Tree.bth m n true old proof).1, sv (Tree.bth m n true old proof).2]) ∧ Below w.heap.size w w' := by
  have hlt := Tree.St_lt (m - 1) (n - 1) (by omega)
  have hle := Tree.St_le (m - 1) (n - 1)
  obtain ⟨P, L, hS⟩ : ∃ P L, Tree.St (m - 1) (n - 1) = (P, L) := ⟨_, _, rfl⟩
  have e := Tree.pl_St h1 h2 hS
  obtain ⟨eP, eF⟩ := Tree.PD_SU _ m n (Nat.le_refl _) h1 h2
  have eP' : Tree.PD m n = Tree.U P L := by rw [eP]; unfold Tree.SU; rw [hS]
  rw [hS] at hlt hle eF ⊢
  simp only at hlt hle eF ⊢
  have hul := Tree.U_len 40 P L (by omega)
  rw [e] at hlen
  by_cases hP : P = 0
  · have hf : ¬ Tree.fl m n true = true := by unfold Tree.fl; rw [eF]; simp [hP]
    have hb : Tree.bth m n true old proof = Tree.upd2 old old (Tree.U P L) proof := by unfold Tree.bth; rw [if_neg hf, eP']
    rw [hb]
    rw [if_pos hP] at hlen
    exact goUpProof_zero P L hP old proof a cap w (by omega) (by omega) hA T (by omega)
  · have hf : Tree.fl m n true = true := by unfold Tree.fl; rw [eF]; simp [hP]
    rw [if_neg hP] at hlen
    match proof, hlen, hA with
    | h :: t, hlen, hA =>
      have hb : Tree.bth m n true old (h :: t) = Tree.upd2 h h (Tree.U P L) t := by unfold Tree.bth; rw [if_pos hf, eP']; rfl
      rw [hb]
      have hl1 : (h :: t).length = t.length + 1 := rfl
      have hne := Tree.U_ne L P (by omega) (by omega)
      have ht : 1 ≤ t.length := by
        rcases Nat.eq_zero_or_pos (Tree.U P L).length with h0 | h0
        · exact absurd (List.length_eq_zero_iff.1 h0) hne
        · omega
      exact goUpProof_more P L old h t a cap w (by omega) hP (by omega) (by omega) hA T (by omega) ht
theorem str_ne' {a b : List UInt8} (h : a ≠ b) : ((ByteArray.mk a.toArray).toList == (ByteArray.mk b.toArray).toList) = false := by
  rw [ByteArray.toList_eq, ByteArray.toList_eq]
  show (a == b) = false
  simpa using h
theorem str_ne2 {a b : List UInt8} (h : a ≠ b) : ¬ (ByteArray.mk a.toArray).toList = (ByteArray.mk b.toArray).toList := by
  rw [ByteArray.toList_eq, ByteArray.toList_eq]
  exact h
def rootsOf4 (m n : Int) (old : List UInt8) (proof : List (List UInt8)) : (List UInt8 × List UInt8) × Int :=
  if (prfLen m n).2 = 0 then (if chk old proof (prfLen m n).1 = 0 then (Tree.bth m.toNat n.toNat true old proof, 0) else (([], []), chk old proof (prfLen m n).1)) else (([], []), (prfLen m n).2)
def conOf4 (m n : Int) (old now : List UInt8) (proof : List (List UInt8)) : Int :=
  if (rootsOf4 m n old proof).2 = 0 then (if now.length = 32 then (if (rootsOf4 m n old proof).1 = (old, now) then 0 else 44) else 42) else (rootsOf4 m n old proof).2
theorem prfLen_ok {m n : Int} (h : (prfLen m n).2 = 0) : 1 ≤ m ∧ m ≤ n ∧ n ≤ 1099511627776 ∧ prfLen m n = (((Tree.pl m.toNat n.toNat true : Nat) : Int), 0) := by
  unfold prfLen at h ⊢
  split at h
  · simp at h
  · rename_i h1
    refine ⟨by omega, by omega, by omega, ?_⟩
    rw [if_neg h1]
set_option maxRecDepth 100000 in
set_option maxHeartbeats 2000000 in
theorem RootsOf_any (m n : Int) (old : List UInt8) (proof : List (List UInt8)) (a : Option Addr) (cap : Nat) (w : World) (hc : proof.length ≤ 9223372036854775807) (hA : At w a proof) (T : Tabs w) :
    Calls Tryz.prog 79 #[.int .i64 m, .int .i64 n, sv old, .slice a proof.length cap] w fun e w' => e = .returned (.tuple #[sv (rootsOf4 m n old proof).1.1, sv (rootsOf4 m n old proof).1.2, .int .i64 (rootsOf4 m n old proof).2]) ∧ Below w.heap.size w w' := by
  have h1 := ProofLen_any m n w
  by_cases h : (prfLen m n).2 = 0
  · obtain ⟨a1, a2, a3, hl⟩ := prfLen_ok h
    have h2 := fun w1 (hb : Below w.heap.size w w1) => checkHashes_any old proof (prfLen m n).1 a cap w1 hc (hA.below hb (Nat.le_refl _))
    by_cases hk : chk old proof (prfLen m n).1 = 0
    · have ho : rootsOf4 m n old proof = (Tree.bth m.toNat n.toNat true old proof, 0) := by rw [rootsOf4, if_pos h, if_pos hk]
      rw [ho]
      rw [hk] at h2
      have hlen := (chk_len hk).1
      rw [hl] at hlen h1 h2
      simp only at hlen h1 h2
      by_cases he : m = n
      · subst he
        rw [Tree.bth_same]
        have b0 : (m == m) = true := by simp
        generalize (Tree.pl m.toNat m.toNat true : Nat) = L at *
        generalize proof.length = pl at *
        clear hA T hl hk h ho hlen
        go_enter Tryz.func79, Tryz.ntmps79
        go_wp2_with (first
          | (go_at_call 104; refine h1.mono ?_; rintro e w1 ⟨rfl, hw1⟩)
          | (go_at_call 105; refine (h2 _ hw1).mono ?_; rintro e w2 ⟨rfl, rfl⟩))
        go_ret3
        exact ⟨rfl, hw1⟩
      · have b0 : (m == n) = false := by simpa using he
        have h3 := fun w1 => proofWay_any m.toNat n.toNat (by omega) (by omega) (by omega) (by omega) w1
        rw [Int.toNat_of_nonneg (show 0 ≤ m by omega), Int.toNat_of_nonneg (show 0 ≤ n by omega)] at h3
        have h4 := fun w1 (hb : Below w.heap.size w w1) => goUpProof_any m.toNat n.toNat (by omega) (by omega) (by omega) old proof a cap w1 (by omega) (hA.below hb (Nat.le_refl _)) (T.below hb T.lt)
        generalize Tree.bth m.toNat n.toNat true old proof = X at *
        generalize (Tree.pl m.toNat n.toNat true : Nat) = L at *
        generalize Tree.St (m.toNat - 1) (n.toNat - 1) = S at *
        generalize proof.length = pl at *
        clear hA T hl hk h ho hlen
        go_enter Tryz.func79, Tryz.ntmps79
        go_wp2_with (first
          | (go_at_call 104; refine h1.mono ?_; rintro e w1 ⟨rfl, hw1⟩)
          | (go_at_call 105; refine (h2 _ hw1).mono ?_; rintro e w2 ⟨rfl, rfl⟩)
          | (go_at_call 107; refine (h3 _).mono ?_; rintro e w3 ⟨rfl, hw3⟩; have hb3 := hid (hw1.trans (hw3.mono hw1.size)))
          | (go_at_call 106; refine (h4 _ hb3.out).mono ?_; rintro e w4 ⟨rfl, hw4⟩))
        go_ret3
        exact ⟨rfl, hb3.out.trans (hw4.mono hb3.out.size)⟩
    · have ho : rootsOf4 m n old proof = (([], []), chk old proof (prfLen m n).1) := by rw [rootsOf4, if_pos h, if_neg hk]
      rw [ho, svE]
      rw [hl] at h1 h2 hk ⊢
      simp only at h1 h2 hk ⊢
      generalize (((Tree.pl m.toNat n.toNat true : Nat) : Int)) = L at *
      generalize chk old proof L = z at *
      have b0 : (z != 0) = true := by simpa using hk
      generalize proof.length = pl at *
      clear hA T hl ho h
      go_enter Tryz.func79, Tryz.ntmps79
      go_wp2_with (first
        | (go_at_call 104; refine h1.mono ?_; rintro e w1 ⟨rfl, hw1⟩)
        | (go_at_call 105; refine (h2 _ hw1).mono ?_; rintro e w2 ⟨rfl, rfl⟩))
      go_ret3
      exact ⟨rfl, hw1⟩
  · have ho : rootsOf4 m n old proof = (([], []), (prfLen m n).2) := by rw [rootsOf4, if_neg h]
    rw [ho, svE]
    generalize (prfLen m n).1 = y at *
    generalize (prfLen m n).2 = z at *
    have b0 : (z != 0) = true := by simpa using h
    generalize proof.length = pl at *
    clear hA T ho
    go_enter Tryz.func79, Tryz.ntmps79
    go_wp2_with (go_at_call 104; refine h1.mono ?_; rintro e w1 ⟨rfl, hw1⟩)
    go_ret3
    exact ⟨rfl, hw1⟩
set_option maxRecDepth 100000 in
set_option maxHeartbeats 2000000 in
theorem Consistency_any (m n : Int) (old now : List UInt8) (proof : List (List UInt8)) (a : Option Addr) (cap : Nat) (w : World) (hc : proof.length ≤ 9223372036854775807) (hA : At w a proof) (T : Tabs w) :
    Calls Tryz.prog 53 #[.int .i64 m, .int .i64 n, sv old, sv now, .slice a proof.length cap] w fun e w' => e = .returned (.int .i64 (conOf4 m n old now proof)) ∧ Below w.heap.size w w' := by
  have h1 := RootsOf_any m n old proof a cap w hc hA T
  have hs := sv_size now
  unfold conOf4
  generalize rootsOf4 m n old proof = o at *
  obtain ⟨⟨x, y⟩, z⟩ := o
  simp only at h1 ⊢
  generalize proof.length = pl at *
  clear hA T
  by_cases hz : z = 0
  · subst hz
    rw [if_pos rfl]
    by_cases h32 : now.length = 32
    · rw [if_pos h32]
      have i1 := isHash_at ⟨now.toArray⟩ true (by rw [hs]; simp [h32])
      by_cases hx : x = old
      · subst hx
        by_cases hy : y = now
        · subst hy
          rw [if_pos rfl]
          have e1 := str_eq x
          have e2 := str_eq y
          rw [show sv x = .string ⟨x.toArray⟩ from rfl] at h1 ⊢
          rw [show sv y = .string ⟨y.toArray⟩ from rfl] at h1 ⊢
          generalize ByteArray.mk x.toArray = R at *
          generalize ByteArray.mk y.toArray = R' at *
          go_enter Tryz.func53, Tryz.ntmps53
          go_wp2_with (first
            | (go_at_call 79; refine h1.mono ?_; rintro e w1 ⟨rfl, hw1⟩)
            | (go_at_call 80; refine (i1 _).mono ?_; rintro e w2 ⟨rfl, rfl⟩))
          go_ret
          exact ⟨rfl, hw1⟩
        · rw [if_neg (fun h => hy (congrArg Prod.snd h))]
          have e1 := str_eq x
          have e2 := str_ne hy
          have e3 := str_ne' hy
          have e4 := str_ne2 hy
          rw [show sv x = .string ⟨x.toArray⟩ from rfl] at h1 ⊢
          rw [show sv y = .string ⟨y.toArray⟩ from rfl] at h1
          rw [show sv now = .string ⟨now.toArray⟩ from rfl]
          generalize ByteArray.mk x.toArray = R at *
          generalize ByteArray.mk y.toArray = R1 at *
          generalize ByteArray.mk now.toArray = R2 at *
          go_enter Tryz.func53, Tryz.ntmps53
          go_wp2_with (first
            | (go_at_call 79; refine h1.mono ?_; rintro e w1 ⟨rfl, hw1⟩)
            | (go_at_call 80; refine (i1 _).mono ?_; rintro e w2 ⟨rfl, rfl⟩))
          go_ret
          exact ⟨rfl, hw1⟩
      · rw [if_neg (fun h => hx (congrArg Prod.fst h))]
        have e1 := str_ne hx
        have e3 := str_ne' hx
        have e4 := str_ne2 hx
        rw [show sv x = .string ⟨x.toArray⟩ from rfl] at h1
        rw [show sv y = .string ⟨y.toArray⟩ from rfl] at h1
        rw [show sv old = .string ⟨old.toArray⟩ from rfl] at h1 ⊢
        rw [show sv now = .string ⟨now.toArray⟩ from rfl]
        generalize ByteArray.mk x.toArray = R at *
        generalize ByteArray.mk y.toArray = R1 at *
        generalize ByteArray.mk now.toArray = R2 at *
        generalize ByteArray.mk old.toArray = R3 at *
        go_enter Tryz.func53, Tryz.ntmps53
        go_wp2_with (first
          | (go_at_call 79; refine h1.mono ?_; rintro e w1 ⟨rfl, hw1⟩)
          | (go_at_call 80; refine (i1 _).mono ?_; rintro e w2 ⟨rfl, rfl⟩))
        go_ret
        exact ⟨rfl, hw1⟩
    · rw [if_neg h32]
      have i1 := isHash_at ⟨now.toArray⟩ false (by rw [hs]; simp; try omega)
      rw [show sv now = .string ⟨now.toArray⟩ from rfl]
      generalize ByteArray.mk now.toArray = R2 at *
      go_enter Tryz.func53, Tryz.ntmps53
      go_wp2_with (first
        | (go_at_call 79; refine h1.mono ?_; rintro e w1 ⟨rfl, hw1⟩)
        | (go_at_call 80; refine (i1 _).mono ?_; rintro e w2 ⟨rfl, rfl⟩))
      go_ret
      exact ⟨rfl, hw1⟩
  · rw [if_neg hz]
    have b0 : (z != 0) = true := by simpa using hz
    go_enter Tryz.func53, Tryz.ntmps53
    go_wp2_with (go_at_call 79; refine h1.mono ?_; rintro e w1 ⟨rfl, hw1⟩)
    go_ret
    exact ⟨rfl, hw1⟩
end Go.Proofs.YtjcapdkibbjmiaaGreatDoor

namespace Go.Proofs.YtjcapdkibbjmiaaGreatDoor
open Go.RowKit Go.Shelf
namespace Chn
def ckC (hs : List Nat) (ps : List (List (List UInt8))) (R : List (List UInt8)) (i : Nat) : Int := conOf4 (hs.getD i 0 : Int) (hs.getD (i + 1) 0 : Int) (R.getD i []) (R.getD (i + 1) []) (ps.getD i [])
def ckA (hs : List Nat) (ps : List (List (List UInt8))) (R : List (List UInt8)) (n : Nat) : Bool := (List.range n).all fun i => decide (ckC hs ps R i = 0)
theorem ckA_next {hs : List Nat} {ps : List (List (List UInt8))} {R : List (List UInt8)} {n : Nat} : ckA hs ps R (n + 1) = (ckA hs ps R n && decide (ckC hs ps R n = 0)) := by
  unfold ckA
  rw [List.range_succ, List.all_append]
  simp
theorem ckA_not {hs : List Nat} {ps : List (List (List UInt8))} {R : List (List UInt8)} {k n : Nat} (hk : k < n) (h : ckC hs ps R k ≠ 0) : ckA hs ps R n = false := by
  cases e : ckA hs ps R n with
  | false => rfl
  | true =>
    unfold ckA at e
    rw [List.all_eq_true] at e
    exact absurd (of_decide_eq_true (e k (List.mem_range.2 hk))) h
def ckO (cs : List Int) (H R : List (List UInt8)) : Int := if exE cs H = 0 then (if R.length = cs.length ∧ hsB8 R = true then (if ckA (cs.map Int.toNat) (exL (cs.map Int.toNat) H) R (cs.length - 1) = true then 0 else 132) else 131) else exE cs H
theorem atGet {w : World} {a : Option Addr} {l : List (List UInt8)} (h : At w a l) {i : Nat} (hi : i < l.length) : ∃ x : Addr, a = some x ∧ x.block < w.heap.size ∧ w.cell? (x.add i) = some (sv (l.getD i [])) := by
  refine h i _ ?_
  rw [List.getD_eq_getElem?_getD, List.getElem?_eq_getElem hi]
  rfl
set_option maxRecDepth 100000 in
set_option maxHeartbeats 2000000 in
theorem checkC_bad (cs : List Int) (H : List (List UInt8)) (m k n : Nat) (hm : Hid (cs.length = m)) (hk : Hid (H.length = k)) (ac ah ar : Option Addr) (cc chp cr : Nat) (w : World) (hA : AtI w ac cs) (hAh : At w ah H) (lc : m ≤ 9223372036854775807) (lh : k ≤ 9223372036854775807) (he : exE cs H ≠ 0) :
    Calls Tryz.prog 23 #[ch (.slice ac m cc) (.slice ah k chp), .slice ar n cr] w fun r w' => r = .returned (.int .i64 (exE cs H)) ∧ Below w.heap.size w w' := by
  have b0 := (Below.refl w.heap.size w).alloc (Nat.le_refl _) (.cells #[.slice ac m cc, .slice ah k chp] 45)
  have i1 := expandC_bad cs H m k hm hk ac ah cc chp _ (hA.below b0 (Nat.le_refl _)) (hAh.below b0 (Nat.le_refl _)) lc lh he
  generalize exE cs H = E at *
  have h0 : (E != 0) = true := by simpa using he
  have h1 : ¬ E = 0 := he
  have B0 := hid b0
  clear hA hAh b0 hm hk
  go_enter Tryz.func23, Tryz.ntmps23
  go_wp2_with (go_at_call 21; refine i1.mono ?_; rintro r w1 ⟨rfl, b1⟩; have B1 := hid (B0.out.trans (b1.mono B0.out.size)); clear b1)
  go_ret
  exact ⟨rfl, B1.out⟩
set_option maxRecDepth 100000 in
set_option maxHeartbeats 2000000 in
theorem checkC_form (hs : List Nat) (HH : Hds hs) (H R : List (List UInt8)) (m k n : Nat) (hm : Hid (hs.length = m)) (hk : Hid (H.length = k)) (hn : Hid (R.length = n)) (HT : Hid ((told hs).length = k)) (ac ah ar : Option Addr) (cc chp cr : Nat) (w : World) (hA : AtI w ac (ix hs)) (hAh : At w ah H) (hAr : At w ar R) (hq : hsB8 H = true) (T : Tabs w) (ln : n ≤ 9223372036854775807) (he : ¬ (n = m ∧ hsB8 R = true)) :
    Calls Tryz.prog 23 #[ch (.slice ac m cc) (.slice ah k chp), .slice ar n cr] w fun r w' => r = .returned (.int .i64 131) ∧ Below w.heap.size w w' := by
  have b0 := (Below.refl w.heap.size w).alloc (Nat.le_refl _) (.cells #[.slice ac m cc, .slice ah k chp] 45)
  have S0 := hid (ChI.new w (.slice ac m cc) (.slice ah k chp))
  have i1 := expandC_ok hs HH H m k hm hk HT ac ah cc chp _ (hA.below b0 (Nat.le_refl _)) (hAh.below b0 (Nat.le_refl _)) hq (T.below b0 T.lt)
  have B0 := hid b0
  by_cases hl : n = m
  · have hr : hsB8 R = false := by
      cases hc : hsB8 R with
      | false => rfl
      | true => exact absurd ⟨hl, hc⟩ he
    have i2 := fun w' (bb : Below w.heap.size w w') => areHashes13_is R false hr ar cr w' (by rw [hn.out]; exact ln) (hAr.below bb (Nat.le_refl _))
    rw [hn.out] at i2
    subst hl
    have z0 : ((n : Int) != (n : Int)) = false := by simp
    have z1 : ((n : Int) == (n : Int)) = true := by simp
    clear hA hAh hAr b0 he hm hk hn hr hq T HT HH
    go_enter Tryz.func23, Tryz.ntmps23
    go_wp2_with (first
      | (go_at_call 21; refine i1.mono ?_; rintro r w1 ⟨G, gs, rfl, _, _, _, _, b1⟩; have B1 := hid (B0.out.trans (b1.mono B0.out.size)); have c1 := (S0.out.below b1).c0; clear b1)
      | (go_at_call 52; refine (i2 _ B1.out).mono ?_; rintro r w4 ⟨rfl, hw4⟩; have hw4 := hw4.symm; subst hw4))
    go_ret
    exact ⟨rfl, B1.out⟩
  · have z0 : ((n : Int) != (m : Int)) = true := by simp; omega
    have z1 : ((n : Int) == (m : Int)) = false := by simp; omega
    have z2 : ¬ (n : Int) = (m : Int) := by omega
    clear hA hAh hAr b0 he hm hk hn hq T HT HH
    go_enter Tryz.func23, Tryz.ntmps23
    go_wp2_with (go_at_call 21; refine i1.mono ?_; rintro r w1 ⟨G, gs, rfl, _, _, _, _, b1⟩; have B1 := hid (B0.out.trans (b1.mono B0.out.size)); have c1 := (S0.out.below b1).c0; clear b1)
    go_ret
    exact ⟨rfl, B1.out⟩
theorem zip_at {gs : List Nat} {ps : List (List (List UInt8))} (h : gs.length = ps.length) {j : Nat} (hj : j < ps.length) : ∃ g, gs[j]? = some g ∧ (List.zipWith lst gs ps)[j]? = some (lst g (ps.getD j [])) := by
  have hg : j < gs.length := by omega
  refine ⟨gs[j], List.getElem?_eq_getElem hg, ?_⟩
  rw [List.getElem?_zipWith, List.getElem?_eq_getElem hg, List.getElem?_eq_getElem hj, List.getD_eq_getElem?_getD, List.getElem?_eq_getElem hj]
  rfl
theorem Row.at13 {w : World} {g : Nat} {l : List (List UInt8)} (h : Row w g l) : At w (some ⟨g, 0, none⟩) l := fun j p hp => by
  refine ⟨⟨g, 0, none⟩, rfl, h.lt, ?_⟩
  rw [Addr.add_mid, Nat.zero_add, cell_of_row _ _ _ _ _ _ h]
  simp [svs, hp]
theorem exL_few {hs : List Nat} (HH : Hds hs) (H : List (List UInt8)) (j : Nat) : ((exL hs H).getD j []).length ≤ 41 := by
  rw [List.getD_eq_getElem?_getD]
  by_cases hj : j < (exL hs H).length
  · rw [List.getElem?_eq_getElem hj]
    have hj' : j < hs.length - 1 := by simpa [exL] using hj
    have hp := HH.pair (i := j) (by omega)
    have := prf_len hp.1 (Nat.le_of_lt hp.2.1) hp.2.2
    simpa [exL, exP] using this
  · rw [List.getElem?_eq_none (by omega)]; simp
set_option maxRecDepth 100000 in
set_option maxHeartbeats 4000000 in
theorem checkC_ok (hs : List Nat) (HH : Hds hs) (H R : List (List UInt8)) (m k : Nat) (hm : Hid (hs.length = m)) (hk : Hid (H.length = k)) (hn : Hid (R.length = m)) (HT : Hid ((told hs).length = k)) (ac ah ar : Option Addr) (cc chp cr : Nat) (w : World) (hA : AtI w ac (ix hs)) (hAh : At w ah H) (hAr : At w ar R) (hq : hsB8 H = true) (hr : hsB8 R = true) (T : Tabs w) :
    Calls Tryz.prog 23 #[ch (.slice ac m cc) (.slice ah k chp), .slice ar m cr] w fun r w' => r = .returned (.int .i64 (if ckA hs (exL hs H) R (m - 1) = true then 0 else 132)) ∧ Below w.heap.size w w' := by
  have b0 := (Below.refl w.heap.size w).alloc (Nat.le_refl _) (.cells #[.slice ac m cc, .slice ah k chp] 45)
  have S0 := hid (ChI.new w (.slice ac m cc) (.slice ah k chp))
  have i1 := expandC_ok hs HH H m k hm hk HT ac ah cc chp _ (hA.below b0 (Nat.le_refl _)) (hAh.below b0 (Nat.le_refl _)) hq (T.below b0 T.lt)
  have B0 := hid b0
  have lm : m ≤ 64 := by rw [← hm.out]; exact HH.le
  have lm1 : 1 ≤ m := by rw [← hm.out]; exact HH.ne
  have i2 := fun w' (bb : Below w.heap.size w w') => areHashes13_is R true hr ar cr w' (by rw [hn.out]; omega) (hAr.below bb (Nat.le_refl _))
  rw [hn.out] at i2
  obtain ⟨x, rfl⟩ := hA.pos (by simp [ix]; rw [hm.out]; omega)
  obtain ⟨y, rfl, _, _⟩ := atGet hAr (i := 0) (by rw [hn.out]; omega)
  have HA := hid (fun w' (bb : Below w.heap.size w w') => hA.below bb (Nat.le_refl _))
  have HR := hid (fun w' (bb : Below w.heap.size w w') => hAr.below bb (Nat.le_refl _))
  have TT := hid (fun w' (bb : Below w.heap.size w w') => T.below bb T.lt)
  have few := hid (exL_few HH H)
  have hpl : Hid ((exL hs H).length = m - 1) := by unfold Hid; rw [← hm.out]; simp [exL]
  have z0 : ((m : Int) != (m : Int)) = false := by simp
  have z1 : ((m : Int) == (m : Int)) = true := by simp
  obtain ⟨V, hV⟩ : ∃ V : Int, Hid ((if ckA hs (exL hs H) R (m - 1) = true then (0 : Int) else 132) = V) := ⟨_, rfl⟩
  rw [hV.out]
  generalize exL hs H = ps at *
  have v1 : IntKind.i64.wrap ((m : Int) - 1) = (m : Int) - 1 := by rw [IntKind.wrap_i64]; omega
  have v2 : (m : Int) - 1 = ((m - 1 : Nat) : Int) := by omega
  obtain ⟨M, hM⟩ : ∃ M, m - 1 = M := ⟨_, rfl⟩
  have HMM := hid hM
  rw [hM] at v2
  clear hA hAh hAr b0 hk hq hr T HT HH hM
  go_enter Tryz.func23, Tryz.ntmps23
  go_wp2_with (first
    | (go_at_call 21; refine i1.mono ?_; rintro r w1 ⟨G, gs, rfl, rv, gl, ls, _, b1⟩; have B1 := hid (B0.out.trans (b1.mono B0.out.size)); have S1 := hid (S0.out.below b1); have c1 := S1.out.c0; have RV := hid rv; have GL := hid gl; have LS := hid ls; clear b1 rv gl ls)
    | (go_at_call 52; refine (i2 _ B1.out).mono ?_; rintro r w4 ⟨rfl, hw4⟩; have hw4 := hw4.symm; subst hw4))
  clear i1 i2 c1 S0 B0
  go_loopw [7, 33] (fun _ i w' => ∃ j : Nat, j ≤ M ∧ i = .int .i64 (j : Int) ∧ Hid (ckA hs ps R j = true) ∧ Hid (Below w1.heap.size w1 w')) (fun _ i _ => M - (intOf i).toNat)
  case atStart => exact ⟨0, by omega, rfl, rfl, Below.refl _ _⟩
  case round =>
    obtain ⟨j, hj, rfl, hck, hbw⟩ := hrel
    have bww := B1.out.trans (hbw.out.mono B1.out.size)
    by_cases hjm : j < M
    · have e0 : (j : Int) < (M : Int) := by omega
      have hmm := HMM.out
      have hj1 : j + 1 < hs.length := by rw [hm.out]; omega
      have hj0 : j < hs.length := by omega
      have hjp : j < ps.length := by rw [hpl.out]; omega
      obtain ⟨g, hg1, hg2⟩ := zip_at GL.out hjp
      have hrow := LS.out.row j g (ps.getD j []) hg1 (by rw [List.getD_eq_getElem?_getD, List.getElem?_eq_getElem hjp]; rfl)
      have hgw := (LS.out.ge g (List.mem_of_getElem? hg1)).2
      have fact : ∀ w', Below w1.heap.size w1 w' → w'.cell? ⟨w.heap.size, 0, none⟩ = some (.slice (some x) m cc) ∧ w'.cell? (x.add j) = some (.int .i64 (hs.getD j 0 : Int)) ∧ w'.cell? ⟨x.block, x.off + (j + 1), none⟩ = some (.int .i64 (hs.getD (j + 1) 0 : Int)) ∧ w'.cell? (y.add j) = some (.string ⟨(R.getD j []).toArray⟩) ∧ w'.cell? ⟨y.block, y.off + (j + 1), none⟩ = some (.string ⟨(R.getD (j + 1) []).toArray⟩) ∧ w'.cell? ⟨G, j, none⟩ = some (.slice (some ⟨g, 0, none⟩) (ps.getD j []).length (ps.getD j []).length) := fun w' hb' => by
        have bw' := B1.out.trans (hb'.mono B1.out.size)
        obtain ⟨a1, h1, _, q1⟩ := (HA.out _ bw') j _ (ix_at hj0)
        obtain ⟨a2, h2, _, q2⟩ := (HA.out _ bw') (j + 1) _ (ix_at hj1)
        obtain ⟨a3, h3, _, q3⟩ := atGet (HR.out _ bw') (i := j) (by rw [hn.out]; omega)
        obtain ⟨a4, h4, _, q4⟩ := atGet (HR.out _ bw') (i := j + 1) (by rw [hn.out]; omega)
        obtain rfl := Option.some.inj h1
        obtain rfl := Option.some.inj h2
        obtain rfl := Option.some.inj h3
        obtain rfl := Option.some.inj h4
        refine ⟨(S1.out.below hb').c0, q1, ?_, q3, ?_, (RV.out.below hb' RV.out.lt).cell hg2⟩
        · rw [← q2]; simp [Addr.add]
        · rw [show (.string ⟨(R.getD (j + 1) []).toArray⟩ : Value) = sv (R.getD (j + 1) []) from rfl, ← q4]; simp [Addr.add]
      have x0 := fact _ hbw.out
      have HF := hid fact
      have i3 := Consistency_any (hs.getD j 0 : Int) (hs.getD (j + 1) 0 : Int) (R.getD j []) (R.getD (j + 1) []) (ps.getD j []) (some ⟨g, 0, none⟩) (ps.getD j []).length wr.drew (by have := few.out j; omega) ((Row.at13 (hrow.below hbw.out hgw)).below (Below.refl _ _).drew (Nat.le_refl _)) (TT.out _ bww.drew)
      have hC : ckC hs ps R j = conOf4 (hs.getD j 0 : Int) (hs.getD (j + 1) 0 : Int) (R.getD j []) (R.getD (j + 1) []) (ps.getD j []) := rfl
      rw [← hC] at i3
      clear hC
      unfold Hid at HF
      rw [show sv (R.getD j []) = Value.string ⟨(R.getD j []).toArray⟩ from rfl, show sv (R.getD (j + 1) []) = Value.string ⟨(R.getD (j + 1) []).toArray⟩ from rfl] at i3
      have hnx := hid (ckA_next (hs := hs) (ps := ps) (R := R) (n := j))
      have hno := hid (fun h => ckA_not (hs := hs) (ps := ps) (R := R) (k := j) (n := M) hjm h)
      obtain ⟨E, hE⟩ : ∃ E, ckC hs ps R j = E := ⟨_, rfl⟩
      unfold Hid at hnx hno
      rw [hE] at i3 hnx hno
      have hnx := hid hnx
      have hno := hid hno
      generalize hs.getD j 0 = a at *
      generalize hs.getD (j + 1) 0 = c at *
      generalize (⟨(R.getD j []).toArray⟩ : ByteArray) = ra at *
      generalize (⟨(R.getD (j + 1) []).toArray⟩ : ByteArray) = rb at *
      generalize (ps.getD j []).length = nl at *
      have HF := hid HF
      have v3 : IntKind.i64.wrap ((j : Int) + 1) = (j : Int) + 1 := by rw [IntKind.wrap_i64]; omega
      have v4 : ((j : Int) + 1).toNat = j + 1 := by omega
      have v5 : (0 : Int) ≤ (j : Int) + 1 := by omega
      have v6 : (j : Int) + 1 < (m : Int) := by omega
      have v7 : (j : Int) < (m : Int) := by omega
      have v8 : (0 : Int) ≤ (j : Int) := by omega
      have v9 : (j : Int) < ((ps.length : Nat) : Int) := by omega
      clear fact hg1 hg2 hrow hE
      by_cases h0 : E = 0
      · have hck2 : Hid (ckA hs ps R (j + 1) = true) := by unfold Hid; rw [hnx.out, hck.out, decide_eq_true h0]; rfl
        have q0 : (E != 0) = false := by simp [h0]
        have q1 : (E == 0) = true := by simp [h0]
        clear hck hnx hno
        subst h0
        go_wp2
        go_region_held3 (fun w' => w'.cell? ⟨w.heap.size, 0, none⟩ = some (.slice (some x) m cc) ∧ w'.cell? (x.add j) = some (.int .i64 (a : Int)) ∧ w'.cell? ⟨x.block, x.off + (j + 1), none⟩ = some (.int .i64 (c : Int)) ∧ w'.cell? (y.add j) = some (.string ra) ∧ w'.cell? ⟨y.block, y.off + (j + 1), none⟩ = some (.string rb) ∧ w'.cell? ⟨G, j, none⟩ = some (.slice (some ⟨g, 0, none⟩) nl nl)) (first | exact x1 | exact x0) (first | (go_at_call 53; refine i3.mono ?_; rintro r w3 ⟨rfl, b3⟩; have b3 := drewBelow8 b3; have B3 := hid (hbw.out.trans (b3.mono hbw.out.size)); have x1 := HF.out _ B3.out; clear b3))
        go_wp2
        exact ⟨⟨j + 1, by omega, by go_num, hck2, B3⟩, by simp [intOf]; omega⟩
      · have eV : Hid (V = 132) := by unfold Hid; rw [← hV.out, if_neg]; rw [HMM.out, hno.out h0]; simp
        have q0 : (E != 0) = true := by simpa using h0
        have q1 : (E == 0) = false := by simpa using h0
        clear hck hnx hno
        go_wp2
        go_region_held3 (fun w' => w'.cell? ⟨w.heap.size, 0, none⟩ = some (.slice (some x) m cc) ∧ w'.cell? (x.add j) = some (.int .i64 (a : Int)) ∧ w'.cell? ⟨x.block, x.off + (j + 1), none⟩ = some (.int .i64 (c : Int)) ∧ w'.cell? (y.add j) = some (.string ra) ∧ w'.cell? ⟨y.block, y.off + (j + 1), none⟩ = some (.string rb) ∧ w'.cell? ⟨G, j, none⟩ = some (.slice (some ⟨g, 0, none⟩) nl nl)) (first | exact x1 | exact x0) (first | (go_at_call 53; refine i3.mono ?_; rintro r w3 ⟨rfl, b3⟩; have b3 := drewBelow8 b3; have B3 := hid (hbw.out.trans (b3.mono hbw.out.size)); have x1 := HF.out _ B3.out; clear b3))
        go_wp2
        go_ret
        exact ⟨by rw [eV.out]; rfl, B1.out.trans (B3.out.mono B1.out.size)⟩
    · obtain rfl : j = M := by omega
      have e0 : ¬ (j : Int) < (j : Int) := by omega
      have eV : Hid (V = 0) := by unfold Hid; rw [← hV.out, if_pos]; rw [HMM.out]; exact hck.out
      go_wp2
      go_ret
      exact ⟨by rw [eV.out]; rfl, bww⟩
theorem checkC_any (cs : List Int) (H R : List (List UInt8)) (m k n : Nat) (hm : Hid (cs.length = m)) (hk : Hid (H.length = k)) (hn : Hid (R.length = n)) (ac ah ar : Option Addr) (cc chp cr : Nat) (w : World) (hA : AtI w ac cs) (hAh : At w ah H) (hAr : At w ar R) (T : Tabs w) (lc : m ≤ 9223372036854775807) (lh : k ≤ 9223372036854775807) (ln : n ≤ 9223372036854775807) :
    Calls Tryz.prog 23 #[ch (.slice ac m cc) (.slice ah k chp), .slice ar n cr] w fun r w' => r = .returned (.int .i64 (ckO cs H R)) ∧ Below w.heap.size w w' := by
  by_cases he : exE cs H = 0
  · obtain ⟨hs, rfl, HH, h1, h2⟩ := exE_ok he
    have hl : hs.length = m := by rw [← hm.out]; simp [ix]
    have e1 : ckO (ix hs) H R = if n = m ∧ hsB8 R = true then (if ckA hs (exL hs H) R (m - 1) = true then 0 else 132) else 131 := by
      unfold ckO
      rw [if_pos he, ix_toN, hn.out, hm.out]
    rw [e1]
    by_cases hc : n = m ∧ hsB8 R = true
    · rw [if_pos hc]
      obtain ⟨rfl, hr⟩ := hc
      exact checkC_ok hs HH H R n k hl hk hn (show (told hs).length = k by rw [← h1, hk.out]) ac ah ar cc chp cr w hA hAh hAr h2 hr T
    · rw [if_neg hc]
      exact checkC_form hs HH H R m k n hl hk hn (show (told hs).length = k by rw [← h1, hk.out]) ac ah ar cc chp cr w hA hAh hAr h2 T ln hc
  · have e1 : ckO cs H R = exE cs H := by unfold ckO; rw [if_neg he]
    rw [e1]
    exact checkC_bad cs H m k n hm hk ac ah ar cc chp cr w hA hAh lc lh he
end Chn
end Go.Proofs.YtjcapdkibbjmiaaGreatDoor
