import Derived.Test.YthoekndjeclimaaGreatDoorCI8
import Derived.Test.YthoekndjeclimaaGreatDoorCI9c
import Derived.Deep.RegionHeld3
import Derived.Deep.DeepCutAuto
import Derived.Test.YthoekndjeclimaaGreatDoorCO28
namespace Go.Proofs.YthoekndjeclimaaGreatDoor
open Go.RowKit
theorem goUpProof_any (m n : Nat) (h1 : 1 ≤ m) (h2 : m < n) (hn : n ≤ 1099511627776) (old : List UInt8) (proof : List (List UInt8)) (a : Option Addr) (cap : Nat) (w : World) (hlen : proof.length = Tree.pl m n true) (hA : At w a proof) (T : Tabs w) :
    Calls Tryz.prog 83 #[wy (Tree.St (m - 1) (n - 1)).1 (Tree.St (m - 1) (n - 1)).2, sv old, .slice a proof.length cap] w fun e w' => e = .returned (.tuple #[sv (Tree.bth m n true old proof).1, sv (Tree.bth m n true old proof).2]) ∧ Below w.heap.size w w' := by
  have hlt := Tree.St_lt (m - 1) (n - 1) (by omega)
  have hle := Tree.St_le (m - 1) (n - 1)
  obtain ⟨P, L, hS⟩ : ∃ P L, Tree.St (m - 1) (n - 1) = (P, L) := ⟨_, _, rfl⟩
  have e := Tree.pl_St h1 h2 hS
  obtain ⟨eP, eF⟩ := Tree.PD_SU _ m n (Nat.le_refl _) h1 h2
  have eP' : Tree.PD m n = Tree.U P L := by rw [eP]; unfold Tree.SU; rw [hS]
  rw [hS] at hlt hle eF ⊢
  simp only at hlt hle eF ⊢
  have hul := Tree.U_len 40 P L (by omega)
  rw [e] at hlen
  by_cases hP : P = 0
  · have hf : ¬ Tree.fl m n true = true := by unfold Tree.fl; rw [eF]; simp [hP]
    have hb : Tree.bth m n true old proof = Tree.upd2 old old (Tree.U P L) proof := by unfold Tree.bth; rw [if_neg hf, eP']
    rw [hb]
    rw [if_pos hP] at hlen
    exact goUpProof_zero P L hP old proof a cap w (by omega) (by omega) hA T (by omega)
  · have hf : Tree.fl m n true = true := by unfold Tree.fl; rw [eF]; simp [hP]
    rw [if_neg hP] at hlen
    match proof, hlen, hA with
    | h :: t, hlen, hA =>
      have hb : Tree.bth m n true old (h :: t) = Tree.upd2 h h (Tree.U P L) t := by unfold Tree.bth; rw [if_pos hf, eP']; rfl
      rw [hb]
      have hl1 : (h :: t).length = t.length + 1 := rfl
      have hne := Tree.U_ne L P (by omega) (by omega)
      have ht : 1 ≤ t.length := by
        rcases Nat.eq_zero_or_pos (Tree.U P L).length with h0 | h0
        · exact absurd (List.length_eq_zero_iff.1 h0) hne
        · omega
      exact goUpProof_more P L old h t a cap w (by omega) hP (by omega) (by omega) hA T (by omega) ht
theorem str_ne' {a b : List UInt8} (h : a ≠ b) : ((ByteArray.mk a.toArray).toList == (ByteArray.mk b.toArray).toList) = false := by
  rw [ByteArray.toList_eq, ByteArray.toList_eq]
  show (a == b) = false
  simpa using h
theorem str_ne2 {a b : List UInt8} (h : a ≠ b) : ¬ (ByteArray.mk a.toArray).toList = (ByteArray.mk b.toArray).toList := by
  rw [ByteArray.toList_eq, ByteArray.toList_eq]
  exact h
/-- V3 -/
def rootsOf4 (m n : Int) (old : List UInt8) (proof : List (List UInt8)) : (List UInt8 × List UInt8) × Int :=
  if (prfLen m n).2 = 0 then (if chk old proof (prfLen m n).1 = 0 then (Tree.bth m.toNat n.toNat true old proof, 0) else (([], []), chk old proof (prfLen m n).1)) else (([], []), (prfLen m n).2)
def conOf4 (m n : Int) (old now : List UInt8) (proof : List (List UInt8)) : Int :=
  if (rootsOf4 m n old proof).2 = 0 then (if now.length = 32 then (if (rootsOf4 m n old proof).1 = (old, now) then 0 else 44) else 42) else (rootsOf4 m n old proof).2
theorem prfLen_ok {m n : Int} (h : (prfLen m n).2 = 0) : 1 ≤ m ∧ m ≤ n ∧ n ≤ 1099511627776 ∧ prfLen m n = (((Tree.pl m.toNat n.toNat true : Nat) : Int), 0) := by
  unfold prfLen at h ⊢
  split at h
  · simp at h
  · rename_i h1
    refine ⟨by omega, by omega, by omega, ?_⟩
    rw [if_neg h1]
set_option maxRecDepth 100000 in
set_option maxHeartbeats 2000000 in
theorem RootsOf_any (m n : Int) (old : List UInt8) (proof : List (List UInt8)) (a : Option Addr) (cap : Nat) (w : World) (hc : proof.length ≤ 9223372036854775807) (hA : At w a proof) (T : Tabs w) :
    Calls Tryz.prog 57 #[.int .i64 m, .int .i64 n, sv old, .slice a proof.length cap] w fun e w' => e = .returned (.tuple #[sv (rootsOf4 m n old proof).1.1, sv (rootsOf4 m n old proof).1.2, .int .i64 (rootsOf4 m n old proof).2]) ∧ Below w.heap.size w w' := by
  have h1 := ProofLen_any m n w
  by_cases h : (prfLen m n).2 = 0
  · obtain ⟨a1, a2, a3, hl⟩ := prfLen_ok h
    have h2 := fun w1 (hb : Below w.heap.size w w1) => checkHashes_any old proof (prfLen m n).1 a cap w1 hc (hA.below hb (Nat.le_refl _))
    by_cases hk : chk old proof (prfLen m n).1 = 0
    · have ho : rootsOf4 m n old proof = (Tree.bth m.toNat n.toNat true old proof, 0) := by rw [rootsOf4, if_pos h, if_pos hk]
      rw [ho]
      rw [hk] at h2
      have hlen := (chk_len hk).1
      rw [hl] at hlen h1 h2
      simp only at hlen h1 h2
      by_cases he : m = n
      · subst he
        rw [Tree.bth_same]
        have b0 : (m == m) = true := by simp
        generalize (Tree.pl m.toNat m.toNat true : Nat) = L at *
        generalize proof.length = pl at *
        clear hA T hl hk h ho hlen
        go_enter Tryz.func57, Tryz.ntmps57
        go_wp2_with (first
          | (go_at_call 82; refine h1.mono ?_; rintro e w1 ⟨rfl, hw1⟩)
          | (go_at_call 69; refine (h2 _ hw1).mono ?_; rintro e w2 ⟨rfl, rfl⟩))
        go_ret3
        exact ⟨rfl, hw1⟩
      · have b0 : (m == n) = false := by simpa using he
        have h3 := fun w1 => proofWay_any m.toNat n.toNat (by omega) (by omega) (by omega) (by omega) w1
        rw [Int.toNat_of_nonneg (show 0 ≤ m by omega), Int.toNat_of_nonneg (show 0 ≤ n by omega)] at h3
        have h4 := fun w1 (hb : Below w.heap.size w w1) => goUpProof_any m.toNat n.toNat (by omega) (by omega) (by omega) old proof a cap w1 (by omega) (hA.below hb (Nat.le_refl _)) (T.below hb T.lt)
        generalize Tree.bth m.toNat n.toNat true old proof = X at *
        generalize (Tree.pl m.toNat n.toNat true : Nat) = L at *
        generalize Tree.St (m.toNat - 1) (n.toNat - 1) = S at *
        generalize proof.length = pl at *
        clear hA T hl hk h ho hlen
        go_enter Tryz.func57, Tryz.ntmps57
        go_wp2_with (first
          | (go_at_call 82; refine h1.mono ?_; rintro e w1 ⟨rfl, hw1⟩)
          | (go_at_call 69; refine (h2 _ hw1).mono ?_; rintro e w2 ⟨rfl, rfl⟩)
          | (go_at_call 84; refine (h3 _).mono ?_; rintro e w3 ⟨rfl, hw3⟩; have hb3 := hid (hw1.trans (hw3.mono hw1.size)))
          | (go_at_call 83; refine (h4 _ hb3.out).mono ?_; rintro e w4 ⟨rfl, hw4⟩))
        go_ret3
        exact ⟨rfl, hb3.out.trans (hw4.mono hb3.out.size)⟩
    · have ho : rootsOf4 m n old proof = (([], []), chk old proof (prfLen m n).1) := by rw [rootsOf4, if_pos h, if_neg hk]
      rw [ho, svE]
      rw [hl] at h1 h2 hk ⊢
      simp only at h1 h2 hk ⊢
      generalize (((Tree.pl m.toNat n.toNat true : Nat) : Int)) = L at *
      generalize chk old proof L = z at *
      have b0 : (z != 0) = true := by simpa using hk
      generalize proof.length = pl at *
      clear hA T hl ho h
      go_enter Tryz.func57, Tryz.ntmps57
      go_wp2_with (first
        | (go_at_call 82; refine h1.mono ?_; rintro e w1 ⟨rfl, hw1⟩)
        | (go_at_call 69; refine (h2 _ hw1).mono ?_; rintro e w2 ⟨rfl, rfl⟩))
      go_ret3
      exact ⟨rfl, hw1⟩
  · have ho : rootsOf4 m n old proof = (([], []), (prfLen m n).2) := by rw [rootsOf4, if_neg h]
    rw [ho, svE]
    generalize (prfLen m n).1 = y at *
    generalize (prfLen m n).2 = z at *
    have b0 : (z != 0) = true := by simpa using h
    generalize proof.length = pl at *
    clear hA T ho
    go_enter Tryz.func57, Tryz.ntmps57
    go_wp2_with (go_at_call 82; refine h1.mono ?_; rintro e w1 ⟨rfl, hw1⟩)
    go_ret3
    exact ⟨rfl, hw1⟩
set_option maxRecDepth 100000 in
set_option maxHeartbeats 2000000 in
theorem Consistency_any (m n : Int) (old now : List UInt8) (proof : List (List UInt8)) (a : Option Addr) (cap : Nat) (w : World) (hc : proof.length ≤ 9223372036854775807) (hA : At w a proof) (T : Tabs w) :
    Calls Tryz.prog 36 #[.int .i64 m, .int .i64 n, sv old, sv now, .slice a proof.length cap] w fun e w' => e = .returned (.int .i64 (conOf4 m n old now proof)) ∧ Below w.heap.size w w' := by
  have h1 := RootsOf_any m n old proof a cap w hc hA T
  have hs := sv_size now
  unfold conOf4
  generalize rootsOf4 m n old proof = o at *
  obtain ⟨⟨x, y⟩, z⟩ := o
  simp only at h1 ⊢
  generalize proof.length = pl at *
  clear hA T
  by_cases hz : z = 0
  · subst hz
    rw [if_pos rfl]
    by_cases h32 : now.length = 32
    · rw [if_pos h32]
      have i1 := isHash_at ⟨now.toArray⟩ true (by rw [hs]; simp [h32])
      by_cases hx : x = old
      · subst hx
        by_cases hy : y = now
        · subst hy
          rw [if_pos rfl]
          have e1 := str_eq x
          have e2 := str_eq y
          rw [show sv x = .string ⟨x.toArray⟩ from rfl] at h1 ⊢
          rw [show sv y = .string ⟨y.toArray⟩ from rfl] at h1 ⊢
          generalize ByteArray.mk x.toArray = R at *
          generalize ByteArray.mk y.toArray = R' at *
          go_enter Tryz.func36, Tryz.ntmps36
          go_wp2_with (first
            | (go_at_call 57; refine h1.mono ?_; rintro e w1 ⟨rfl, hw1⟩)
            | (go_at_call 48; refine (i1 _).mono ?_; rintro e w2 ⟨rfl, rfl⟩))
          go_ret
          exact ⟨rfl, hw1⟩
        · rw [if_neg (fun h => hy (congrArg Prod.snd h))]
          have e1 := str_eq x
          have e2 := str_ne hy
          have e3 := str_ne' hy
          have e4 := str_ne2 hy
          rw [show sv x = .string ⟨x.toArray⟩ from rfl] at h1 ⊢
          rw [show sv y = .string ⟨y.toArray⟩ from rfl] at h1
          rw [show sv now = .string ⟨now.toArray⟩ from rfl]
          generalize ByteArray.mk x.toArray = R at *
          generalize ByteArray.mk y.toArray = R1 at *
          generalize ByteArray.mk now.toArray = R2 at *
          go_enter Tryz.func36, Tryz.ntmps36
          go_wp2_with (first
            | (go_at_call 57; refine h1.mono ?_; rintro e w1 ⟨rfl, hw1⟩)
            | (go_at_call 48; refine (i1 _).mono ?_; rintro e w2 ⟨rfl, rfl⟩))
          go_ret
          exact ⟨rfl, hw1⟩
      · rw [if_neg (fun h => hx (congrArg Prod.fst h))]
        have e1 := str_ne hx
        have e3 := str_ne' hx
        have e4 := str_ne2 hx
        rw [show sv x = .string ⟨x.toArray⟩ from rfl] at h1
        rw [show sv y = .string ⟨y.toArray⟩ from rfl] at h1
        rw [show sv old = .string ⟨old.toArray⟩ from rfl] at h1 ⊢
        rw [show sv now = .string ⟨now.toArray⟩ from rfl]
        generalize ByteArray.mk x.toArray = R at *
        generalize ByteArray.mk y.toArray = R1 at *
        generalize ByteArray.mk now.toArray = R2 at *
        generalize ByteArray.mk old.toArray = R3 at *
        go_enter Tryz.func36, Tryz.ntmps36
        go_wp2_with (first
          | (go_at_call 57; refine h1.mono ?_; rintro e w1 ⟨rfl, hw1⟩)
          | (go_at_call 48; refine (i1 _).mono ?_; rintro e w2 ⟨rfl, rfl⟩))
        go_ret
        exact ⟨rfl, hw1⟩
    · rw [if_neg h32]
      have i1 := isHash_at ⟨now.toArray⟩ false (by rw [hs]; simp; try omega)
      rw [show sv now = .string ⟨now.toArray⟩ from rfl]
      generalize ByteArray.mk now.toArray = R2 at *
      go_enter Tryz.func36, Tryz.ntmps36
      go_wp2_with (first
        | (go_at_call 57; refine h1.mono ?_; rintro e w1 ⟨rfl, hw1⟩)
        | (go_at_call 48; refine (i1 _).mono ?_; rintro e w2 ⟨rfl, rfl⟩))
      go_ret
      exact ⟨rfl, hw1⟩
  · rw [if_neg hz]
    have b0 : (z != 0) = true := by simpa using hz
    go_enter Tryz.func36, Tryz.ntmps36
    go_wp2_with (go_at_call 57; refine h1.mono ?_; rintro e w1 ⟨rfl, hw1⟩)
    go_ret
    exact ⟨rfl, hw1⟩
end Go.Proofs.YthoekndjeclimaaGreatDoor

namespace Go.Proofs.YthoekndjeclimaaGreatDoor
open Go.RowKit
theorem drewBelow6 {w w' : World} (h : Below w.drew.heap.size w.drew w') : Below w.heap.size w w' := (Below.refl w.heap.size w).drew.trans h
/-- a list of leaves in a variable -/
def Lv (w : World) (v : Value) (L : List (List UInt8)) : Prop := ∃ a c, v = .slice a L.length c ∧ L.length ≤ c ∧ c ≤ 9223372036854775807 ∧ At w a L
theorem Lv.below {w w' : World} {v : Value} {L : List (List UInt8)} (h : Lv w v L) (hb : Below w.heap.size w w') : Lv w' v L := by
  obtain ⟨a, c, h1, h2, h3, h4⟩ := h
  exact ⟨a, c, h1, h2, h3, h4.below hb (Nat.le_refl _)⟩
theorem Lv.pos {w : World} {v : Value} {L : List (List UInt8)} (h : Lv w v L) (h0 : 0 < L.length) : ∃ x c, v = .slice (some x) L.length c ∧ L.length ≤ c ∧ c ≤ 9223372036854775807 ∧ At w (some x) L := by
  obtain ⟨a, c, h1, h2, h3, h4⟩ := h
  obtain ⟨x, rfl, _⟩ := h4 0 _ (List.getElem?_eq_getElem h0)
  exact ⟨x, c, h1, h2, h3, h4⟩
set_option maxRecDepth 100000 in
set_option maxHeartbeats 4000000 in
theorem partLeaves_any (A B : List (List UInt8)) (p q : List UInt8) (f : Nat) (va vb : Value) (w : World) (hA : Lv w va A) (hB : Lv w vb B) (oA : Okl A) (oB : Okl B) (hl : A.length = B.length) (hf : A.length ≤ f) (hp : Tree.partF f A B = some (p, q)) (T : Tabs w) :
    Calls Tryz.prog 31 #[va, vb] w fun e w' => e = .panicked [{ v := prI p q, recovered := false }] ∧ Below w.heap.size w w' := by
  have HT := hid T
  have H0 : Hid (Lv w va A ∧ Lv w vb B ∧ Okl A ∧ Okl B ∧ A.length = B.length ∧ A.length ≤ f ∧ Tree.partF f A B = some (p, q) ∧ Below w.heap.size w w) := ⟨hA, hB, oA, oB, hl, hf, hp, Below.refl _ _⟩
  clear hA hB oA oB hl hf hp T
  go_enter Tryz.func31, Tryz.ntmps31
  go_wp2
  go_loopw [0, 1] (fun va vb w' => ∃ (A B : List (List UInt8)) (f : Nat), Hid (Lv w' va A ∧ Lv w' vb B ∧ Okl A ∧ Okl B ∧ A.length = B.length ∧ A.length ≤ f ∧ Tree.partF f A B = some (p, q) ∧ Below w.heap.size w w')) (fun va _ _ => match va with | .slice _ n _ => n | _ => 0)
  case atStart => exact ⟨A, B, f, H0⟩
  case round =>
    clear H0
    obtain ⟨A, B, f, H⟩ := hrel
    obtain ⟨hA, hB, oA, oB, hl, hf, hp, hb⟩ := H.out
    clear H
    obtain ⟨g, rfl⟩ : ∃ g, f = g + 1 := by
      cases f
      · cases hp
      · exact ⟨_, rfl⟩
    rw [Tree.partF] at hp
    by_cases h2 : A.length < 2
    · rw [if_pos h2] at hp; cases hp
    · rw [if_neg h2] at hp
      have s1 := Tree.sp_lt (n := A.length) (by omega)
      have s2 := Tree.sp_pos (n := A.length) (by omega)
      obtain ⟨x, ca, rfl, a1, a2, a3⟩ := hA.pos (by omega)
      obtain ⟨y, cb, rfl, b1, b2, b3⟩ := hB.pos (by omega)
      obtain ⟨k, hk⟩ : ∃ k, Tree.sp A.length = k := ⟨_, rfl⟩
      rw [hk] at hp s1 s2
      have HK := hid hk
      have la : (A.take k).length = k := by rw [List.length_take]; omega
      have lb : (B.take k).length = k := by rw [List.length_take]; omega
      have da : (A.drop k).length = A.length - k := by rw [List.length_drop]
      have db : (B.drop k).length = A.length - k := by rw [List.length_drop]; omega
      obtain ⟨ta, hta⟩ : ∃ ta, Hid (Tree.nt (Tree.root (A.take k)) (Tree.root (A.drop k)) = ta) := ⟨_, rfl⟩
      obtain ⟨tb, htb⟩ : ∃ tb, Hid (Tree.nt (Tree.root (B.take k)) (Tree.root (B.drop k)) = tb) := ⟨_, rfl⟩
      rw [hta.out, htb.out] at hp
      have T0 := HT.out.below hb HT.out.lt
      have i0 := split_any (A.length : Int) (by omega) (by omega) wr
      have i1 := partsText_any A k x ca wr oA s2 s1 a1 a2 a3 T0 hta
      have i2 := fun w' (h1 : At w' (some y) B) (h2 : Tabs w') => partsText_any B k y cb w' oB s2 (by omega) b1 b2 h1 h2 htb
      have i3 := fun w' (h1 : At w' (some x) A) (h2 : At w' (some y) B) => equalS_any (A.take k) (B.take k) (some x) (some y) ca cb w' (h1.take k) (h2.take k) (by omega) (by omega)
      rw [la, lb] at i3
      rw [← hl] at i2
      have HP := hid hp
      have HB := hid hb
      have HO := hid (And.intro oA oB)
      have HA := hid (And.intro a3 b3)
      have HT0 := hid T0
      have HF := hid hf
      have HL := hid (And.intro la (And.intro lb (And.intro da db)))
      rw [← hl] at b1 ⊢
      clear hp hb oA oB a3 b3 T0 hf hA hB la lb da db hk
      have HE := hid hl
      clear hl
      rw [show spI (A.length : Int) = (k : Int) from by unfold spI; rw [Int.toNat_natCast, HK.out]] at i0
      generalize hn : A.length = n at *
      have g1 : (1 : Int) < (n : Int) := by omega
      have g2 : (k : Int) ≤ (n : Int) := by omega
      have g3 : (k : Int) ≤ (ca : Int) := by omega
      have g4 : (k : Int) ≤ (cb : Int) := by omega
      go_wp2_with (go_at_call 52; fail)
      refine i0.mono ?_
      rintro e w1 ⟨rfl, rfl⟩
      go_wp2_with (go_at_call 55; fail)
      refine i1.mono ?_
      rintro e w2 ⟨rfl, c2⟩
      have i2 := i2 w2 (HA.out.2.below c2 (Nat.le_refl _)) (HT0.out.below c2 HT0.out.lt)
      go_wp2_with (go_at_call 55; fail)
      refine i2.mono ?_
      rintro e w3 ⟨rfl, c3⟩
      have c4 := c2.trans (c3.mono c2.size)
      have HA3 := hid (And.intro (HA.out.1.below c4 (Nat.le_refl _)) (HA.out.2.below c4 (Nat.le_refl _)))
      have HB3 := hid (HB.out.trans (c4.mono HB.out.size))
      clear HA HB HT0 i0 i1 i2 c2 c3 c4
      by_cases hab : ta = tb
      · subst hab
        have HP2 := HP.out
        rw [if_pos rfl] at HP2
        have i4 := compare_same ta w3
        go_wp2_with (go_at_call 51; fail)
        refine i4.mono ?_
        rintro e w4 ⟨rfl, rfl⟩
        have i3d := i3 w4.drew (HA3.out.1.heap rfl) (HA3.out.2.heap rfl)
        clear i3
        go_wp2
        go_cut [24] (fun v w' => v = .bool (decide (A.take k = B.take k)) ∧ Hid (Below w4.heap.size w4 w'))
        case first =>
          go_region_held3 (fun _ => True) (trivial) (first | (go_at_call 20; refine i3d.mono ?_; rintro e w5 ⟨rfl, c5⟩; have HC5 := hid (drewBelow6 c5); clear c5))
          all_goals
            go_wp2_with fail
            go_meet
            exact ⟨rfl, HC5⟩
        case rest =>
          obtain ⟨rfl, HC⟩ := hcut
          have HB5 := hid (HB3.out.trans (HC.out.mono HB3.out.size))
          have HA5 := hid (And.intro (HA3.out.1.below HC.out (Nat.le_refl _)) (HA3.out.2.below HC.out (Nat.le_refl _)))
          by_cases hq : A.take k = B.take k
          · rw [if_pos hq] at HP2
            have HP3 := hid HP2
            rw [decide_eq_true hq]
            clear HP HP2 HC hq HB3 HA3 i3d i4
            go_wp2
            go_quiet (fail)
            go_wp2
            refine ⟨⟨A.drop k, B.drop k, g, hid ⟨⟨some (x.add k), ca - k, ?_, ?_, ?_, (HA5.out.1.drop k).heap rfl⟩, ⟨some (y.add k), cb - k, ?_, ?_, ?_, (HA5.out.2.drop k).heap rfl⟩, HO.out.1.drop k, HO.out.2.drop k, ?_, ?_, HP3.out, below_drewN HB5.out _⟩⟩, ?_⟩
            all_goals obtain ⟨q1, q2, q3, q4⟩ := HL.out
            all_goals have q5 := HF.out
            · rw [q3]
            · omega
            · omega
            · rw [q4]
            · omega
            · omega
            · omega
            · omega
            · show n - k < n
              omega
          · rw [if_neg hq] at HP2
            have HP3 := hid HP2
            rw [decide_eq_false hq]
            clear HP HP2 HC hq HB3 HA3 i3d i4
            go_wp2
            go_quiet (fail)
            go_wp2
            refine ⟨⟨A.take k, B.take k, g, hid ⟨⟨some x, ca, ?_, ?_, ?_, (HA5.out.1.take k).heap rfl⟩, ⟨some y, cb, ?_, ?_, ?_, (HA5.out.2.take k).heap rfl⟩, HO.out.1.take k, HO.out.2.take k, ?_, ?_, HP3.out, below_drewN HB5.out _⟩⟩, ?_⟩
            all_goals obtain ⟨q1, q2, q3, q4⟩ := HL.out
            all_goals have q5 := HF.out
            · rw [q1]
            · omega
            · omega
            · rw [q2]
            · omega
            · omega
            · omega
            · omega
            · show k < n
              omega
      · have HP2 := HP.out
        rw [if_neg hab] at HP2
        injection HP2 with HP2
        injection HP2 with e1 e2
        have i4 := compare_diff hab w3
        rw [e1, e2] at i4 ⊢
        go_wp2_with (go_at_call 51; fail)
        refine i4.mono ?_
        rintro e w4 ⟨rfl, rfl⟩
        go_wp2
        exact ⟨rfl, rfl, HB3.out⟩
end Go.Proofs.YthoekndjeclimaaGreatDoor
