import Derived.Test.YtkiibcfjjplkaaaDoorCI9a
import Derived.Test.YtkiibcfjjplkaaaDoorCI9c
namespace Go.Proofs.YtkiibcfjjplkaaaDoor
open Go.RowKit
theorem goUpProof_any (m n : Nat) (h1 : 1 ≤ m) (h2 : m < n) (hn : n ≤ 1099511627776) (old : List UInt8) (proof : List (List UInt8)) (a : Option Addr) (cap : Nat) (w : World) (hlen : proof.length = Tree.pl m n true) (hA : At w a proof) (T : Tabs w) :
    Calls Tryd.prog 72 #[wy (Tree.St (m - 1) (n - 1)).1 (Tree.St (m - 1) (n - 1)).2, sv old, .slice a proof.length cap] w fun e w' => e = .returned (.tuple #[sv (Tree.bth m n true old proof).1, sv (Tree.bth m n true old proof).2]) ∧ Below w.heap.size w w' := by
  have hlt := Tree.St_lt (m - 1) (n - 1) (by omega)
  have hle := Tree.St_le (m - 1) (n - 1)
  obtain ⟨P, L, hS⟩ : ∃ P L, Tree.St (m - 1) (n - 1) = (P, L) := ⟨_, _, rfl⟩
  have e := Tree.pl_St h1 h2 hS
  obtain ⟨eP, eF⟩ := Tree.PD_SU _ m n (Nat.le_refl _) h1 h2
  have eP' : Tree.PD m n = Tree.U P L := by rw [eP]; unfold Tree.SU; rw [hS]
  rw [hS] at hlt hle eF ⊢
  simp only at hlt hle eF ⊢
  have hul := Tree.U_len 40 P L (by omega)
  rw [e] at hlen
  by_cases hP : P = 0
  · have hf : ¬ Tree.fl m n true = true := by unfold Tree.fl; rw [eF]; simp [hP]
    have hb : Tree.bth m n true old proof = Tree.upd2 old old (Tree.U P L) proof := by unfold Tree.bth; rw [if_neg hf, eP']
    rw [hb]
    rw [if_pos hP] at hlen
    exact goUpProof_zero P L hP old proof a cap w (by omega) (by omega) hA T (by omega)
  · have hf : Tree.fl m n true = true := by unfold Tree.fl; rw [eF]; simp [hP]
    rw [if_neg hP] at hlen
    match proof, hlen, hA with
    | h :: t, hlen, hA =>
      have hb : Tree.bth m n true old (h :: t) = Tree.upd2 h h (Tree.U P L) t := by unfold Tree.bth; rw [if_pos hf, eP']; rfl
      rw [hb]
      have hl1 : (h :: t).length = t.length + 1 := rfl
      have hne := Tree.U_ne L P (by omega) (by omega)
      have ht : 1 ≤ t.length := by
        rcases Nat.eq_zero_or_pos (Tree.U P L).length with h0 | h0
        · exact absurd (List.length_eq_zero_iff.1 h0) hne
        · omega
      exact goUpProof_more P L old h t a cap w (by omega) hP (by omega) (by omega) hA T (by omega) ht
theorem str_ne' {a b : List UInt8} (h : a ≠ b) : ((ByteArray.mk a.toArray).toList == (ByteArray.mk b.toArray).toList) = false := by
  rw [ByteArray.toList_eq, ByteArray.toList_eq]
  show (a == b) = false
  simpa using h
theorem str_ne2 {a b : List UInt8} (h : a ≠ b) : ¬ (ByteArray.mk a.toArray).toList = (ByteArray.mk b.toArray).toList := by
  rw [ByteArray.toList_eq, ByteArray.toList_eq]
  exact h
/-- V3 -/
def rootsOf4 (m n : Int) (old : List UInt8) (proof : List (List UInt8)) : (List UInt8 × List UInt8) × Int :=
  if (prfLen m n).2 = 0 then (if chk old proof (prfLen m n).1 = 0 then (Tree.bth m.toNat n.toNat true old proof, 0) else (([], []), chk old proof (prfLen m n).1)) else (([], []), (prfLen m n).2)
def conOf4 (m n : Int) (old now : List UInt8) (proof : List (List UInt8)) : Int :=
  if (rootsOf4 m n old proof).2 = 0 then (if now.length = 32 then (if (rootsOf4 m n old proof).1 = (old, now) then 0 else 44) else 42) else (rootsOf4 m n old proof).2
theorem prfLen_ok {m n : Int} (h : (prfLen m n).2 = 0) : 1 ≤ m ∧ m ≤ n ∧ n ≤ 1099511627776 ∧ prfLen m n = (((Tree.pl m.toNat n.toNat true : Nat) : Int), 0) := by
  unfold prfLen at h ⊢
  split at h
  · simp at h
  · rename_i h1
    refine ⟨by omega, by omega, by omega, ?_⟩
    rw [if_neg h1]
set_option maxRecDepth 100000 in
set_option maxHeartbeats 2000000 in
theorem RootsOf_any (m n : Int) (old : List UInt8) (proof : List (List UInt8)) (a : Option Addr) (cap : Nat) (w : World) (hc : proof.length ≤ 9223372036854775807) (hA : At w a proof) (T : Tabs w) :
    Calls Tryd.prog 49 #[.int .i64 m, .int .i64 n, sv old, .slice a proof.length cap] w fun e w' => e = .returned (.tuple #[sv (rootsOf4 m n old proof).1.1, sv (rootsOf4 m n old proof).1.2, .int .i64 (rootsOf4 m n old proof).2]) ∧ Below w.heap.size w w' := by
  have h1 := ProofLen_any m n w
  by_cases h : (prfLen m n).2 = 0
  · obtain ⟨a1, a2, a3, hl⟩ := prfLen_ok h
    have h2 := fun w1 (hb : Below w.heap.size w w1) => checkHashes_any old proof (prfLen m n).1 a cap w1 hc (hA.below hb (Nat.le_refl _))
    by_cases hk : chk old proof (prfLen m n).1 = 0
    · have ho : rootsOf4 m n old proof = (Tree.bth m.toNat n.toNat true old proof, 0) := by rw [rootsOf4, if_pos h, if_pos hk]
      rw [ho]
      rw [hk] at h2
      have hlen := (chk_len hk).1
      rw [hl] at hlen h1 h2
      simp only at hlen h1 h2
      by_cases he : m = n
      · subst he
        rw [Tree.bth_same]
        have b0 : (m == m) = true := by simp
        generalize (Tree.pl m.toNat m.toNat true : Nat) = L at *
        generalize proof.length = pl at *
        clear hA T hl hk h ho hlen
        go_enter Tryd.func49, Tryd.ntmps49
        go_wp2_with (first
          | (go_at_call 71; refine h1.mono ?_; rintro e w1 ⟨rfl, hw1⟩)
          | (go_at_call 68; refine (h2 _ hw1).mono ?_; rintro e w2 ⟨rfl, rfl⟩))
        go_ret3
        exact ⟨rfl, hw1⟩
      · have b0 : (m == n) = false := by simpa using he
        have h3 := fun w1 => proofWay_any m.toNat n.toNat (by omega) (by omega) (by omega) (by omega) w1
        rw [Int.toNat_of_nonneg (show 0 ≤ m by omega), Int.toNat_of_nonneg (show 0 ≤ n by omega)] at h3
        have h4 := fun w1 (hb : Below w.heap.size w w1) => goUpProof_any m.toNat n.toNat (by omega) (by omega) (by omega) old proof a cap w1 (by omega) (hA.below hb (Nat.le_refl _)) (T.below hb T.lt)
        generalize Tree.bth m.toNat n.toNat true old proof = X at *
        generalize (Tree.pl m.toNat n.toNat true : Nat) = L at *
        generalize Tree.St (m.toNat - 1) (n.toNat - 1) = S at *
        generalize proof.length = pl at *
        clear hA T hl hk h ho hlen
        go_enter Tryd.func49, Tryd.ntmps49
        go_wp2_with (first
          | (go_at_call 71; refine h1.mono ?_; rintro e w1 ⟨rfl, hw1⟩)
          | (go_at_call 68; refine (h2 _ hw1).mono ?_; rintro e w2 ⟨rfl, rfl⟩)
          | (go_at_call 73; refine (h3 _).mono ?_; rintro e w3 ⟨rfl, hw3⟩; have hb3 := hid (hw1.trans (hw3.mono hw1.size)))
          | (go_at_call 72; refine (h4 _ hb3.out).mono ?_; rintro e w4 ⟨rfl, hw4⟩))
        go_ret3
        exact ⟨rfl, hb3.out.trans (hw4.mono hb3.out.size)⟩
    · have ho : rootsOf4 m n old proof = (([], []), chk old proof (prfLen m n).1) := by rw [rootsOf4, if_pos h, if_neg hk]
      rw [ho, svE]
      rw [hl] at h1 h2 hk ⊢
      simp only at h1 h2 hk ⊢
      generalize (((Tree.pl m.toNat n.toNat true : Nat) : Int)) = L at *
      generalize chk old proof L = z at *
      have b0 : (z != 0) = true := by simpa using hk
      generalize proof.length = pl at *
      clear hA T hl ho h
      go_enter Tryd.func49, Tryd.ntmps49
      go_wp2_with (first
        | (go_at_call 71; refine h1.mono ?_; rintro e w1 ⟨rfl, hw1⟩)
        | (go_at_call 68; refine (h2 _ hw1).mono ?_; rintro e w2 ⟨rfl, rfl⟩))
      go_ret3
      exact ⟨rfl, hw1⟩
  · have ho : rootsOf4 m n old proof = (([], []), (prfLen m n).2) := by rw [rootsOf4, if_neg h]
    rw [ho, svE]
    generalize (prfLen m n).1 = y at *
    generalize (prfLen m n).2 = z at *
    have b0 : (z != 0) = true := by simpa using h
    generalize proof.length = pl at *
    clear hA T ho
    go_enter Tryd.func49, Tryd.ntmps49
    go_wp2_with (go_at_call 71; refine h1.mono ?_; rintro e w1 ⟨rfl, hw1⟩)
    go_ret3
    exact ⟨rfl, hw1⟩
set_option maxRecDepth 100000 in
set_option maxHeartbeats 2000000 in
theorem Consistency_any (m n : Int) (old now : List UInt8) (proof : List (List UInt8)) (a : Option Addr) (cap : Nat) (w : World) (hc : proof.length ≤ 9223372036854775807) (hA : At w a proof) (T : Tabs w) :
    Calls Tryd.prog 21 #[.int .i64 m, .int .i64 n, sv old, sv now, .slice a proof.length cap] w fun e w' => e = .returned (.int .i64 (conOf4 m n old now proof)) ∧ Below w.heap.size w w' := by
  have h1 := RootsOf_any m n old proof a cap w hc hA T
  have hs := sv_size now
  unfold conOf4
  generalize rootsOf4 m n old proof = o at *
  obtain ⟨⟨x, y⟩, z⟩ := o
  simp only at h1 ⊢
  generalize proof.length = pl at *
  clear hA T
  by_cases hz : z = 0
  · subst hz
    rw [if_pos rfl]
    by_cases h32 : now.length = 32
    · rw [if_pos h32]
      have i1 := isHash_at ⟨now.toArray⟩ true (by rw [hs]; simp [h32])
      by_cases hx : x = old
      · subst hx
        by_cases hy : y = now
        · subst hy
          rw [if_pos rfl]
          have e1 := str_eq x
          have e2 := str_eq y
          rw [show sv x = .string ⟨x.toArray⟩ from rfl] at h1 ⊢
          rw [show sv y = .string ⟨y.toArray⟩ from rfl] at h1 ⊢
          generalize ByteArray.mk x.toArray = R at *
          generalize ByteArray.mk y.toArray = R' at *
          go_enter Tryd.func21, Tryd.ntmps21
          go_wp2_with (first
            | (go_at_call 49; refine h1.mono ?_; rintro e w1 ⟨rfl, hw1⟩)
            | (go_at_call 48; refine (i1 _).mono ?_; rintro e w2 ⟨rfl, rfl⟩))
          go_ret
          exact ⟨rfl, hw1⟩
        · rw [if_neg (fun h => hy (congrArg Prod.snd h))]
          have e1 := str_eq x
          have e2 := str_ne hy
          have e3 := str_ne' hy
          have e4 := str_ne2 hy
          rw [show sv x = .string ⟨x.toArray⟩ from rfl] at h1 ⊢
          rw [show sv y = .string ⟨y.toArray⟩ from rfl] at h1
          rw [show sv now = .string ⟨now.toArray⟩ from rfl]
          generalize ByteArray.mk x.toArray = R at *
          generalize ByteArray.mk y.toArray = R1 at *
          generalize ByteArray.mk now.toArray = R2 at *
          go_enter Tryd.func21, Tryd.ntmps21
          go_wp2_with (first
            | (go_at_call 49; refine h1.mono ?_; rintro e w1 ⟨rfl, hw1⟩)
            | (go_at_call 48; refine (i1 _).mono ?_; rintro e w2 ⟨rfl, rfl⟩))
          go_ret
          exact ⟨rfl, hw1⟩
      · rw [if_neg (fun h => hx (congrArg Prod.fst h))]
        have e1 := str_ne hx
        have e3 := str_ne' hx
        have e4 := str_ne2 hx
        rw [show sv x = .string ⟨x.toArray⟩ from rfl] at h1
        rw [show sv y = .string ⟨y.toArray⟩ from rfl] at h1
        rw [show sv old = .string ⟨old.toArray⟩ from rfl] at h1 ⊢
        rw [show sv now = .string ⟨now.toArray⟩ from rfl]
        generalize ByteArray.mk x.toArray = R at *
        generalize ByteArray.mk y.toArray = R1 at *
        generalize ByteArray.mk now.toArray = R2 at *
        generalize ByteArray.mk old.toArray = R3 at *
        go_enter Tryd.func21, Tryd.ntmps21
        go_wp2_with (first
          | (go_at_call 49; refine h1.mono ?_; rintro e w1 ⟨rfl, hw1⟩)
          | (go_at_call 48; refine (i1 _).mono ?_; rintro e w2 ⟨rfl, rfl⟩))
        go_ret
        exact ⟨rfl, hw1⟩
    · rw [if_neg h32]
      have i1 := isHash_at ⟨now.toArray⟩ false (by rw [hs]; simp; try omega)
      rw [show sv now = .string ⟨now.toArray⟩ from rfl]
      generalize ByteArray.mk now.toArray = R2 at *
      go_enter Tryd.func21, Tryd.ntmps21
      go_wp2_with (first
        | (go_at_call 49; refine h1.mono ?_; rintro e w1 ⟨rfl, hw1⟩)
        | (go_at_call 48; refine (i1 _).mono ?_; rintro e w2 ⟨rfl, rfl⟩))
      go_ret
      exact ⟨rfl, hw1⟩
  · rw [if_neg hz]
    have b0 : (z != 0) = true := by simpa using hz
    go_enter Tryd.func21, Tryd.ntmps21
    go_wp2_with (go_at_call 49; refine h1.mono ?_; rintro e w1 ⟨rfl, hw1⟩)
    go_ret
    exact ⟨rfl, hw1⟩
end Go.Proofs.YtkiibcfjjplkaaaDoor
