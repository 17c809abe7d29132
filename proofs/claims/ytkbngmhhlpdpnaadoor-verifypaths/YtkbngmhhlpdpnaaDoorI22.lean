import Derived.Test.YtkbngmhhlpdpnaaDoorI21
namespace Go.Proofs.YtkbngmhhlpdpnaaDoor
open Go.RowKit
set_option maxRecDepth 100000 in
set_option maxHeartbeats 2000000 in
theorem rRootOf_any (n m : Int) (leaf : List UInt8) (path : List (List UInt8)) (a : Option Addr) (cap : Nat) (w : World) (hlc : path.length ≤ cap) (hc : cap ≤ 9223372036854775807) (hA : At w a path) :
    Calls Tryd.prog 69 #[.int .i64 n, .int .i64 m, sv leaf, .slice a path.length cap] w fun e w' => e = .returned (.tuple #[sv (rootOf4 n m leaf path).1, .int .i64 (rootOf4 n m leaf path).2]) ∧ Below w.heap.size w w' := by
  have h1 := rPathLen_any n m w
  by_cases h : (lenOf n m).2 = 0
  · obtain ⟨a1, a2, a3, a4, hl⟩ := lenOf_ok h
    have h2 := r4hashes_any path a cap w (by omega) hA
    have hs := sv_size leaf
    by_cases hk : chk leaf path (lenOf n m).1 = 0
    · have ho : rootOf4 n m leaf path = (Tree.upd leaf (Tree.D n.toNat m.toNat) path, 0) := by rw [rootOf4, if_pos h, if_pos hk]
      rw [ho]
      obtain ⟨hlen, hlf, hall⟩ := chk_len hk
      rw [hall] at h2
      rw [hl] at hlen h1
      simp only at hlen h1
      have h4 := rup_any _ n.toNat m.toNat leaf path a cap w (Nat.le_refl _) (by omega) (by omega) (by omega) hlc hc hA
      rw [Int.toNat_of_nonneg a3, Int.toNat_of_nonneg (show 0 ≤ n by omega)] at h4
      generalize Tree.upd leaf (Tree.D n.toNat m.toNat) path = X at *
      rw [hlf] at hs
      rw [show sv leaf = .string ⟨leaf.toArray⟩ from rfl] at h4 ⊢
      generalize ByteArray.mk leaf.toArray = LF at *
      have b0 : ((LF.size : Int) != 32) = false := by simp; omega
      generalize (Tree.D n.toNat m.toNat).length = L at *
      obtain ⟨pl, hpl⟩ : ∃ pl, path.length = pl := ⟨_, rfl⟩
      rw [hpl] at hlen h2 h4 hlc ⊢
      obtain rfl : pl = L := by omega
      have b1 : ((pl : Int) != (pl : Int)) = false := by simp
      clear hA hl hk h ho hlen hall hlf hpl
      go_enter Tryd.func69, Tryd.ntmps69
      go_wp2_with (first
        | (go_at_call 30; refine h1.mono ?_; rintro e w1 ⟨rfl, rfl⟩)
        | (go_at_call 98; refine h2.mono ?_; rintro e w2 ⟨rfl, rfl⟩)
        | (go_at_call 99; refine h4.mono ?_; rintro e w4 ⟨rfl, hw4⟩))
      go_ret2
      exact ⟨rfl, hw4⟩
    · have ho : rootOf4 n m leaf path = ([], chk leaf path (lenOf n m).1) := by rw [rootOf4, if_pos h, if_neg hk]
      rw [ho, svE]
      rw [hl] at h1 hk ⊢
      simp only at h1 hk ⊢
      generalize (Tree.D n.toNat m.toNat).length = L at *
      unfold chk at hk ⊢
      by_cases h32 : leaf.length = 32 ∧ path.all (·.length == 32) = true
      · rw [if_pos h32] at hk ⊢
        rw [h32.2] at h2
        have hne : ¬ ((path.length : Nat) : Int) = (L : Int) := fun h => by rw [if_pos h] at hk; exact hk rfl
        rw [if_neg hne]
        rw [h32.1] at hs
        rw [show sv leaf = .string ⟨leaf.toArray⟩ from rfl]
        generalize ByteArray.mk leaf.toArray = LF at *
        have b0 : ((LF.size : Int) != 32) = false := by simp; omega
        generalize path.length = pl at *
        have b1 : ((pl : Int) != (L : Int)) = true := by simp; omega
        clear hA hl ho h hk h32
        go_enter Tryd.func69, Tryd.ntmps69
        go_wp2_with (first
          | (go_at_call 30; refine h1.mono ?_; rintro e w1 ⟨rfl, rfl⟩)
          | (go_at_call 98; refine h2.mono ?_; rintro e w2 ⟨rfl, rfl⟩))
        go_ret2
        exact ⟨rfl, Below.refl _ _⟩
      · rw [if_neg h32]
        rw [show sv leaf = .string ⟨leaf.toArray⟩ from rfl]
        by_cases hlf : leaf.length = 32
        · have hall : path.all (·.length == 32) = false := by
            cases hh : path.all (·.length == 32)
            · rfl
            · exact absurd ⟨hlf, hh⟩ h32
          rw [hall] at h2
          rw [hlf] at hs
          generalize ByteArray.mk leaf.toArray = LF at *
          have b0 : ((LF.size : Int) != 32) = false := by simp; omega
          generalize path.length = pl at *
          clear hA hl ho h hk h32
          go_enter Tryd.func69, Tryd.ntmps69
          go_wp2_with (first
            | (go_at_call 30; refine h1.mono ?_; rintro e w1 ⟨rfl, rfl⟩)
            | (go_at_call 98; refine h2.mono ?_; rintro e w2 ⟨rfl, rfl⟩))
          go_ret2
          exact ⟨rfl, Below.refl _ _⟩
        · generalize path.all (·.length == 32) = bb at *
          generalize ByteArray.mk leaf.toArray = LF at *
          have b0 : ((LF.size : Int) != 32) = true := by simp; omega
          generalize path.length = pl at *
          clear hA hl ho h hk h32
          go_enter Tryd.func69, Tryd.ntmps69
          go_wp2_with (first
            | (go_at_call 30; refine h1.mono ?_; rintro e w1 ⟨rfl, rfl⟩)
            | (go_at_call 98; refine h2.mono ?_; rintro e w2 ⟨rfl, rfl⟩))
          go_ret2
          exact ⟨rfl, Below.refl _ _⟩
  · have ho : rootOf4 n m leaf path = ([], (lenOf n m).2) := by rw [rootOf4, if_neg h]
    rw [ho, svE]
    generalize (lenOf n m).1 = y at *
    generalize (lenOf n m).2 = z at *
    have b0 : (z != 0) = true := by simpa using h
    generalize path.length = pl at *
    clear hA ho
    go_enter Tryd.func69, Tryd.ntmps69
    go_wp2_with (go_at_call 30; refine h1.mono ?_; rintro e w1 ⟨rfl, rfl⟩)
    go_ret2
    exact ⟨rfl, Below.refl _ _⟩
set_option maxRecDepth 100000 in
set_option maxHeartbeats 2000000 in
theorem rInclusion_any (n m : Int) (leaf : List UInt8) (path : List (List UInt8)) (root : List UInt8) (a : Option Addr) (cap : Nat) (w : World) (hlc : path.length ≤ cap) (hc : cap ≤ 9223372036854775807) (hA : At w a path) :
    Calls Tryd.prog 70 #[.int .i64 n, .int .i64 m, sv leaf, .slice a path.length cap, sv root] w fun e w' => e = .returned (.int .i64 (incOf4 n m leaf path root)) ∧ Below w.heap.size w w' := by
  have h1 := rRootOf_any n m leaf path a cap w hlc hc hA
  have hs := sv_size root
  unfold incOf4
  generalize rootOf4 n m leaf path = o at *
  obtain ⟨r, z⟩ := o
  simp only at h1 ⊢
  generalize path.length = pl at *
  clear hA
  by_cases hz : z = 0
  · subst hz
    rw [if_pos rfl]
    by_cases h32 : root.length = 32
    · rw [if_pos h32]
      rw [h32] at hs
      by_cases he : r = root
      · subst he
        rw [if_pos rfl]
        have e1 := str_eq r
        have e2 : ((ByteArray.mk r.toArray).toList == (ByteArray.mk r.toArray).toList) = true := by simp
        rw [show sv r = .string ⟨r.toArray⟩ from rfl] at h1 ⊢
        generalize ByteArray.mk r.toArray = R at *
        have b0 : ((R.size : Int) != 32) = false := by simp; omega
        go_enter Tryd.func70, Tryd.ntmps70
        go_wp2_with (go_at_call 69; refine h1.mono ?_; rintro e w1 ⟨rfl, hw1⟩)
        go_ret
        exact ⟨rfl, hw1⟩
      · rw [if_neg he]
        have e1 := str_ne he
        have e2 : ((ByteArray.mk r.toArray).toList == (ByteArray.mk root.toArray).toList) = false := by rw [← Bool.not_inj_iff]; exact e1
        rw [show sv r = .string ⟨r.toArray⟩ from rfl] at h1
        rw [show sv root = .string ⟨root.toArray⟩ from rfl]
        generalize ByteArray.mk r.toArray = R at *
        generalize ByteArray.mk root.toArray = R' at *
        have b0 : ((R'.size : Int) != 32) = false := by simp; omega
        go_enter Tryd.func70, Tryd.ntmps70
        go_wp2_with (go_at_call 69; refine h1.mono ?_; rintro e w1 ⟨rfl, hw1⟩)
        go_ret
        exact ⟨rfl, hw1⟩
    · rw [if_neg h32]
      rw [show sv root = .string ⟨root.toArray⟩ from rfl]
      generalize ByteArray.mk root.toArray = R' at *
      have b0 : ((R'.size : Int) != 32) = true := by simp; omega
      go_enter Tryd.func70, Tryd.ntmps70
      go_wp2_with (go_at_call 69; refine h1.mono ?_; rintro e w1 ⟨rfl, hw1⟩)
      go_ret
      exact ⟨rfl, hw1⟩
  · rw [if_neg hz]
    have b0 : (z != 0) = true := by simpa using hz
    go_enter Tryd.func70, Tryd.ntmps70
    go_wp2_with (go_at_call 69; refine h1.mono ?_; rintro e w1 ⟨rfl, hw1⟩)
    go_ret
    exact ⟨rfl, hw1⟩
end Go.Proofs.YtkbngmhhlpdpnaaDoor
