import Derived.Test.YtmpaliocfikifaaDoorCI7
namespace Go.Proofs.YtmpaliocfikifaaDoor
open Go.RowKit
/-- V2 -/
def rootOf4 (n m : Int) (leaf : List UInt8) (path : List (List UInt8)) : List UInt8 × Int :=
  if (lenOf n m).2 = 0 then (if chk leaf path (lenOf n m).1 = 0 then (Tree.upd leaf (Tree.D n.toNat m.toNat) path, 0) else ([], chk leaf path (lenOf n m).1)) else ([], (lenOf n m).2)
def incOf4 (n m : Int) (leaf : List UInt8) (path : List (List UInt8)) (root : List UInt8) : Int :=
  if (rootOf4 n m leaf path).2 = 0 then (if root.length = 32 then (if (rootOf4 n m leaf path).1 = root then 0 else 44) else 42) else (rootOf4 n m leaf path).2
theorem str_ne {a b : List UInt8} (h : a ≠ b) : ((ByteArray.mk a.toArray).toList != (ByteArray.mk b.toArray).toList) = true := by
  rw [ByteArray.toList_eq, ByteArray.toList_eq]
  show (a != b) = true
  simpa using h
theorem str_eq (a : List UInt8) : ((ByteArray.mk a.toArray).toList != (ByteArray.mk a.toArray).toList) = false := by simp
theorem lenOf_ok {n m : Int} (h : (lenOf n m).2 = 0) : 1 ≤ n ∧ n ≤ 1099511627776 ∧ 0 ≤ m ∧ m < n ∧ lenOf n m = ((((Tree.D n.toNat m.toNat).length : Nat) : Int), 0) := by
  unfold lenOf at h ⊢
  split at h
  · simp at h
  · split at h
    · simp at h
    · refine ⟨by omega, by omega, by omega, by omega, ?_⟩
      rename_i h1 h2
      rw [if_neg h1, if_neg h2]
theorem chk_len {x : List UInt8} {l : List (List UInt8)} {n : Int} (h : chk x l n = 0) : (l.length : Int) = n ∧ x.length = 32 ∧ l.all (·.length == 32) = true := by
  unfold chk at h
  split at h
  · rename_i h1
    split at h
    · exact ⟨by assumption, h1.1, h1.2⟩
    · omega
  · omega
theorem svE : sv [] = .string ⟨#[]⟩ := rfl
set_option maxRecDepth 100000 in
set_option maxHeartbeats 2000000 in
theorem RootOf_any (n m : Int) (leaf : List UInt8) (path : List (List UInt8)) (a : Option Addr) (cap : Nat) (w : World) (hc : path.length ≤ 9223372036854775807) (hA : At w a path) (T : Tabs w) :
    Calls Tryd.prog 12 #[.int .i64 n, .int .i64 m, sv leaf, .slice a path.length cap] w fun e w' => e = .returned (.tuple #[sv (rootOf4 n m leaf path).1, .int .i64 (rootOf4 n m leaf path).2]) ∧ Below w.heap.size w w' := by
  have h1 := PathLen_any n m w
  by_cases h : (lenOf n m).2 = 0
  · obtain ⟨a1, a2, a3, a4, hl⟩ := lenOf_ok h
    have h2 := fun w1 (hb : Below w.heap.size w w1) => checkHashes_any leaf path (lenOf n m).1 a cap w1 hc (hA.below hb (Nat.le_refl _))
    by_cases hk : chk leaf path (lenOf n m).1 = 0
    · have ho : rootOf4 n m leaf path = (Tree.upd leaf (Tree.D n.toNat m.toNat) path, 0) := by rw [rootOf4, if_pos h, if_pos hk]
      rw [ho]
      rw [hk] at h2
      have hlen := (chk_len hk).1
      rw [hl] at hlen h1 h2
      simp only at hlen h1 h2
      have hD := Tree.D_U _ n.toNat m.toNat (Nat.le_refl _) (by omega)
      have hUl := Tree.U_len 40 m.toNat (n.toNat - 1) (by omega)
      rw [hD] at hlen h1 h2 ⊢
      have h3 := fun w1 => pathWay_any n.toNat m.toNat (by omega) (by omega) w1
      rw [Int.toNat_of_nonneg a3, Int.toNat_of_nonneg (show 0 ≤ n by omega)] at h3
      have h4 := fun w1 (hb : Below w.heap.size w w1) => goUpPath_any m.toNat (n.toNat - 1) leaf path a cap w1 (by omega) (by omega) (by omega) (hA.below hb (Nat.le_refl _)) (T.below hb T.lt) (by omega)
      generalize Tree.upd leaf (Tree.U m.toNat (n.toNat - 1)) path = X at *
      generalize (Tree.U m.toNat (n.toNat - 1)).length = L at *
      generalize m.toNat = m' at *
      generalize n.toNat - 1 = n' at *
      generalize path.length = pl at *
      clear hA T hl hk h ho hD hlen hUl
      go_enter Tryd.func12, Tryd.ntmps12
      go_wp2_with (first
        | (go_at_call 28; refine h1.mono ?_; rintro e w1 ⟨rfl, hw1⟩)
        | (go_at_call 29; refine (h2 _ hw1).mono ?_; rintro e w2 ⟨rfl, rfl⟩)
        | (go_at_call 31; refine (h3 _).mono ?_; rintro e w3 ⟨rfl, hw3⟩; have hb3 := hid (hw1.trans (hw3.mono hw1.size)))
        | (go_at_call 30; refine (h4 _ hb3.out).mono ?_; rintro e w4 ⟨rfl, hw4⟩))
      go_ret2
      exact ⟨rfl, hb3.out.trans (hw4.mono hb3.out.size)⟩
    · have ho : rootOf4 n m leaf path = ([], chk leaf path (lenOf n m).1) := by rw [rootOf4, if_pos h, if_neg hk]
      rw [ho, svE]
      rw [hl] at h1 h2 hk ⊢
      simp only at h1 h2 hk ⊢
      generalize ((((Tree.D n.toNat m.toNat).length : Nat) : Int)) = L at *
      generalize chk leaf path L = z at *
      have b0 : (z != 0) = true := by simpa using hk
      generalize path.length = pl at *
      clear hA T hl ho h
      go_enter Tryd.func12, Tryd.ntmps12
      go_wp2_with (first
        | (go_at_call 28; refine h1.mono ?_; rintro e w1 ⟨rfl, hw1⟩)
        | (go_at_call 29; refine (h2 _ hw1).mono ?_; rintro e w2 ⟨rfl, rfl⟩))
      go_ret2
      exact ⟨rfl, hw1⟩
  · have ho : rootOf4 n m leaf path = ([], (lenOf n m).2) := by rw [rootOf4, if_neg h]
    rw [ho, svE]
    generalize (lenOf n m).1 = y at *
    generalize (lenOf n m).2 = z at *
    have b0 : (z != 0) = true := by simpa using h
    generalize path.length = pl at *
    clear hA T ho
    go_enter Tryd.func12, Tryd.ntmps12
    go_wp2_with (go_at_call 28; refine h1.mono ?_; rintro e w1 ⟨rfl, hw1⟩)
    go_ret2
    exact ⟨rfl, hw1⟩
set_option maxRecDepth 100000 in
set_option maxHeartbeats 2000000 in
theorem Inclusion_any (n m : Int) (leaf : List UInt8) (path : List (List UInt8)) (root : List UInt8) (a : Option Addr) (cap : Nat) (w : World) (hc : path.length ≤ 9223372036854775807) (hA : At w a path) (T : Tabs w) :
    Calls Tryd.prog 13 #[.int .i64 n, .int .i64 m, sv leaf, .slice a path.length cap, sv root] w fun e w' => e = .returned (.int .i64 (incOf4 n m leaf path root)) ∧ Below w.heap.size w w' := by
  have h1 := RootOf_any n m leaf path a cap w hc hA T
  have hs := sv_size root
  unfold incOf4
  generalize rootOf4 n m leaf path = o at *
  obtain ⟨r, z⟩ := o
  simp only at h1 ⊢
  generalize path.length = pl at *
  clear hA T
  by_cases hz : z = 0
  · subst hz
    rw [if_pos rfl]
    by_cases h32 : root.length = 32
    · rw [if_pos h32]
      have i1 := isHash_at ⟨root.toArray⟩ true (by rw [hs, h32]; rfl)
      by_cases he : r = root
      · subst he
        rw [if_pos rfl]
        have e1 := str_eq r
        have e2 : ((ByteArray.mk r.toArray).toList == (ByteArray.mk r.toArray).toList) = true := by simp
        rw [show sv r = .string ⟨r.toArray⟩ from rfl] at h1 ⊢
        generalize ByteArray.mk r.toArray = R at *
        go_enter Tryd.func13, Tryd.ntmps13
        go_wp2_with (first
          | (go_at_call 12; refine h1.mono ?_; rintro e w1 ⟨rfl, hw1⟩)
          | (go_at_call 32; refine (i1 _).mono ?_; rintro e w2 ⟨rfl, rfl⟩))
        go_ret
        exact ⟨rfl, hw1⟩
      · rw [if_neg he]
        have e1 := str_ne he
        have e2 : ((ByteArray.mk r.toArray).toList == (ByteArray.mk root.toArray).toList) = false := by rw [← Bool.not_inj_iff]; exact e1
        rw [show sv r = .string ⟨r.toArray⟩ from rfl] at h1
        rw [show sv root = .string ⟨root.toArray⟩ from rfl]
        generalize ByteArray.mk r.toArray = R at *
        generalize ByteArray.mk root.toArray = R' at *
        go_enter Tryd.func13, Tryd.ntmps13
        go_wp2_with (first
          | (go_at_call 12; refine h1.mono ?_; rintro e w1 ⟨rfl, hw1⟩)
          | (go_at_call 32; refine (i1 _).mono ?_; rintro e w2 ⟨rfl, rfl⟩))
        go_ret
        exact ⟨rfl, hw1⟩
    · rw [if_neg h32]
      have i1 := isHash_at ⟨root.toArray⟩ false (by rw [hs]; simp; omega)
      rw [show sv root = .string ⟨root.toArray⟩ from rfl]
      generalize ByteArray.mk root.toArray = R' at *
      go_enter Tryd.func13, Tryd.ntmps13
      go_wp2_with (first
        | (go_at_call 12; refine h1.mono ?_; rintro e w1 ⟨rfl, hw1⟩)
        | (go_at_call 32; refine (i1 _).mono ?_; rintro e w2 ⟨rfl, rfl⟩))
      go_ret
      exact ⟨rfl, hw1⟩
  · rw [if_neg hz]
    have b0 : (z != 0) = true := by simpa using hz
    go_enter Tryd.func13, Tryd.ntmps13
    go_wp2_with (go_at_call 12; refine h1.mono ?_; rintro e w1 ⟨rfl, hw1⟩)
    go_ret
    exact ⟨rfl, hw1⟩
end Go.Proofs.YtmpaliocfikifaaDoor
