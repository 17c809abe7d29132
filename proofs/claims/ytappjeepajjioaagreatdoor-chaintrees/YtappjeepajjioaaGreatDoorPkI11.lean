import Derived.Test.YtappjeepajjioaaGreatDoorPkI9c
namespace Go.Proofs.YtappjeepajjioaaGreatDoor
open Go.RowKit
theorem kn1 : (Tree.nd (Sha.sha [112]) (Sha.sha [108]) == Sha.sha [108]) = false := by decide +kernel
theorem kn2 : (Tree.nd (Sha.sha [108]) (Sha.sha [112]) == Sha.sha [112]) = false := by decide +kernel
theorem kn1' : Tree.nd (Sha.sha [112]) (Sha.sha [108]) ≠ Sha.sha [108] := fun h => by
  have k := kn1
  rw [h, beq_self_eq_true] at k
  cases k
theorem kn2' : Tree.nd (Sha.sha [108]) (Sha.sha [112]) ≠ Sha.sha [112] := fun h => by
  have k := kn2
  rw [h, beq_self_eq_true] at k
  cases k
theorem szL : (ByteArray.mk #[108]).size ≤ 140737488355000 := by
  have : (ByteArray.mk #[108]).size = 1 := rfl
  omega
theorem szP : (ByteArray.mk #[112]).size ≤ 140737488355000 := by
  have : (ByteArray.mk #[112]).size = 1 := rfl
  omega
theorem bytesL : (ByteArray.mk #[108]).data.toList = [108] := rfl
theorem bytesP : (ByteArray.mk #[112]).data.toList = [112] := rfl
theorem knowns : ∃ l p N1 N2 : List UInt8, Hid (Sha.sha (ByteArray.mk #[108]).data.toList = l) ∧ Hid (Sha.sha (ByteArray.mk #[112]).data.toList = p) ∧ l.length = 32 ∧ p.length = 32 ∧ Hid (Tree.nd p l = N1) ∧ Hid (Tree.nd l p = N2) ∧ Hid (N1 ≠ l) ∧ Hid (N2 ≠ p) := by
  rw [bytesL, bytesP]
  have k1 := kn1'
  have k2 := kn2'
  have ll := Sha.sha_length [108]
  have lp := Sha.sha_length [112]
  generalize Sha.sha [108] = l at *
  generalize Sha.sha [112] = p at *
  exact ⟨l, p, _, _, rfl, rfl, ll, lp, rfl, rfl, k1, k2⟩
theorem ksp2 : Tree.sp 2 = 1 := by decide
theorem ksp4 : Tree.sp 4 = 2 := by decide
theorem ksp5 : Tree.sp 5 = 4 := by decide
theorem kD50 : (Tree.D 5 0).length = 3 := by
  rw [Tree.D_left (by omega) (by decide), ksp5, Tree.D_left (by omega) (by decide), ksp4, Tree.D_left (by omega) (by decide), ksp2, Tree.D_one _ (by omega)]; rfl
theorem kD21 : Tree.D 2 1 = [true] := by
  rw [Tree.D_right (by omega) (by decide), ksp2, Tree.D_one _ (by omega)]; rfl
theorem kpl35 : Tree.pl 3 5 true = 4 := by
  rw [Tree.pl_left (by omega) (by omega) (by decide), ksp5, Tree.pl_right (by omega) (by omega) (by decide), ksp4, Tree.pl_left (by omega) (by omega) (by decide), ksp2, Tree.pl_same]; rfl
theorem kpl12 : Tree.pl 1 2 true = 1 := by
  rw [Tree.pl_left (by omega) (by omega) (by decide), ksp2, Tree.pl_same]; rfl
theorem klen50 : lenOf 5 0 = (3, 0) := by
  rw [lenOf, if_neg (by omega), if_neg (by omega)]
  show (((Tree.D 5 0).length : Int), (0 : Int)) = _
  rw [kD50]; rfl
theorem klen00 : lenOf 0 0 = (0, 41) := by rw [lenOf, if_pos (by omega)]
theorem klen21 : lenOf 2 1 = (1, 0) := by
  rw [lenOf, if_neg (by omega), if_neg (by omega)]
  show (((Tree.D 2 1).length : Int), (0 : Int)) = _
  rw [kD21]; rfl
theorem kprf35 : prfLen 3 5 = (4, 0) := by
  rw [prfLen, if_neg (by omega)]
  show ((Tree.pl 3 5 true : Int), (0 : Int)) = _
  rw [kpl35]; rfl
theorem kprf12 : prfLen 1 2 = (1, 0) := by
  rw [prfLen, if_neg (by omega)]
  show ((Tree.pl 1 2 true : Int), (0 : Int)) = _
  rw [kpl12]; rfl
theorem kroot {l p N : List UInt8} (hl : l.length = 32) (hp : p.length = 32) (hN : Tree.nd p l = N) : rootOf4 2 1 l [p] = (N, 0) := by
  rw [rootOf4, klen21, if_pos rfl, if_pos (by unfold chk; simp [hl, hp])]
  show (Tree.upd l (Tree.D 2 1) [p], (0 : Int)) = _
  rw [kD21, ← hN]; rfl
theorem kroot0 {l : List UInt8} (hl : l.length = 32) : rootOf4 2 1 l [] = ([], 43) := by
  have h : chk l [] 1 = 43 := by unfold chk; simp [hl]
  rw [rootOf4, klen21, if_pos rfl, if_neg (by rw [h]; decide), h]
theorem kroots {l p N : List UInt8} (hl : l.length = 32) (hp : p.length = 32) (hN : Tree.nd l p = N) : rootsOf4 1 2 l [p] = ((l, N), 0) := by
  rw [rootsOf4, kprf12, if_pos rfl, if_pos (by unfold chk; simp [hl, hp])]
  show (Tree.bth 1 2 true l ([] ++ [p]), (0 : Int)) = _
  rw [Tree.bth_left (by omega) (by omega) (by decide) _ _ _ _ (by rw [ksp2, Tree.pl_same]; rfl), ksp2, Tree.bth_same, ← hN]; rfl
theorem kinc {l p N : List UInt8} (hl : l.length = 32) (hp : p.length = 32) (hN : Tree.nd p l = N) (hne : N ≠ l) : incOf4 2 1 l [p] l = 44 := by
  rw [incOf4, kroot hl hp hN, if_pos rfl, if_pos hl, if_neg hne]
theorem kcon {l p N : List UInt8} (hl : l.length = 32) (hp : p.length = 32) (hN : Tree.nd l p = N) (hne : N ≠ p) : conOf4 1 2 l p [p] = 44 := by
  rw [conOf4, kroots hl hp hN, if_pos rfl, if_pos hp, if_neg (fun h => hne (congrArg Prod.snd h))]
theorem at1 (w : World) (a : List UInt8) : At (w.alloc (.cells #[sv a] 9)) (some ⟨w.heap.size, 0, none⟩) [a] := fun j p hp => by
  refine ⟨_, rfl, by rw [size_alloc]; exact Nat.lt_succ_self _, ?_⟩
  rw [Addr.add_mid, cell_of_row _ _ _ _ _ _ (heap_alloc_new w _), Nat.zero_add]
  match j, hp with
  | 0, h => obtain rfl := Option.some.inj h; rfl
theorem svS4 (l : List UInt8) : sv l = .string ⟨l.toArray⟩ := rfl
theorem kQL35 (w : World) : Calls Tryz.prog 86 #[.int .i64 3, .int .i64 5] w fun e w' => e = .returned (.tuple #[.int .i64 4, .int .i64 0]) ∧ Below w.heap.size w w' := by
  have := ProofLen_any 3 5 w
  rwa [kprf35] at this
theorem kRS {l p N : List UInt8} (hl : l.length = 32) (hp : p.length = 32) (hN : Hid (Tree.nd l p = N)) (x : Addr) (w : World) (hA : At w (some x) [p]) (T : Tabs w) :
    Calls Tryz.prog 42 #[.int .i64 1, .int .i64 2, sv l, .slice (some x) 1 1] w fun e w' => e = .returned (.tuple #[sv l, sv N, .int .i64 0]) ∧ Below w.heap.size w w' := by
  have := RootsOf_any 1 2 l [p] (some x) 1 w (by simp) hA T
  rwa [kroots hl hp hN.out] at this
theorem kCN {l p N : List UInt8} (hl : l.length = 32) (hp : p.length = 32) (hN : Hid (Tree.nd l p = N)) (hne : Hid (N ≠ p)) (x : Addr) (w : World) (hA : At w (some x) [p]) (T : Tabs w) :
    Calls Tryz.prog 15 #[.int .i64 1, .int .i64 2, sv l, sv p, .slice (some x) 1 1] w fun e w' => e = .returned (.int .i64 44) ∧ Below w.heap.size w w' := by
  have := Consistency_any 1 2 l p [p] (some x) 1 w (by simp) hA T
  rwa [kcon hl hp hN.out hne.out] at this
end Go.Proofs.YtappjeepajjioaaGreatDoor
