import Derived.Test.YthoekndjeclimaaGreatDoorCXP1
import Derived.Test.YthoekndjeclimaaGreatDoorCO28
import Derived.Test.YthoekndjeclimaaGreatDoorCO16
namespace Go.Proofs.YthoekndjeclimaaGreatDoor
open Go.RowKit
set_option maxRecDepth 100000 in
set_option maxHeartbeats 2000000 in
theorem rRootOf_any (n m : Int) (leaf : List UInt8) (path : List (List UInt8)) (a : Option Addr) (cap : Nat) (w : World) (hlc : path.length ≤ cap) (hc : cap ≤ 9223372036854775807) (hA : At w a path) :
    Calls Tryz.prog 53 #[.int .i64 n, .int .i64 m, sv leaf, .slice a path.length cap] w fun e w' => e = .returned (.tuple #[sv (rootOf4 n m leaf path).1, .int .i64 (rootOf4 n m leaf path).2]) ∧ Below w.heap.size w w' := by
  have h1 := rPathLen_any n m w
  by_cases h : (lenOf n m).2 = 0
  · obtain ⟨a1, a2, a3, a4, hl⟩ := lenOf_ok h
    have h2 := r4hashes_any path a cap w (by omega) hA
    have hs := sv_size leaf
    by_cases hk : chk leaf path (lenOf n m).1 = 0
    · have ho : rootOf4 n m leaf path = (Tree.upd leaf (Tree.D n.toNat m.toNat) path, 0) := by rw [rootOf4, if_pos h, if_pos hk]
      rw [ho]
      obtain ⟨hlen, hlf, hall⟩ := chk_len hk
      rw [hall] at h2
      rw [hl] at hlen h1
      simp only at hlen h1
      have h4 := rup_any _ n.toNat m.toNat leaf path a cap w (Nat.le_refl _) (by omega) (by omega) (by omega) hlc hc hA
      rw [Int.toNat_of_nonneg a3, Int.toNat_of_nonneg (show 0 ≤ n by omega)] at h4
      generalize Tree.upd leaf (Tree.D n.toNat m.toNat) path = X at *
      rw [hlf] at hs
      rw [show sv leaf = .string ⟨leaf.toArray⟩ from rfl] at h4 ⊢
      generalize ByteArray.mk leaf.toArray = LF at *
      have b0 : ((LF.size : Int) != 32) = false := by simp; omega
      generalize (Tree.D n.toNat m.toNat).length = L at *
      obtain ⟨pl, hpl⟩ : ∃ pl, path.length = pl := ⟨_, rfl⟩
      rw [hpl] at hlen h2 h4 hlc ⊢
      obtain rfl : pl = L := by omega
      have b1 : ((pl : Int) != (pl : Int)) = false := by simp
      clear hA hl hk h ho hlen hall hlf hpl
      go_enter Tryz.func53, Tryz.ntmps53
      go_wp2_with (first
        | (go_at_call 73; refine h1.mono ?_; rintro e w1 ⟨rfl, rfl⟩)
        | (go_at_call 74; refine h2.mono ?_; rintro e w2 ⟨rfl, rfl⟩)
        | (go_at_call 75; refine h4.mono ?_; rintro e w4 ⟨rfl, hw4⟩))
      go_ret2
      exact ⟨rfl, hw4⟩
    · have ho : rootOf4 n m leaf path = ([], chk leaf path (lenOf n m).1) := by rw [rootOf4, if_pos h, if_neg hk]
      rw [ho, svE]
      rw [hl] at h1 hk ⊢
      simp only at h1 hk ⊢
      generalize (Tree.D n.toNat m.toNat).length = L at *
      unfold chk at hk ⊢
      by_cases h32 : leaf.length = 32 ∧ path.all (·.length == 32) = true
      · rw [if_pos h32] at hk ⊢
        rw [h32.2] at h2
        have hne : ¬ ((path.length : Nat) : Int) = (L : Int) := fun h => by rw [if_pos h] at hk; exact hk rfl
        rw [if_neg hne]
        rw [h32.1] at hs
        rw [show sv leaf = .string ⟨leaf.toArray⟩ from rfl]
        generalize ByteArray.mk leaf.toArray = LF at *
        have b0 : ((LF.size : Int) != 32) = false := by simp; omega
        generalize path.length = pl at *
        have b1 : ((pl : Int) != (L : Int)) = true := by simp; omega
        clear hA hl ho h hk h32
        go_enter Tryz.func53, Tryz.ntmps53
        go_wp2_with (first
          | (go_at_call 73; refine h1.mono ?_; rintro e w1 ⟨rfl, rfl⟩)
          | (go_at_call 74; refine h2.mono ?_; rintro e w2 ⟨rfl, rfl⟩))
        go_ret2
        exact ⟨rfl, Below.refl _ _⟩
      · rw [if_neg h32]
        rw [show sv leaf = .string ⟨leaf.toArray⟩ from rfl]
        by_cases hlf : leaf.length = 32
        · have hall : path.all (·.length == 32) = false := by
            cases hh : path.all (·.length == 32)
            · rfl
            · exact absurd ⟨hlf, hh⟩ h32
          rw [hall] at h2
          rw [hlf] at hs
          generalize ByteArray.mk leaf.toArray = LF at *
          have b0 : ((LF.size : Int) != 32) = false := by simp; omega
          generalize path.length = pl at *
          clear hA hl ho h hk h32
          go_enter Tryz.func53, Tryz.ntmps53
          go_wp2_with (first
            | (go_at_call 73; refine h1.mono ?_; rintro e w1 ⟨rfl, rfl⟩)
            | (go_at_call 74; refine h2.mono ?_; rintro e w2 ⟨rfl, rfl⟩))
          go_ret2
          exact ⟨rfl, Below.refl _ _⟩
        · generalize path.all (·.length == 32) = bb at *
          generalize ByteArray.mk leaf.toArray = LF at *
          have b0 : ((LF.size : Int) != 32) = true := by simp; omega
          generalize path.length = pl at *
          clear hA hl ho h hk h32
          go_enter Tryz.func53, Tryz.ntmps53
          go_wp2_with (first
            | (go_at_call 73; refine h1.mono ?_; rintro e w1 ⟨rfl, rfl⟩)
            | (go_at_call 74; refine h2.mono ?_; rintro e w2 ⟨rfl, rfl⟩))
          go_ret2
          exact ⟨rfl, Below.refl _ _⟩
  · have ho : rootOf4 n m leaf path = ([], (lenOf n m).2) := by rw [rootOf4, if_neg h]
    rw [ho, svE]
    generalize (lenOf n m).1 = y at *
    generalize (lenOf n m).2 = z at *
    have b0 : (z != 0) = true := by simpa using h
    generalize path.length = pl at *
    clear hA ho
    go_enter Tryz.func53, Tryz.ntmps53
    go_wp2_with (go_at_call 73; refine h1.mono ?_; rintro e w1 ⟨rfl, rfl⟩)
    go_ret2
    exact ⟨rfl, Below.refl _ _⟩
set_option maxRecDepth 100000 in
set_option maxHeartbeats 2000000 in
theorem rInclusion_any (n m : Int) (leaf : List UInt8) (path : List (List UInt8)) (root : List UInt8) (a : Option Addr) (cap : Nat) (w : World) (hlc : path.length ≤ cap) (hc : cap ≤ 9223372036854775807) (hA : At w a path) :
    Calls Tryz.prog 25 #[.int .i64 n, .int .i64 m, sv leaf, .slice a path.length cap, sv root] w fun e w' => e = .returned (.int .i64 (incOf4 n m leaf path root)) ∧ Below w.heap.size w w' := by
  have h1 := rRootOf_any n m leaf path a cap w hlc hc hA
  have hs := sv_size root
  unfold incOf4
  generalize rootOf4 n m leaf path = o at *
  obtain ⟨r, z⟩ := o
  simp only at h1 ⊢
  generalize path.length = pl at *
  clear hA
  by_cases hz : z = 0
  · subst hz
    rw [if_pos rfl]
    by_cases h32 : root.length = 32
    · rw [if_pos h32]
      rw [h32] at hs
      by_cases he : r = root
      · subst he
        rw [if_pos rfl]
        have e1 := str_eq r
        have e2 : ((ByteArray.mk r.toArray).toList == (ByteArray.mk r.toArray).toList) = true := by simp
        rw [show sv r = .string ⟨r.toArray⟩ from rfl] at h1 ⊢
        generalize ByteArray.mk r.toArray = R at *
        have b0 : ((R.size : Int) != 32) = false := by simp; omega
        go_enter Tryz.func25, Tryz.ntmps25
        go_wp2_with (go_at_call 53; refine h1.mono ?_; rintro e w1 ⟨rfl, hw1⟩)
        go_ret
        exact ⟨rfl, hw1⟩
      · rw [if_neg he]
        have e1 := str_ne he
        have e2 : ((ByteArray.mk r.toArray).toList == (ByteArray.mk root.toArray).toList) = false := by rw [← Bool.not_inj_iff]; exact e1
        rw [show sv r = .string ⟨r.toArray⟩ from rfl] at h1
        rw [show sv root = .string ⟨root.toArray⟩ from rfl]
        generalize ByteArray.mk r.toArray = R at *
        generalize ByteArray.mk root.toArray = R' at *
        have b0 : ((R'.size : Int) != 32) = false := by simp; omega
        go_enter Tryz.func25, Tryz.ntmps25
        go_wp2_with (go_at_call 53; refine h1.mono ?_; rintro e w1 ⟨rfl, hw1⟩)
        go_ret
        exact ⟨rfl, hw1⟩
    · rw [if_neg h32]
      rw [show sv root = .string ⟨root.toArray⟩ from rfl]
      generalize ByteArray.mk root.toArray = R' at *
      have b0 : ((R'.size : Int) != 32) = true := by simp; omega
      go_enter Tryz.func25, Tryz.ntmps25
      go_wp2_with (go_at_call 53; refine h1.mono ?_; rintro e w1 ⟨rfl, hw1⟩)
      go_ret
      exact ⟨rfl, hw1⟩
  · rw [if_neg hz]
    have b0 : (z != 0) = true := by simpa using hz
    go_enter Tryz.func25, Tryz.ntmps25
    go_wp2_with (go_at_call 53; refine h1.mono ?_; rintro e w1 ⟨rfl, hw1⟩)
    go_ret
    exact ⟨rfl, hw1⟩
end Go.Proofs.YthoekndjeclimaaGreatDoor

namespace Go.Proofs.YthoekndjeclimaaGreatDoor
open Go.RowKit
/- THE DOCUMENT'S SIDE OF LAYER 6 -/
set_option maxRecDepth 100000 in
set_option maxHeartbeats 1600000 in
theorem r6hashes_any (l : List (List UInt8)) (a : Option Addr) (cap : Nat) (w : World) (hc : l.length ≤ 9223372036854775807) (hA : At w a l) :
    Calls Tryz.prog 32 #[.slice a l.length cap] w fun e w' => e = .returned (.bool (decide (wrg l = 0))) ∧ w' = w := by
  have HA := hid hA
  obtain ⟨z, hz⟩ : ∃ z, Hid (decide (wrg l = 0) = z) := ⟨_, rfl⟩
  rw [hz.out]
  have zz : Hid (l.all (·.length == 32) = true → decide ((l.length : Int) ≤ 4096) = z) := fun e => by
    rw [← hz.out]
    refine decide_eq_decide.2 ?_
    unfold wrg
    by_cases h : 4096 < l.length
    · rw [if_pos h]; simp; omega
    · rw [if_neg h, if_pos e]; simp; omega
  have zf : Hid (l.all (·.length == 32) = false → z = false) := fun e => by
    rw [← hz.out]
    refine decide_eq_false fun h => ?_
    unfold wrg at h
    rw [e] at h
    simp at h
    split at h <;> omega
  generalize hn : l.length = n at *
  clear hA hz
  go_enter Tryz.func32, Tryz.ntmps32
  go_wp2
  go_loopw [3] (fun i w' => ∃ k : Nat, k ≤ n ∧ i = .int .i64 (k : Int) ∧ Hid ((l.take k).all (·.length == 32) = true) ∧ w' = w) (fun i _ => n - (intOf i).toNat)
  case atStart => exact ⟨0, by omega, rfl, rfl, rfl⟩
  case round =>
    obtain ⟨k, hk, rfl, hall, rfl⟩ := hrel
    by_cases hkn : k < n
    · have b0 : (k : Int) < (n : Int) := by omega
      obtain ⟨x, rfl⟩ := HA.out.pos (by omega)
      obtain ⟨s, hs, hcell⟩ := HA.out.cell k (by omega)
      by_cases h32 : s.size = 32
      · have b1 : ((s.size : Int) != 32) = false := by simp; omega
        have e2 := hid (all_take l k (by omega) hall.out (by rw [← hs.out, data_length]; exact h32))
        clear HA
        go_wp2
        exact ⟨⟨k + 1, by omega, by go_num, e2, trivial⟩, by simp [intOf]; omega⟩
      · have b1 : ((s.size : Int) != 32) = true := by simp; omega
        obtain rfl := zf.out (all_not l k (by omega) (by rw [← hs.out, data_length]; exact h32))
        clear HA
        go_wp2
        go_ret
        exact ⟨rfl, rfl⟩
    · obtain rfl : k = n := by omega
      have b0 : ¬ (k : Int) < (k : Int) := by omega
      rw [← hn, List.take_length] at hall
      have e3 := zz.out hall.out
      go_wp2
      go_ret
      exact ⟨rfl, rfl⟩
set_option maxRecDepth 100000 in
set_option maxHeartbeats 1600000 in
theorem r6text_any (ra rb : List UInt8) {t : List UInt8} (ht : Hid (Tree.nt ra rb = t)) (e1 : ra.length ≤ 140737488355328) (e2 : rb.length ≤ 140737488355328) (w : World) :
    Calls Tryz.prog 35 #[.string ⟨ra.toArray⟩, .string ⟨rb.toArray⟩] w fun e w' => e = .returned (.string ⟨t.toArray⟩) ∧ w' = w := by
  have s1 : ¬ 9223372036854775807 < 1 + ra.length := by omega
  have s2 : ¬ 9223372036854775807 < 1 + ra.length + rb.length := by omega
  go_enter Tryz.func35, Tryz.ntmps35
  go_wp2
  have hv : Value.string ({ data := #[1] } ++ { data := ra.toArray } ++ { data := rb.toArray }) = .string ⟨t.toArray⟩ := by
    rw [← ht.out]
    unfold Tree.nt
    congr 1
  go_ret
  exact ⟨hv ▸ rfl, rfl⟩
set_option maxRecDepth 100000 in
theorem r6root_any (l : List (List UInt8)) (ok : Okl l) (a : Option Addr) (cap : Nat) (w : World) (hl : l.length ≤ cap) (hc : cap ≤ 9223372036854775807) (hA : At w a l) {r : List UInt8} (hr : Hid (Tree.root l = r)) :
    Calls Tryz.prog 33 #[.slice a l.length cap] w fun e w' => e = .returned (.string ⟨r.toArray⟩) ∧ Below w.heap.size w w' := by
  have i1 := rRoot_any l a cap w hl hc hA
  rw [ok.out, hr.out, svS] at i1
  generalize l.length = n at *
  clear hA
  go_enter Tryz.func33, Tryz.ntmps33
  go_wp2_with (go_at_call 56; refine i1.mono ?_; rintro e w1 ⟨rfl, b1⟩)
  go_ret
  exact ⟨rfl, b1⟩
end Go.Proofs.YthoekndjeclimaaGreatDoor

namespace Go.Proofs.YthoekndjeclimaaGreatDoor
open Go.RowKit

theorem conv_two (n : Nat) (hn : n ≤ 255) (w : World) : (convert 65 9 (.slice (some ⟨w.heap.size, 0, none⟩) 2 2)).run Tryz.prog (w.alloc (.cells #[.int .u8 (n : Int), .int .u8 0] 5)) = .ok (sv [UInt8.ofNat n, 0]) (w.alloc (.cells #[.int .u8 (n : Int), .int .u8 0] 5)) := by
  refine run_conv_bytes (P := Tryz.prog) _ 65 9 5 w.heap.size 0 2 2 [UInt8.ofNat n, 0] rfl Tryz.underlying65 Tryz.underlying5 Tryz.underlying9 ?_
  intro j v hv
  have hX := heap_alloc_new w (.cells #[.int .u8 (n : Int), .int .u8 0] 5)
  match j, hv with
  | 0, hv =>
    have e : v = .int .u8 (n : Int) := by
      simp [bv] at hv
      rw [← hv]; congr 1; omega
    rw [e, cell_of_row _ _ _ _ _ _ hX]; rfl
  | 1, hv =>
    have e : v = .int .u8 0 := by simp [bv] at hv; rw [← hv]
    rw [e, cell_of_row _ _ _ _ _ _ hX]; rfl
  | j + 2, hv => simp [bv] at hv
end Go.Proofs.YthoekndjeclimaaGreatDoor
