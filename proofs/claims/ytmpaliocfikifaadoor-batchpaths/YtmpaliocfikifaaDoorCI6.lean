import Derived.Test.YtmpaliocfikifaaDoorCI5
import Derived.Test.YtmpaliocfikifaaDoorCFN3
namespace Go.Proofs.YtmpaliocfikifaaDoor
open Go.RowKit
set_option maxRecDepth 100000 in
set_option maxHeartbeats 2000000 in
theorem vnode_any {l r m : List UInt8} (h : Hid (Tree.nd l r = m)) (w : World) (T : Tabs w) :
    Calls Tryd.prog 53 #[sv l, sv r] w fun e w' => e = .returned (sv m) ∧ Below w.heap.size w w' := by
  obtain ⟨m', d, hm⟩ : ∃ m' d, Hid (nodeOf l r = (m', d)) := ⟨_, _, rfl⟩
  have e' := hid (show m = m' by rw [← h.out, ← nodeOf_nd, hm.out])
  go_enter Tryd.func53, Tryd.ntmps53
  go_wp2_with (go_at_call 67; refine (node_at hm _ T).mono ?_; rintro e w1 ⟨rfl, hw1⟩)
  go_ret
  exact ⟨by rw [e'.out]; rfl, hw1⟩
set_option maxRecDepth 100000 in
set_option maxHeartbeats 2000000 in
theorem isHash_any (s : ByteArray) (w : World) :
    Calls Tryd.prog 32 #[.string s] w fun e w' => e = .returned (.bool ((s.size : Int) == 32)) ∧ w' = w := by
  go_enter Tryd.func32, Tryd.ntmps32
  go_wp2
  go_ret
  exact ⟨rfl, rfl⟩
/-- what is wrong with a list of hashes that should be n -/
def chk (x : List UInt8) (l : List (List UInt8)) (n : Int) : Int := if x.length = 32 ∧ l.all (·.length == 32) = true then (if (l.length : Int) = n then 0 else 43) else 42
theorem isHash_at (s : ByteArray) (b : Bool) (h : ((s.size : Int) == 32) = b) (w : World) :
    Calls Tryd.prog 32 #[.string s] w fun e w' => e = .returned (.bool b) ∧ w' = w := by
  have := isHash_any s w
  rwa [h] at this
set_option maxRecDepth 100000 in
set_option maxHeartbeats 2000000 in
theorem checkHashes_any (x : List UInt8) (l : List (List UInt8)) (n : Int) (a : Option Addr) (cap : Nat) (w : World) (hc : l.length ≤ 9223372036854775807) (hA : At w a l) :
    Calls Tryd.prog 29 #[sv x, .slice a l.length cap, .int .i64 n] w fun e w' => e = .returned (.int .i64 (chk x l n)) ∧ w' = w := by
  have hx : (ByteArray.mk x.toArray).size = x.length := sv_size x
  show Calls _ _ #[.string ⟨x.toArray⟩, _, _] _ _
  generalize ByteArray.mk x.toArray = X at *
  by_cases h1 : x.length = 32
  · have i1 := isHash_at X true (by simp; omega) w
    have e0 : chk x l n = if l.all (·.length == 32) = true then (if (l.length : Int) = n then 0 else 43) else 42 := by unfold chk; simp [h1]
    rw [e0]
    clear e0 h1 hx
    generalize hn : l.length = k at *
    have HA := hid hA
    obtain ⟨z, hz⟩ : ∃ z : Int, Hid ((if l.all (·.length == 32) = true then (if (k : Int) = n then 0 else 43) else 42) = z) := ⟨_, rfl⟩
    rw [hz.out]
    clear hA
    go_enter Tryd.func29, Tryd.ntmps29
    go_wp2_with (go_at_call 32; refine i1.mono ?_; rintro e w1 ⟨rfl, rfl⟩)
    go_loopw [14] (fun i w' => ∃ j : Nat, j ≤ k ∧ i = .int .i64 (j : Int) ∧ Hid ((l.take j).all (·.length == 32) = true) ∧ w' = w1) (fun i _ => k - (intOf i).toNat)
    case atStart => exact ⟨0, by omega, rfl, rfl, rfl⟩
    case round =>
      obtain ⟨j, hj, rfl, hall, rfl⟩ := hrel
      by_cases hjk : j < k
      · have b0 : (j : Int) < (k : Int) := by omega
        obtain ⟨y, rfl⟩ := HA.out.pos (by omega)
        obtain ⟨s, hs, hcell⟩ := HA.out.cell j (by omega)
        by_cases h32 : s.size = 32
        · have i2 := isHash_at s true (by simp; omega) wr
          have e2 := hid (all_take l j (by omega) hall.out (by rw [← hs.out, data_length]; exact h32))
          clear HA hall hs i1
          go_wp2_with (go_at_call 32; refine i2.mono ?_; rintro e w2 ⟨rfl, rfl⟩)
          exact ⟨⟨j + 1, by omega, by go_num, e2, trivial⟩, by simp [intOf]; omega⟩
        · have i2 := isHash_at s false (by simp; omega) wr
          have e2 := hid (all_not l j (by omega) (by rw [← hs.out, data_length]; exact h32))
          have e3 := hid (show z = 42 by have := hz.out; rw [e2.out] at this; exact this.symm)
          clear HA hall hs i1 e2 hz
          go_wp2_with (go_at_call 32; refine i2.mono ?_; rintro e w2 ⟨rfl, rfl⟩)
          go_ret
          exact ⟨by rw [e3.out]; rfl, rfl⟩
      · obtain rfl : j = k := by omega
        have b0 : ¬ (j : Int) < (j : Int) := by omega
        rw [← hn, List.take_length] at hall
        by_cases hk : (j : Int) = n
        · have b1 : ((j : Int) != n) = false := by simp; omega
          have e3 := hid (show z = 0 by have := hz.out; rw [hall.out, if_pos rfl, if_pos hk] at this; exact this.symm)
          clear HA hall hz i1
          go_wp2
          go_ret
          exact ⟨by rw [e3.out]; rfl, rfl⟩
        · have b1 : ((j : Int) != n) = true := by simp; omega
          have e3 := hid (show z = 43 by have := hz.out; rw [hall.out, if_pos rfl, if_neg hk] at this; exact this.symm)
          clear HA hall hz i1
          go_wp2
          go_ret
          exact ⟨by rw [e3.out]; rfl, rfl⟩
  · have i1 := isHash_at X false (by simp; omega) w
    have e0 : chk x l n = 42 := by unfold chk; rw [if_neg (fun h => h1 h.1)]
    rw [e0]
    clear e0 hx
    generalize l.length = k at *
    clear hA
    go_enter Tryd.func29, Tryd.ntmps29
    go_wp2_with (go_at_call 32; refine i1.mono ?_; rintro e w1 ⟨rfl, rfl⟩)
    go_ret
    exact ⟨rfl, rfl⟩
set_option maxRecDepth 100000 in
set_option maxHeartbeats 2000000 in
theorem vcopied_any (l : List (List UInt8)) (a : Option Addr) (cap : Nat) (w : World) (hn : l.length ≤ 8796093021952) (hA : At w a l) :
    Calls Tryd.prog 51 #[.slice a l.length cap] w fun e w' => e = .returned (.slice (some ⟨w.heap.size, 0, none⟩) l.length l.length) ∧ Row w' w.heap.size l ∧ Below w.heap.size w w' := by
  have hmk := make_texts w l.length (by omega)
  have R1 : Row (w.alloc (.cells (svs (List.replicate l.length [])).toArray 9)) w.heap.size (List.replicate l.length [] ++ []) := by
    rw [List.append_nil]; exact heap_alloc_new w _
  have hb1 := (Below.refl w.heap.size w).alloc (Nat.le_refl _) (.cells (svs (List.replicate l.length [])).toArray 9)
  obtain ⟨w2, hcp, hR2, hb2⟩ := copy_texts _ w.heap.size a cap l [] (hA.below hb1 (Nat.le_refl _)) R1 l.length l.length (by simp)
  have HB2 := hid (show Below w.heap.size w w2 from hb1.trans (hb2.below (Nat.le_refl _) (by rw [size_alloc]; omega)))
  rw [List.append_nil] at hR2
  have HR2 := hid hR2
  clear hR2 R1 hb2 hb1 hA
  generalize w.alloc (.cells (svs (List.replicate l.length [])).toArray 9) = w1 at *
  generalize l.length = n at *
  go_enter Tryd.func51, Tryd.ntmps51
  go_wp2
  go_ret
  exact ⟨rfl, HR2.out, HB2.out⟩
end Go.Proofs.YtmpaliocfikifaaDoor
