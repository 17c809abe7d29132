import Derived.Test.YtacegaljoogfcaaDoorPkK4
import Derived.Lib.AppendZeros
namespace Go.Proofs.YtacegaljoogfcaaDoor
open Go.RowKit

def sliceLen : Value → Nat
  | .slice _ n _ => n
  | _ => 0

set_option maxRecDepth 100000 in
set_option maxHeartbeats 400000 in
theorem filled_any (s : ByteArray) (hs : s.size ≤ 140737488355000) (w : World) :
    Calls Tryd.prog 19 #[.string s] w fun e w' => e = .returned (sv (s.data.toList ++ Sha.filling s.size)) ∧ Below w.heap.size w w' := by
  obtain ⟨v0, w0, hc0, hown0, hb0⟩ := conv_bytes w s (by rw [maxLen]; omega)
  obtain ⟨a0, cap0, rfl⟩ := hown0.shape
  have hb0s := hb0.size
  obtain ⟨v1, w1, hc1, hown1, hg1, _⟩ := append_new w0 w.heap.size _ s.data.toList [128] 1 #[.int .u8 128] rfl rfl hown0 (by rw [data_length]; omega) hb0s (by omega)
  have hb1 : Below w.heap.size w w1 := hb0.trans (Below.ofGrown hg1 hown0.ge hb0s)
  rw [bv_length, data_length] at hc0 hc1
  obtain ⟨z, hz⟩ : ∃ z, z = (119 - s.size % 64) % 64 := ⟨_, rfl⟩
  have Hz := hid hz
  have Hown1 := hid hown1
  have Hb1 := hid hb1
  clear hz hown0 hown1 hb0 hb1 hg1 hb0s
  generalize hn : s.size = n at *
  have hs' : (n : Int) ≤ 140737488355000 := by omega
  go_enter Tryd.func19, Tryd.ntmps19
  go_wp2_with (at_builtin; go_must (refine Lib.wpList_append_run _ rfl _ _ 39 39 rfl _ _ rfl rfl _ _ hc1 ?_))
  have hz64 : z < 64 := by have := Hz.out; omega
  have e1 : (bv (s.data.toList ++ [128])).length = n + 1 := by simp [hn]
  obtain ⟨a1, cap1, hv1⟩ := Hown1.out.shape
  rw [e1] at hv1
  subst hv1
  clear e1
  go_loopw [4] (fun v w' => ∃ (k : Nat) (a : Option Addr) (cap : Nat), v = .slice a (n + 1 + k) cap ∧ k ≤ z ∧ OwnB w' w.heap.size (.slice a (n + 1 + k) cap) (s.data.toList ++ 128 :: List.replicate k 0) ∧ Below w.heap.size w w') (fun v _ => n + 1 + z - sliceLen v)
  case atStart =>
    exact ⟨0, a1, cap1, rfl, by omega, Hown1.out, Hb1.out⟩
  case round =>
    obtain ⟨k, a, cap, rfl, hk, hown, hb⟩ := hrel
    have Hown := hid hown
    have Hb := hid hb
    have hbs := hb.size
    by_cases hlt : k < z
    · have g1 : (((n + 1 + k : Nat) : Int) % 64 != 56) = true := by have := Hz.out; simp; omega
      obtain ⟨v2, w2, hc2, hown2, hg2, _⟩ := append_new wr w.heap.size _ _ [0] 1 #[.int .u8 0] rfl rfl hown (by simp; omega) hbs (by omega)
      have e2 : (s.data.toList ++ 128 :: List.replicate k 0) ++ [0] = s.data.toList ++ 128 :: List.replicate (k + 1) 0 := by rw [List.replicate_succ']; simp
      rw [e2] at hown2
      have e3 : (bv (s.data.toList ++ 128 :: List.replicate (k + 1) 0)).length = n + 1 + (k + 1) := by simp [hn]; omega
      obtain ⟨a2, cap2, hv2⟩ := hown2.shape
      rw [e3] at hv2
      subst hv2
      clear e2 e3
      have Hown2 := hid hown2
      have Hb2 := hid (hb.trans (Below.ofGrown hg2 hown.ge hbs))
      clear hown hb hown2 hg2
      go_wp2_with (at_builtin; go_must (refine Lib.wpList_append_run _ rfl _ _ 39 39 rfl _ _ rfl rfl _ _ hc2 ?_))
      exact ⟨⟨k + 1, a2, cap2, rfl, by omega, Hown2.out, Hb2.out⟩, by simp [sliceLen]; omega⟩
    · obtain rfl : k = z := by omega
      have g1 : (((n + 1 + k : Nat) : Int) % 64 != 56) = false := by have := Hz.out; simp; omega
      clear hb
      have hcv : (convert 39 9 (.slice a (n + 1 + k) cap)).run Tryd.prog wr.drew = .ok (sv (s.data.toList ++ 128 :: List.replicate k 0)) wr.drew := conv_own hown.drew (by intro e; injection e; omega)
      have hw8 : IntKind.i64.wrap (8 * (n : Int)) = 8 * (n : Int) := wrap_small _ (by omega) (by omega)
      clear hown
      have hadd := add_sv Tryd.prog 9 (s.data.toList ++ 128 :: List.replicate k 0) (Sha.be (8 * n) 8) (by simp [Sha.be_length]; omega)
      go_wp2
      go_region_with (go_at_call 22; refine (big8 (8 * n) _ (by omega) _).mono ?_; rintro e w5 ⟨rfl, hw5⟩; go_must (have hcv5 := conv_own (Hown.out.drew.below hw5 (Nat.le_refl _)) (by intro e; injection e; omega)))
      all_goals go_wp2
      all_goals go_ret
      all_goals refine ⟨?_, Hb.out.drew.trans (hw5.mono hbs)⟩
      all_goals show Ending.returned (sv _) = _
      all_goals rw [Sha.filling, ← Hz.out]
end Go.Proofs.YtacegaljoogfcaaDoor
