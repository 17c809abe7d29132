import Derived.Test.YtcaephnicaepaaaDoorB2
namespace Go.Proofs.YtcaephnicaepaaaDoor
open Go.RowKit

set_option maxRecDepth 100000 in
set_option maxHeartbeats 1000000 in
theorem rhex_any (s : ByteArray) (hs : s.size ≤ 70368744177664) (w : World) :
    Calls Tryd.prog 24 #[.string s] w fun e w' => e = .returned (sv (Tx.hex s.data.toList)) ∧ Below w.heap.size w w' := by
  obtain ⟨w0, hmk, hown0, hb0⟩ := make_B w (2 * s.size) (by omega)
  have e2 : ((2 * s.size : Nat) : Int) = 2 * (s.size : Int) := by omega
  rw [e2] at hmk
  have Hown0 := hid hown0
  have Hb0 := hid hb0
  clear hown0 hb0 e2
  have hs' : (s.size : Int) ≤ 70368744177664 := by omega
  go_enter Tryd.func24, Tryd.ntmps24
  go_wp2
  go_loopw [3, 4] (fun v i w' => ∃ (k : Nat) (a : Addr) (cap : Nat), k ≤ s.size ∧ i = .int .i64 k ∧ v = .slice (some a) (2 * k) cap ∧ OwnB w' w.heap.size (.slice (some a) (2 * k) cap) (Tx.hex (s.data.toList.take k)) ∧ Below w.heap.size w w') (fun _ i _ => s.size - (intOf i).toNat)
  case atStart => exact ⟨0, _, _, by omega, rfl, rfl, Hown0.out, Hb0.out⟩
  case round =>
    obtain ⟨k, a, cap, hk, rfl, rfl, hown, hb⟩ := hrel
    by_cases hlt : k < s.size
    · have hlt' : (k : Int) < (s.size : Int) := by omega
      obtain ⟨x, ex, lx, ix, jx⟩ := index_any s (k : Int) k rfl hlt
      have hd : k < s.data.toList.length := by rw [data_length]; exact hlt
      have it1 := index_tab Tx.hexTab ((x : Int) / 16) (x / 16) (by omega) (by show _ < 16; omega) (Tx.hexSign (x / 16)).toNat (by rw [Tx.hexTab_at _ (by omega)]) .u8
      have it2 := index_tab Tx.hexTab ((x : Int) % 16) (x % 16) (by omega) (by show _ < 16; omega) (Tx.hexSign (x % 16)).toNat (by rw [Tx.hexTab_at _ (by omega)]) .u8
      obtain ⟨v2, w2, hc, hown2, hg2, _⟩ := append_new wr.drew w.heap.size _ _ [Tx.hexSign (x / 16), Tx.hexSign (x % 16)] 2 #[.int .u8 (Tx.hexSign (x / 16)).toNat, .int .u8 (Tx.hexSign (x % 16)).toNat] rfl rfl hown.drew (by rw [Tx.hex_length, List.length_take, data_length]; omega) hb.size (by omega)
      rw [ex.out, ← Tx.hex_take s.data.toList k hd] at hown2
      have hl2 : (bv (Tx.hex (s.data.toList.take (k + 1)))).length = 2 * (k + 1) := by rw [bv_length, Tx.hex_length, List.length_take, data_length]; omega
      obtain ⟨a2, cap2, rfl⟩ := hown2.shapeS (by omega) _ hl2
      simp only [Tx.hexTab] at it1 it2
      have Hown2 := hid hown2
      have Hb2 := hid (hb.drew.trans (Below.ofGrown hg2 hown.ge hb.size))
      have q1 : IntKind.u8.wrap ((x : Int) / 16) = (x : Int) / 16 := by rw [IntKind.wrap_u8']; omega
      have q2 : IntKind.u8.wrap ((x : Int) % 16) = (x : Int) % 16 := by rw [IntKind.wrap_u8']; omega
      have q3 : Int.tdiv (x : Int) 16 = (x : Int) / 16 := Int.tdiv_eq_ediv_of_nonneg (by omega)
      have q4 : Int.tmod (x : Int) 16 = (x : Int) % 16 := Int.tmod_eq_emod_of_nonneg (by omega)
      clear hown2 hl2 hg2 hown hb
      go_wp2
      go_region_held3 (fun _ => True) (trivial) ((refine Lib.wp_append_run _ _ _ 48 48 (by rfl) _ _ (by rfl) (by rfl) _ _ hc ?_))
      all_goals go_wp2
      all_goals first | exact ⟨⟨k + 1, a2, cap2, by omega, by go_num, rfl, Hown2.out, Hb2.out⟩, by simp [intOf]; omega⟩ | (refine ⟨?_, by simp [intOf]; omega⟩; (repeat apply Exists.intro); exact ⟨⟨k + 1, a2, cap2, by omega, by go_num, rfl, Hown2.out, Hb2.out⟩, rfl⟩)
    · obtain rfl : k = s.size := by omega
      have hcv := conv_own hown (by intro h; injection h with h; cases h)
      rw [List.take_of_length_le (by rw [data_length]; omega)] at hcv
      have Hb := hid hb
      clear hown hb
      go_wp2
      go_ret
      exact ⟨rfl, Hb.out⟩
end Go.Proofs.YtcaephnicaepaaaDoor
