import Derived.Test.YtcaephnicaepaaaDoorX3
namespace Go.Proofs.YtcaephnicaepaaaDoor
open Go.RowKit

theorem take_data (r : ByteArray) (k : Nat) : (r.extract 0 k).data.toList = r.data.toList.take k := by
  rw [Lib.extract_data]; simp
theorem take_size (r : ByteArray) (k : Nat) (h : k ≤ r.size) : (r.extract 0 k).size = k := by
  rw [← data_length, take_data, List.length_take, data_length]; omega
theorem drop_size (r : ByteArray) (k : Nat) : (r.extract k r.size).size = r.size - k := by
  rw [← data_length, drop_rest, List.length_drop, data_length]
theorem Own.ne {w : World} {base : Nat} {v : Value} {cs : List Value} (h : Own w base v cs) (hp : 0 < cs.length) : v ≠ .slice none 0 0 := by
  rcases h with ⟨_, rfl⟩ | ⟨g, cap, rfl, _⟩
  · simp at hp
  · intro h; injection h with h; cases h

set_option maxRecDepth 100000 in
set_option maxHeartbeats 1000000 in
theorem base64_any (s : ByteArray) (hs : s.size ≤ 70368744177664) (w : World) :
    Calls Tryd.prog 11 #[.string s] w fun e w' => e = .returned (sv (Tx.b64 s.data.toList)) ∧ Below w.heap.size w w' := by
  obtain ⟨w0, hmk, hown0, hb0⟩ := make_B w ((s.size + 3 - 1) / 3 * 4) (by omega)
  have e2 : (((s.size + 3 - 1) / 3 * 4 : Nat) : Int) = ((s.size : Int) + 3 - 1) / 3 * 4 := by omega
  rw [e2] at hmk
  have Hown0 := hid hown0
  have Hb0 := hid hb0
  clear hown0 hb0 e2
  have hs' : (s.size : Int) ≤ 70368744177664 := by omega
  have Hl := hid (Tx.b64_length s.data.toList)
  go_enter Tryd.func11, Tryd.ntmps11
  go_wp2
  go_loopw [0, 3] (fun sv' v w' => ∃ (r : ByteArray) (acc : List UInt8), sv' = .string r ∧ r.size ≤ s.size ∧ Hid (Tx.b64 s.data.toList = acc ++ Tx.b64 r.data.toList) ∧ Hid (v ≠ .slice none 0 0) ∧ OwnB w' w.heap.size v acc ∧ Below w.heap.size w w') (fun sv' _ _ => strLen sv')
  case atStart => exact ⟨s, [], rfl, Nat.le_refl _, rfl, (by intro h; injection h with h; cases h), Hown0.out, Hb0.out⟩
  case round =>
    obtain ⟨r, acc, rfl, hr, hacc, hne, hown, hb⟩ := hrel
    have hl : acc.length ≤ 140737488355000 := by
      have := congrArg List.length hacc.out
      rw [Hl.out, data_length, List.length_append] at this
      omega
    have Hown := hid hown
    have Hb := hid hb
    have hbs := hb.size
    clear hown hb
    by_cases h3 : 3 ≤ r.size
    · have h3' : (3 : Int) ≤ (r.size : Int) := by omega
      have ts := take_size r 3 h3
      have ds := drop_size r 3
      go_wp2_with (go_at_call 35; go_must (refine (appendGroup_any w.heap.size u3 acc (r.extract 0 3) (by omega) (by omega) _ Hown.out hl hbs).mono ?_; rintro e w1 ⟨v1, rfl, hown1, hb1⟩))
      refine ⟨⟨_, acc ++ Tx.grp (r.extract 0 3).data.toList, rfl, by omega, ?_, hid (hown1.ne (by simp [Tx.grp, Tx.signs]; omega)), hown1, Hb.out.trans hb1⟩, by simp [strLen]; omega⟩
      show _ = _
      rw [hacc.out, take_data, drop_rest, List.append_assoc, ← Tx.b64_three _ (by rw [data_length]; exact h3)]
    · have h3' : ¬ (3 : Int) ≤ (r.size : Int) := by omega
      by_cases h0 : 0 < r.size
      · have h0' : (0 : Int) < (r.size : Int) := by omega
        go_wp2_with (go_at_call 35; go_must (refine (appendGroup_any w.heap.size u3 acc r (by omega) (by omega) _ Hown.out hl hbs).mono ?_; rintro e w1 ⟨v1, rfl, hown1, hb1⟩; have hcv := conv_own hown1 (hown1.ne (by simp [Tx.grp, Tx.signs]; omega))))
        go_ret
        refine ⟨?_, Hb.out.trans hb1⟩
        show Ending.returned (sv (acc ++ Tx.grp r.data.toList)) = _
        rw [hacc.out, Tx.b64_last _ (by rw [data_length]; omega) (by rw [data_length]; omega)]
      · have h0' : ¬ (0 : Int) < (r.size : Int) := by omega
        have hcv := conv_own Hown.out hne.out
        go_wp2
        go_ret
        refine ⟨?_, Hb.out⟩
        have hz : r.data.toList = [] := List.length_eq_zero_iff.1 (by rw [data_length]; omega)
        show Ending.returned (sv acc) = _
        rw [hacc.out, hz, Tx.b64, List.append_nil]
end Go.Proofs.YtcaephnicaepaaaDoor
