import Derived.Test.YtipcpdoejkoadaaDoorJ2
import Derived.Test.YtipcpdoejkoadaaDoorG5
namespace Go.Proofs.YtipcpdoejkoadaaDoor
open Go.RowKit Cod

set_option maxRecDepth 100000 in
theorem frame_any (s : ByteArray) (w : World) :
    Calls Tryd.prog 11 #[.string s] w fun r w' => r = .returned (if 1048576 < s.size then .tuple #[sv [], .int .i64 22] else .tuple #[sv (wrText s.data.toList), .int .i64 0]) ∧ Below w.heap.size w w' := by
  by_cases h : 1048576 < s.size
  · rw [if_pos h]
    have e : textErr s.size 1048576 = 22 := by rw [textErr, if_neg (by omega), if_pos (by omega)]
    go_enter Tryd.func11, Tryd.ntmps11
    go_wp2_with (go_at_call 39; refine (textFault_any s 1048576 _).mono ?_; rw [e]; rintro e w' ⟨rfl, hw'⟩; rw [hw']; clear hw' w')
    go_ret2
    exact ⟨rfl, Below.refl _ _⟩
  · rw [if_neg h]
    have e : textErr s.size 1048576 = 0 := by rw [textErr, if_neg (by omega), if_neg (by omega)]
    have h9 : (digs s.size).length ≤ 9 := digs_len9 (by omega)
    have hT := appendText_any w.heap.size (.slice none 0 0) [] s w (by omega) (Own.nil _ _) (by rw [wrText, List.length_append, data_length, List.length_nil]; omega) (Nat.le_refl _)
    go_enter Tryd.func11, Tryd.ntmps11
    go_wp2_with (first
      | (go_at_call 39; refine (textFault_any s 1048576 _).mono ?_; rw [e]; rintro e w' ⟨rfl, hw'⟩; rw [hw']; clear hw' w')
      | (go_at_call 40; fail))
    go_at_call 40
    refine hT.mono ?_
    rintro x w1 ⟨v1, rfl, h1, h2, h3⟩
    have hc := conv_any h1
    have H2 := hid (h2.below (Nat.le_refl _) (fun k _ hk => by cases hk))
    clear h1 h2 h3 hT
    go_wp2
    go_ret2
    exact ⟨rfl, H2.out⟩
set_option maxRecDepth 100000 in
theorem unframe_any (s : ByteArray) (w : World) (hs : s.size ≤ maxLen) :
    Calls Tryd.prog 12 #[.string s] w fun r w' => r = .returned (tupS (rdText s.data.toList 1048576)) ∧ Below w.heap.size w w' := by
  have hN := textAt_any s 1048576 w hs
  cases hR : rdText s.data.toList 1048576 with
  | bad e =>
    rw [hR] at hN
    simp only [tupS] at hN
    clear hR
    go_enter Tryd.func12, Tryd.ntmps12
    go_wp2_with (go_at_call 41; refine hN.mono ?_; rintro x w1 ⟨rfl, h1⟩; have H1 := hid h1; clear h1)
    go_ret3
    exact ⟨rfl, H1.out⟩
  | good t r =>
    rw [hR] at hN
    simp only [tupS] at hN
    clear hR
    go_enter Tryd.func12, Tryd.ntmps12
    go_wp2_with (go_at_call 41; refine hN.mono ?_; rintro x w1 ⟨rfl, h1⟩; have H1 := hid h1; clear h1)
    go_ret3
    exact ⟨rfl, H1.out⟩
end Go.Proofs.YtipcpdoejkoadaaDoor
