import Derived.Test.YtipcpdoejkoadaaDoorQ2
namespace Go.Proofs.YtipcpdoejkoadaaDoor
open Go.RowKit Cod

theorem pairF (s : ByteArray) : ∃ (b : ByteArray) (e : Int), (if 1048576 < s.size then Value.tuple #[sv [], .int .i64 22] else .tuple #[sv (wrText s.data.toList), .int .i64 0]) = .tuple #[.string b, .int .i64 e] := by
  by_cases h : 1048576 < s.size
  · rw [if_pos h]; exact ⟨_, _, rfl⟩
  · rw [if_neg h]; exact ⟨_, _, rfl⟩
theorem tripS (x : Rd (List UInt8)) : ∃ (a b : ByteArray) (e : Int), tupS x = .tuple #[.string a, .string b, .int .i64 e] := by
  cases x <;> exact ⟨_, _, _, rfl⟩
set_option maxRecDepth 100000 in
set_option maxHeartbeats 1000000 in
theorem frames_any (p s : ByteArray) (hs : s.size ≤ 4611686018427380000) (w : World) (T : Lay w) :
    Calls Tryd.prog 6 #[.string p, .string s] w fun r w' => r = .returned (.bool true) ∧ Below w.heap.size w w' := by
  have hK := hid (known_any w T)
  have hF := fun w => frame_any p w
  have hG := fun w => rframe_any p w
  have hU := fun w => unframe_any s w (by unfold maxLen; omega)
  have hV := fun w => runframe_any s w hs
  obtain ⟨b, e, hbe⟩ := pairF p
  obtain ⟨x, y, f, hxy⟩ := tripS (rdText s.data.toList 1048576)
  rw [hbe] at hF hG
  rw [hxy] at hU hV
  have HF := hid hF
  have HG := hid hG
  have HU := hid hU
  have HV := hid hV
  clear hF hG hU hV hbe hxy
  have yb : (b.toList == b.toList) = true := by simp
  have yx : (x.toList == x.toList) = true := by simp
  have yy : (y.toList == y.toList) = true := by simp
  have ye : (e == e) = true := by simp
  have yf : (f == f) = true := by simp
  go_enter Tryd.func6, Tryd.ntmps6
  go_wp2_with (first
    | (go_at_call 9; refine hK.out.mono ?_; rintro z w1 ⟨rfl, h1⟩; have H1 := hid h1; clear h1)
    | (go_at_call 11; refine (HF.out w1).mono ?_; rintro z w2 ⟨rfl, h2⟩; have H2 := hid (H1.out.trans (h2.mono H1.out.size)); clear h2)
    | (go_at_call 32; refine (HG.out w2).mono ?_; rintro z w3 ⟨rfl, h3⟩; have H3 := hid (H2.out.trans (h3.mono H2.out.size)); clear h3)
    | (go_at_call 12; refine (HU.out w3).mono ?_; rintro z w4 ⟨rfl, h4⟩; have H4 := hid (H3.out.trans (h4.mono H3.out.size)); clear h4)
    | (go_at_call 33; refine (HV.out w4).mono ?_; rintro z w5 ⟨rfl, h5⟩; have H5 := hid (H4.out.trans (h5.mono H4.out.size)); clear h5))
  go_ret
  exact ⟨rfl, H5.out⟩
end Go.Proofs.YtipcpdoejkoadaaDoor
