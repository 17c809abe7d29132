import Derived.Test.YtipcpdoejkoadaaDoorQ1
namespace Go.Proofs.YtipcpdoejkoadaaDoor
open Go.RowKit Cod

def tupT (N : Nat) : Rd (List UInt8) → Value
  | .bad e => .tuple #[sv [], .int .i64 0, .int .i64 (e : Int)]
  | .good t r => .tuple #[sv t, .int .i64 ((N - r.length : Nat) : Int), .int .i64 0]
theorem sv_mid (s : ByteArray) (a n : Nat) : sv ((s.data.toList.drop a).take n) = .string (s.extract a (a + n)) := by
  rw [← sv_of, Lib.extract_data, show a + n - a = n from by omega]
theorem num_rest {l : List UInt8} {a n : Nat} {r : List UInt8} (h : rdNum (l.drop a) = .good n r) (ha : a ≤ l.length) : r = l.drop (l.length - r.length) ∧ r.length + 1 ≤ l.length - a := by
  obtain ⟨p, hp⟩ := pf_num.ends _ _ _ h
  have h1 := num_len h
  rw [List.length_drop] at h1
  refine ⟨?_, h1⟩
  have e : l.drop a = p ++ r := hp
  have hl := congrArg List.length e
  rw [List.length_drop, List.length_append] at hl
  rw [show l.length - r.length = a + p.length from by omega, ← List.drop_drop, e, List.drop_left]

set_option maxRecDepth 100000 in
set_option maxHeartbeats 1000000 in
theorem rtext_any (s : ByteArray) (at_ : Nat) (most : Int) (hm : 0 ≤ most) (hat : at_ ≤ s.size) (hs : s.size ≤ 4611686018427380000) (w : World) :
    Calls Tryd.prog 66 #[.string s, .int .i64 (at_ : Int), .int .i64 most] w fun r w' => r = .returned (tupT s.size (rdText (s.data.toList.drop at_) most)) ∧ w' = w := by
  have hN := number_any s at_ hat (by omega) w
  rw [rdText, rdMany, if_neg (by omega)]
  cases hR : rdNum (s.data.toList.drop at_) with
  | bad e =>
    have he := nz_num _ e hR
    have he' : ((e : Int) == 0) = false := by simp; omega
    rw [hR] at hN
    simp only [tupA] at hN
    clear hR
    rw [Rd.bind_bad, Rd.bind_bad]
    go_enter Tryd.func66, Tryd.ntmps66
    go_wp2_with (go_at_call 90; refine hN.mono ?_; rintro x w1 ⟨rfl, hw'⟩; rw [hw']; clear hw' w1)
    go_ret3
    exact ⟨rfl, rfl⟩
  | good n r =>
    obtain ⟨h1, h2⟩ := num_rest hR (by rw [data_length]; exact hat)
    have h62 := (num_back hR).2
    rw [top] at h62
    rw [data_length] at h1 h2
    rw [hR] at hN
    simp only [tupA] at hN
    clear hR
    rw [Rd.bind_good]
    obtain ⟨to_, hto⟩ : ∃ to_, s.size - r.length = to_ := ⟨_, rfl⟩
    rw [hto] at hN h1
    have hrl : r.length = s.size - to_ := by omega
    have ht2 : to_ ≤ s.size := by omega
    by_cases hc : most < (n : Int)
    · rw [if_pos hc, Rd.bind_bad]
      clear h1 hto hrl
      go_enter Tryd.func66, Tryd.ntmps66
      go_wp2_with (go_at_call 90; refine hN.mono ?_; rintro x w1 ⟨rfl, hw'⟩; rw [hw']; clear hw' w1)
      go_ret3
      exact ⟨rfl, rfl⟩
    · rw [if_neg hc, Rd.bind_good, rdRaw, if_neg (by omega), hrl]
      by_cases hd : ((s.size - to_ : Nat) : Int) < (n : Int)
      · rw [if_pos hd]
        have b0 : (s.size : Int) - (to_ : Int) < (n : Int) := by omega
        have b1 : (to_ : Int) ≤ (s.size : Int) := by omega
        clear h1 hto hrl hd
        go_enter Tryd.func66, Tryd.ntmps66
        go_wp2_with (go_at_call 90; refine hN.mono ?_; rintro x w1 ⟨rfl, hw'⟩; rw [hw']; clear hw' w1)
        go_ret3
        exact ⟨rfl, rfl⟩
      · rw [if_neg hd, Int.toNat_natCast]
        have b0 : ¬ (s.size : Int) - (to_ : Int) < (n : Int) := by omega
        have b1 : (to_ : Int) ≤ (s.size : Int) := by omega
        have b2 : (to_ : Int) + (n : Int) ≤ (s.size : Int) := by omega
        have e1 : tupT s.size (.good (r.take n) (r.drop n)) = .tuple #[.string (s.extract to_ (to_ + n)), .int .i64 ((to_ + n : Nat) : Int), .int .i64 0] := by
          rw [tupT, List.length_drop, hrl, h1, sv_mid, show s.size - (s.size - to_ - n) = to_ + n from by omega]
        rw [e1]
        have t1 : ((to_ : Int) + (n : Int)).toNat = to_ + n := by omega
        clear h1 hto hrl hd e1
        go_enter Tryd.func66, Tryd.ntmps66
        go_wp2_with (go_at_call 90; refine hN.mono ?_; rintro x w1 ⟨rfl, hw'⟩; rw [hw']; clear hw' w1)
        go_ret3
        exact ⟨rfl, rfl⟩
theorem text_rest {l : List UInt8} {a : Nat} {m : Int} {t r : List UInt8} (h : rdText (l.drop a) m = .good t r) (ha : a ≤ l.length) : r = l.drop (l.length - r.length) ∧ r.length + 1 ≤ l.length - a := by
  obtain ⟨p, hp⟩ := (pf_text m).ends _ _ _ h
  have h1 := text_len h
  rw [List.length_drop] at h1
  refine ⟨?_, h1⟩
  have e : l.drop a = p ++ r := hp
  have hl := congrArg List.length e
  rw [List.length_drop, List.length_append] at hl
  rw [show l.length - r.length = a + p.length from by omega, ← List.drop_drop, e, List.drop_left]

set_option maxRecDepth 100000 in
theorem rframe_any (s : ByteArray) (w : World) :
    Calls Tryd.prog 32 #[.string s] w fun r w' => r = .returned (if 1048576 < s.size then .tuple #[sv [], .int .i64 22] else .tuple #[sv (wrText s.data.toList), .int .i64 0]) ∧ Below w.heap.size w w' := by
  by_cases h : 1048576 < s.size
  · rw [if_pos h]
    have h' : (1048576 : Int) < (s.size : Int) := by omega
    go_enter Tryd.func32, Tryd.ntmps32
    go_wp2
    go_ret2
    exact ⟨rfl, Below.refl _ _⟩
  · rw [if_neg h]
    have h' : ¬ (1048576 : Int) < (s.size : Int) := by omega
    have h9 : (digs s.size).length ≤ 9 := digs_len9 (by omega)
    have hD := digits_any s.size (by omega) w
    have hadd := add_sv Tryd.prog 9 (digs s.size) s.data.toList (by rw [data_length]; omega)
    rw [sv_of] at hadd
    have e : digs s.size ++ s.data.toList = wrText s.data.toList := by rw [wrText, data_length]
    rw [e] at hadd
    clear e h9
    go_enter Tryd.func32, Tryd.ntmps32
    go_wp2_with (go_at_call 65; refine hD.mono ?_; rintro x w1 ⟨rfl, h1⟩; have H1 := hid h1; clear h1)
    go_ret2
    exact ⟨rfl, H1.out⟩
set_option maxRecDepth 100000 in
theorem runframe_any (s : ByteArray) (w : World) (hs : s.size ≤ 4611686018427380000) :
    Calls Tryd.prog 33 #[.string s] w fun r w' => r = .returned (tupS (rdText s.data.toList 1048576)) ∧ Below w.heap.size w w' := by
  have hN := rtext_any s 0 1048576 (by omega) (by omega) hs w
  rw [List.drop_zero] at hN
  cases hR : rdText s.data.toList 1048576 with
  | bad e =>
    have he := nz_text _ _ e hR
    have he' : ((e : Int) == 0) = false := by simp; omega
    rw [hR] at hN
    simp only [tupT] at hN
    clear hR
    go_enter Tryd.func33, Tryd.ntmps33
    go_wp2_with (go_at_call 66; refine hN.mono ?_; rintro x w1 ⟨rfl, hw'⟩; rw [hw']; clear hw' w1)
    go_ret3
    exact ⟨rfl, Below.refl _ _⟩
  | good t r =>
    obtain ⟨h1, h2⟩ := text_rest (a := 0) (by rw [List.drop_zero]; exact hR) (Nat.zero_le _)
    rw [data_length] at h1 h2
    rw [hR] at hN
    simp only [tupT] at hN
    clear hR
    obtain ⟨to_, hto⟩ : ∃ to_, s.size - r.length = to_ := ⟨_, rfl⟩
    rw [hto] at hN h1
    have ht2 : (to_ : Int) ≤ (s.size : Int) := by omega
    have e1 : tupS (.good t r) = .tuple #[sv t, .string (s.extract to_ s.size), .int .i64 0] := by rw [tupS, h1, sv_drop]
    rw [e1]
    clear e1 h1 hto
    go_enter Tryd.func33, Tryd.ntmps33
    go_wp2_with (go_at_call 66; refine hN.mono ?_; rintro x w1 ⟨rfl, hw'⟩; rw [hw']; clear hw' w1)
    go_quiet (fail)
    go_wp2
    go_ret3
    exact ⟨rfl, below_drewN (Below.refl _ _) _⟩
end Go.Proofs.YtipcpdoejkoadaaDoor
