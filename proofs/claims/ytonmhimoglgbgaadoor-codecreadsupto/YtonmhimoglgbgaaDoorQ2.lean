import Derived.Test.YtonmhimoglgbgaaDoorQ1
namespace Go.Proofs.YtonmhimoglgbgaaDoor
open Go.RowKit Cod

def tupT (N : Nat) : Rd (List UInt8) → Value
  | .bad e => .tuple #[sv [], .int .i64 0, .int .i64 (e : Int)]
  | .good t r => .tuple #[sv t, .int .i64 ((N - r.length : Nat) : Int), .int .i64 0]
theorem sv_mid (s : ByteArray) (a n : Nat) : sv ((s.data.toList.drop a).take n) = .string (s.extract a (a + n)) := by
  rw [← sv_of, Lib.extract_data, show a + n - a = n from by omega]
theorem num_rest {l : List UInt8} {a n : Nat} {r : List UInt8} (h : rdNum (l.drop a) = .good n r) (ha : a ≤ l.length) : r = l.drop (l.length - r.length) ∧ r.length + 1 ≤ l.length - a := by
  obtain ⟨p, hp⟩ := pf_num.ends _ _ _ h
  have h1 := num_len h
  rw [List.length_drop] at h1
  refine ⟨?_, h1⟩
  have e : l.drop a = p ++ r := hp
  have hl := congrArg List.length e
  rw [List.length_drop, List.length_append] at hl
  rw [show l.length - r.length = a + p.length from by omega, ← List.drop_drop, e, List.drop_left]

set_option maxRecDepth 100000 in
set_option maxHeartbeats 1000000 in
theorem rtext_any (s : ByteArray) (at_ : Nat) (most : Int) (hm : 0 ≤ most) (hat : at_ ≤ s.size) (hs : s.size ≤ 4611686018427380000) (w : World) :
    Calls Tryd.prog 86 #[.string s, .int .i64 (at_ : Int), .int .i64 most] w fun r w' => r = .returned (tupT s.size (rdText (s.data.toList.drop at_) most)) ∧ w' = w := by
  have hN := number_any s at_ hat (by omega) w
  rw [rdText, rdMany, if_neg (by omega)]
  cases hR : rdNum (s.data.toList.drop at_) with
  | bad e =>
    have he := nz_num _ e hR
    have he' : ((e : Int) == 0) = false := by simp; omega
    rw [hR] at hN
    simp only [tupA] at hN
    clear hR
    rw [Rd.bind_bad, Rd.bind_bad]
    go_enter Tryd.func86, Tryd.ntmps86
    go_wp2_with (go_at_call 82; refine hN.mono ?_; rintro x w1 ⟨rfl, hw'⟩; rw [hw']; clear hw' w1)
    go_ret3
    exact ⟨rfl, rfl⟩
  | good n r =>
    obtain ⟨h1, h2⟩ := num_rest hR (by rw [data_length]; exact hat)
    have h62 := (num_back hR).2
    rw [top] at h62
    rw [data_length] at h1 h2
    rw [hR] at hN
    simp only [tupA] at hN
    clear hR
    rw [Rd.bind_good]
    obtain ⟨to_, hto⟩ : ∃ to_, s.size - r.length = to_ := ⟨_, rfl⟩
    rw [hto] at hN h1
    have hrl : r.length = s.size - to_ := by omega
    have ht2 : to_ ≤ s.size := by omega
    by_cases hc : most < (n : Int)
    · rw [if_pos hc, Rd.bind_bad]
      clear h1 hto hrl
      go_enter Tryd.func86, Tryd.ntmps86
      go_wp2_with (go_at_call 82; refine hN.mono ?_; rintro x w1 ⟨rfl, hw'⟩; rw [hw']; clear hw' w1)
      go_ret3
      exact ⟨rfl, rfl⟩
    · rw [if_neg hc, Rd.bind_good, rdRaw, if_neg (by omega), hrl]
      by_cases hd : ((s.size - to_ : Nat) : Int) < (n : Int)
      · rw [if_pos hd]
        have b0 : (s.size : Int) - (to_ : Int) < (n : Int) := by omega
        have b1 : (to_ : Int) ≤ (s.size : Int) := by omega
        clear h1 hto hrl hd
        go_enter Tryd.func86, Tryd.ntmps86
        go_wp2_with (go_at_call 82; refine hN.mono ?_; rintro x w1 ⟨rfl, hw'⟩; rw [hw']; clear hw' w1)
        go_ret3
        exact ⟨rfl, rfl⟩
      · rw [if_neg hd, Int.toNat_natCast]
        have b0 : ¬ (s.size : Int) - (to_ : Int) < (n : Int) := by omega
        have b1 : (to_ : Int) ≤ (s.size : Int) := by omega
        have b2 : (to_ : Int) + (n : Int) ≤ (s.size : Int) := by omega
        have e1 : tupT s.size (.good (r.take n) (r.drop n)) = .tuple #[.string (s.extract to_ (to_ + n)), .int .i64 ((to_ + n : Nat) : Int), .int .i64 0] := by
          rw [tupT, List.length_drop, hrl, h1, sv_mid, show s.size - (s.size - to_ - n) = to_ + n from by omega]
        rw [e1]
        have t1 : ((to_ : Int) + (n : Int)).toNat = to_ + n := by omega
        clear h1 hto hrl hd e1
        go_enter Tryd.func86, Tryd.ntmps86
        go_wp2_with (go_at_call 82; refine hN.mono ?_; rintro x w1 ⟨rfl, hw'⟩; rw [hw']; clear hw' w1)
        go_ret3
        exact ⟨rfl, rfl⟩
theorem text_rest {l : List UInt8} {a : Nat} {m : Int} {t r : List UInt8} (h : rdText (l.drop a) m = .good t r) (ha : a ≤ l.length) : r = l.drop (l.length - r.length) ∧ r.length + 1 ≤ l.length - a := by
  obtain ⟨p, hp⟩ := (pf_text m).ends _ _ _ h
  have h1 := text_len h
  rw [List.length_drop] at h1
  refine ⟨?_, h1⟩
  have e : l.drop a = p ++ r := hp
  have hl := congrArg List.length e
  rw [List.length_drop, List.length_append] at hl
  rw [show l.length - r.length = a + p.length from by omega, ← List.drop_drop, e, List.drop_left]

end Go.Proofs.YtonmhimoglgbgaaDoor
