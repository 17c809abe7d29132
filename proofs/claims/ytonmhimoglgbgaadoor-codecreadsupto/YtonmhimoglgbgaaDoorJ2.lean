import Derived.Test.YtonmhimoglgbgaaDoorJ1
namespace Go.Proofs.YtonmhimoglgbgaaDoor
open Go.RowKit Cod

namespace Cod
/-- what is wrong has a number above 0 -/
def NZ {α : Type} (x : Rd α) : Prop := ∀ e, x = .bad e → 0 < e
theorem NZ.bind {α β : Type} {x : Rd α} {k : α → List UInt8 → Rd β} (h : NZ x) (hk : ∀ v r, NZ (k v r)) : NZ (x.bind k) := by
  cases x with
  | bad e => intro f hf; exact h f (by rw [Rd.bind_bad] at hf; injection hf with hf; rw [hf])
  | good v r => exact hk v r
theorem NZ.good {α : Type} (v : α) (r : List UInt8) : NZ (Rd.good v r) := fun e h => by cases h
theorem NZ.bad {α : Type} {e : Nat} (h : 0 < e) : NZ (Rd.bad e : Rd α) := fun f hf => by injection hf with hf; omega
theorem NZ.ite {α : Type} {c : Prop} [Decidable c] {x y : Rd α} (hx : NZ x) (hy : NZ y) : NZ (if c then x else y) := by split <;> assumption
theorem nz_dig : ∀ (s : List UInt8) (i acc : Nat), NZ (rdDig s i acc)
  | [], i, acc => NZ.ite (NZ.bad (by omega)) (NZ.bad (by omega))
  | b :: r, i, acc => NZ.ite (NZ.bad (by omega)) (NZ.ite (nz_dig r _ _) (NZ.ite (NZ.bad (by omega)) (NZ.ite (NZ.bad (by omega)) (NZ.good _ _))))
theorem nz_num (s : List UInt8) : NZ (rdNum s) := nz_dig s 0 0
theorem nz_byte (s : List UInt8) : NZ (rdByte s) := by cases s <;> first | exact NZ.bad (by omega) | exact NZ.good _ _
theorem nz_many (s : List UInt8) (m : Int) : NZ (rdMany s m) := NZ.ite (NZ.bad (by omega)) (NZ.bind (nz_num s) fun _ _ => NZ.ite (NZ.bad (by omega)) (NZ.good _ _))
theorem nz_raw (s : List UInt8) (n : Int) : NZ (rdRaw s n) := NZ.ite (NZ.bad (by omega)) (NZ.ite (NZ.bad (by omega)) (NZ.good _ _))
theorem nz_text (s : List UInt8) (m : Int) : NZ (rdText s m) := NZ.bind (nz_many s m) fun _ _ => nz_raw _ _
theorem nz_textsN (m : Int) : ∀ n l s, NZ (rdTextsN m n l s)
  | 0, _, _ => NZ.good _ _
  | n + 1, _, s => NZ.bind (nz_text s m) fun _ _ => nz_textsN m n _ _
theorem nz_texts (s : List UInt8) (many m : Int) : NZ (rdTexts s many m) := NZ.ite (NZ.bad (by omega)) (NZ.bind (nz_many s many) fun _ _ => nz_textsN m _ _ _)
theorem nz_riseN : ∀ n a l s, NZ (rdRiseN n a l s)
  | 0, _, _, _ => NZ.good _ _
  | n + 1, _, _, s => NZ.bind (nz_num s) fun _ _ => NZ.ite (NZ.bad (by omega)) (nz_riseN n _ _ _)
theorem nz_rising (s : List UInt8) (many : Int) : NZ (rdRising s many) := NZ.bind (nz_many s many) fun _ _ => nz_riseN _ _ _ _
theorem nz_hashN : ∀ n l s, NZ (rdHashN n l s)
  | 0, _, _ => NZ.good _ _
  | n + 1, _, _ => nz_hashN n _ _
theorem nz_hashes (s : List UInt8) (many : Int) : NZ (rdHashes s many) := NZ.bind (nz_many s many) fun _ _ => NZ.ite (NZ.bad (by omega)) (nz_hashN _ _ _)
end Cod

theorem numAt_sv (l : List UInt8) (w : World) (hs : l.length ≤ maxLen) :
    Calls Tryd.prog 62 #[sv l] w fun r w' => r = .returned (tupN (rdNum l)) ∧ Below w.heap.size w w' := by
  have := numAt_any ⟨l.toArray⟩ w (by rw [sv_size]; exact hs)
  rwa [sv_data] at this
theorem isEmpty_data (s : ByteArray) : s.toList.isEmpty = decide (s.size = 0) := by
  have h := data_length s
  rw [ByteArray.toList_eq]
  cases hd : s.data.toList with
  | nil => rw [hd] at h; simp at h; simp [← h]
  | cons a r =>
    have hz : ¬ s.size = 0 := by rw [hd, List.length_cons] at h; omega
    rw [decide_eq_false hz]; rfl

set_option maxRecDepth 100000 in
set_option maxHeartbeats 1000000 in
theorem byteAt_any (s : ByteArray) (w : World) (hs : s.size ≤ maxLen) :
    Calls Tryd.prog 61 #[.string s] w fun r w' => r = .returned (tupN (rdByte s.data.toList)) ∧ Below w.heap.size w w' := by
  unfold maxLen at hs
  have he := isEmpty_data s
  by_cases h0 : s.size = 0
  · rw [decide_eq_true h0] at he
    have : s.data.toList = [] := List.length_eq_zero_iff.1 (by rw [data_length]; exact h0)
    rw [this]
    go_enter Tryd.func61, Tryd.ntmps61
    go_wp2
    go_ret3
    exact ⟨rfl, Below.refl _ _⟩
  · rw [decide_eq_false h0] at he
    obtain ⟨x, hx, hx2, hi, hi2⟩ := index_any s 0 0 rfl (by omega)
    have hs0 := hi2 (by omega)
    have hp : (0 : Int) < (s.size : Int) := by omega
    have hp1 : (1 : Int) ≤ (s.size : Int) := by omega
    have hcons : s.data.toList = UInt8.ofNat x :: s.data.toList.drop 1 := by
      have hk' : 0 < s.data.toList.length := by rw [data_length]; omega
      have := List.drop_eq_getElem_cons hk'
      rw [List.drop_zero] at this
      rw [hx.out, List.getD_eq_getElem?_getD, List.getElem?_eq_getElem hk']
      simpa using this
    have hxu : (UInt8.ofNat x).toNat = x := by simp; omega
    have hr : rdByte s.data.toList = .good x (s.data.toList.drop 1) := by
      conv => lhs; rw [hcons]
      rw [rdByte, hxu]
    rw [hr, tupN, sv_drop]
    clear hr hxu hcons hi2
    go_enter Tryd.func61, Tryd.ntmps61
    go_wp2
    go_quiet (fail)
    go_wp2
    go_ret3
    exact ⟨rfl, below_drewN (Below.refl _ _) _⟩

set_option maxRecDepth 100000 in
set_option maxHeartbeats 1000000 in
theorem manyAt_any (s : ByteArray) (most : Int) (w : World) (hs : s.size ≤ maxLen) :
    Calls Tryd.prog 89 #[.string s, .int .i64 most] w fun r w' => r = .returned (tupN (rdMany s.data.toList most)) ∧ Below w.heap.size w w' := by
  rw [rdMany]
  by_cases h : most < 0
  · rw [if_pos h]
    go_enter Tryd.func89, Tryd.ntmps89
    go_wp2
    go_ret3
    exact ⟨rfl, Below.refl _ _⟩
  rw [if_neg h]
  have hN := numAt_any s w hs
  have hnz := nz_num s.data.toList
  cases hR : rdNum s.data.toList with
  | bad e =>
    rw [hR] at hN
    simp only [tupN] at hN
    have he := hnz e hR
    have he' : ((e : Int) == 0) = false := by simp; omega
    clear hR hnz
    rw [Rd.bind_bad]
    go_enter Tryd.func89, Tryd.ntmps89
    go_wp2_with (go_at_call 62; refine hN.mono ?_; rintro x w1 ⟨rfl, h1⟩; have H1 := hid h1; clear h1)
    go_ret3
    exact ⟨rfl, H1.out⟩
  | good n r =>
    rw [hR] at hN
    simp only [tupN] at hN
    clear hR hnz
    rw [Rd.bind_good]
    by_cases hm : most < (n : Int)
    · rw [if_pos hm]
      go_enter Tryd.func89, Tryd.ntmps89
      go_wp2_with (go_at_call 62; refine hN.mono ?_; rintro x w1 ⟨rfl, h1⟩; have H1 := hid h1; clear h1)
      go_ret3
      exact ⟨rfl, H1.out⟩
    · rw [if_neg hm]
      go_enter Tryd.func89, Tryd.ntmps89
      go_wp2_with (go_at_call 62; refine hN.mono ?_; rintro x w1 ⟨rfl, h1⟩; have H1 := hid h1; clear h1)
      go_ret3
      exact ⟨rfl, H1.out⟩
theorem manyAt_sv (l : List UInt8) (most : Int) (w : World) (hs : l.length ≤ maxLen) :
    Calls Tryd.prog 89 #[sv l, .int .i64 most] w fun r w' => r = .returned (tupN (rdMany l most)) ∧ Below w.heap.size w w' := by
  have := manyAt_any ⟨l.toArray⟩ most w (by rw [sv_size]; exact hs)
  rwa [sv_data] at this

set_option maxRecDepth 100000 in
set_option maxHeartbeats 1000000 in
theorem rawAt_any (s : ByteArray) (n : Int) (w : World) :
    Calls Tryd.prog 81 #[.string s, .int .i64 n] w fun r w' => r = .returned (tupS (rdRaw s.data.toList n)) ∧ Below w.heap.size w w' := by
  rw [rdRaw]
  by_cases h : n < 0
  · rw [if_pos h]
    go_enter Tryd.func81, Tryd.ntmps81
    go_wp2
    go_ret3
    exact ⟨rfl, Below.refl _ _⟩
  rw [if_neg h, data_length]
  by_cases h2 : (s.size : Int) < n
  · rw [if_pos h2]
    go_enter Tryd.func81, Tryd.ntmps81
    go_wp2
    go_ret3
    exact ⟨rfl, Below.refl _ _⟩
  rw [if_neg h2]
  obtain ⟨m, rfl⟩ := Int.eq_ofNat_of_zero_le (show 0 ≤ n by omega)
  rw [Int.toNat_natCast, tupS, sv_drop, sv_take]
  have b0 : (m : Int) ≤ (s.size : Int) := by omega
  go_enter Tryd.func81, Tryd.ntmps81
  go_wp2
  go_quiet (fail)
  go_wp2
  go_ret3
  exact ⟨rfl, below_drewN (Below.refl _ _) _⟩
theorem rawAt_sv (l : List UInt8) (n : Int) (w : World) :
    Calls Tryd.prog 81 #[sv l, .int .i64 n] w fun r w' => r = .returned (tupS (rdRaw l n)) ∧ Below w.heap.size w w' := by
  have := rawAt_any ⟨l.toArray⟩ n w
  rwa [sv_data] at this

set_option maxRecDepth 100000 in
set_option maxHeartbeats 1000000 in
theorem textAt_any (s : ByteArray) (most : Int) (w : World) (hs : s.size ≤ maxLen) :
    Calls Tryd.prog 68 #[.string s, .int .i64 most] w fun r w' => r = .returned (tupS (rdText s.data.toList most)) ∧ Below w.heap.size w w' := by
  rw [rdText]
  have hN := manyAt_any s most w hs
  have hnz := nz_many s.data.toList most
  cases hR : rdMany s.data.toList most with
  | bad e =>
    rw [hR] at hN
    simp only [tupN] at hN
    have he := hnz e hR
    have he' : ((e : Int) == 0) = false := by simp; omega
    clear hR hnz
    rw [Rd.bind_bad]
    go_enter Tryd.func68, Tryd.ntmps68
    go_wp2_with (go_at_call 89; refine hN.mono ?_; rintro x w1 ⟨rfl, h1⟩; have H1 := hid h1; clear h1)
    go_ret3
    exact ⟨rfl, H1.out⟩
  | good n r =>
    rw [hR] at hN
    simp only [tupN] at hN
    clear hR hnz
    rw [Rd.bind_good]
    have hraw := fun w => rawAt_sv r (n : Int) w
    have HRaw := hid hraw
    clear hraw
    obtain ⟨X, hX⟩ : ∃ X, Hid (rdRaw r (n : Int) = X) := ⟨_, rfl⟩
    rw [hX.out]
    go_enter Tryd.func68, Tryd.ntmps68
    go_wp2_with (first
      | (go_at_call 89; refine hN.mono ?_; rintro x w1 ⟨rfl, h1⟩; have H1 := hid h1; clear h1)
      | (go_at_call 81; fail))
    go_at_call 81
    refine (HRaw.out _).mono ?_
    rw [hX.out]
    rintro x w2 ⟨rfl, h2⟩
    have H2 := hid (H1.out.trans (h2.mono H1.out.size))
    clear h2
    cases X with
    | bad e =>
      rw [tupS]
      go_wp2
      go_ret3
      exact ⟨rfl, H2.out⟩
    | good t r' =>
      rw [tupS]
      go_wp2
      go_ret3
      exact ⟨rfl, H2.out⟩
theorem textAt_sv (l : List UInt8) (most : Int) (w : World) (hs : l.length ≤ maxLen) :
    Calls Tryd.prog 68 #[sv l, .int .i64 most] w fun r w' => r = .returned (tupS (rdText l most)) ∧ Below w.heap.size w w' := by
  have := textAt_any ⟨l.toArray⟩ most w (by rw [sv_size]; exact hs)
  rwa [sv_data] at this
end Go.Proofs.YtonmhimoglgbgaaDoor
