import Derived.Test.YtonmhimoglgbgaaDoorZ9
import Derived.Test.YtonmhimoglgbgaaDoorZ10
import Derived.Test.YtonmhimoglgbgaaDoorY14
namespace Go.Proofs.YtonmhimoglgbgaaDoor
open Go.RowKit Cod

theorem scr_of {W : World} {a : Option Addr} {N cap : Nat} (h : SlcP W (.slice a N cap) N) : ∃ F, Scr W a N F := by
  obtain ⟨a', cap', e, h⟩ := h
  injection e with e1 e2 e3
  subst e1
  have h' : ∀ j, ∃ p : Stp, j < N → ∃ (x : Addr) (o kp : Bool) (mm : Int) (s : ByteArray) (lv tv : Value), a = some x ∧ StAt W x j p o kp mm s lv tv := fun j => by
    by_cases hj : j < N
    · obtain ⟨x, o, kp, kd, nn, mm, s, lv, tv, hx, hb, c0, c1, c2, c3, c4, c5, c6, c7, ok⟩ := h j hj
      obtain ⟨n1, n2, hs, ⟨l, hl, hlb, hll⟩, ⟨ps, ht, hpl, hpt⟩⟩ := ok
      exact ⟨⟨kd, nn, s.data.toList, l, ps⟩, fun _ => ⟨x, o, kp, mm, s, lv, tv, hx, ⟨hb, c0, c1, c2, c3, c4, c5, c6, c7, n1, n2, rfl, hs, hl, hlb, hll, ht, hpl⟩⟩⟩
    · exact ⟨⟨0, 0, [], [], []⟩, fun h => absurd h hj⟩
  obtain ⟨F, hF⟩ := Classical.axiomOfChoice h'
  exact ⟨F, fun j hj => hF j hj⟩
theorem Scr.s_le {W : World} {a : Option Addr} {N : Nat} {F : Nat → Stp} (hS : Scr W a N F) {k : Nat} (hk : k < N) : (F k).s.length ≤ 1048576 := by
  obtain ⟨x, o, kp, mm, s, lv, tv, _, st⟩ := hS k hk
  rw [← st.hs, data_length]; exact st.hs2
theorem acc_len {W : World} {a : Option Addr} {N : Nat} {F : Nat → Stp} (hS : Scr W a N F) : ∀ k, k ≤ N → (acc F k).length ≤ k * 1050000
  | 0, _ => by simp [acc]
  | k + 1, h => by
    have h1 := (F k).bytes_le (hS.s_le (by omega))
    have h2 := acc_len hS k (by omega)
    rw [acc, List.length_append]; omega
theorem rem_step (F : Nat → Stp) {M k : Nat} (h : k < M) : rem F (M - k) k = (F k).bytes ++ rem F (M - (k + 1)) (k + 1) := by
  obtain ⟨d, hd⟩ : ∃ d, M - k = d + 1 := ⟨M - k - 1, by omega⟩
  rw [hd, show M - (k + 1) = d from by omega]; rfl
theorem acc_all (F : Nat → Stp) (M : Nat) : acc F M = rem F (M - 0) 0 := by
  have h := acc_rem F M 0
  rw [Nat.zero_add] at h
  rw [h, Nat.sub_zero]; rfl
/-- the whole text, at the k-th step -/
def IW (F : Nat → Stp) (M k : Nat) (st : RS) : Prop := st.err = 0 ∧ st.rest = rem F (M - k) k ∧ st.taken = (acc F k).length
theorem iw_step {F : Nat → Stp} {M k : Nat} {st : RS} (hs : (F k).s.length ≤ 1048576) (hk : k < M) (h : IW F M k st) : (F k).Hits st ∧ IW F M (k + 1) ((F k).next st) := by
  obtain ⟨h1, h2, h3⟩ := h
  rw [rem_step F hk] at h2
  obtain ⟨a, b, c, d⟩ := (F k).whole (by unfold top; omega) h1 h2
  exact ⟨a, b, c, by rw [d, h3, acc, List.length_append]⟩
/-- one byte less -/
def IL (F : Nat → Stp) (M k : Nat) (st : RS) : Prop := Less (rem F (M - k) k) st
theorem il_step {F : Nat → Stp} {M k : Nat} {st : RS} (hs : (F k).s.length ≤ 1048576) (hk : k < M) (h : IL F M k st) : IL F M (k + 1) ((F k).next st) := by
  unfold IL at h ⊢
  rw [rem_step F hk] at h
  exact (F k).less (by unfold top; omega) h
theorem iw_end {F : Nat → Stp} {M : Nat} {st : RS} (h : IW F M M st) : st.done = 0 ∧ st.taken = (acc F M).length ∧ st.rest.length = 0 := by
  obtain ⟨h1, h2, h3⟩ := h
  rw [Nat.sub_self] at h2
  have h4 : st.rest.length = 0 := by rw [h2]; rfl
  exact ⟨by unfold RS.done; rw [if_pos h1, if_pos h4], h3, h4⟩
theorem il_end {F : Nat → Stp} {M : Nat} {st : RS} (h : IL F M M st) : st.done = 21 := by
  unfold IL at h
  rw [Nat.sub_self] at h
  have h1 := less_end h
  unfold RS.done; rw [if_neg (by omega)]; exact h1

set_option maxRecDepth 100000 in
set_option maxHeartbeats 4000000 in
theorem through_any (v0 : Value) (N : Nat) (hN : N ≤ 1048576) (W : World) (T : Lay W) (hp : SlcP W v0 N) :
    Calls Tryd.prog 3 #[v0] W fun e w' => e = .returned (.bool true) ∧ Below W.heap.size W w' := by
  have hp0 := hp
  obtain ⟨a, cap, rfl, _⟩ := hp0
  obtain ⟨F, hS⟩ := scr_of hp
  have HS := hid hS
  have HT := hid T
  have hT := T.lt
  clear hS hp T
  obtain ⟨M, hM⟩ : ∃ M, Hid (min N 100 = M) := ⟨_, rfl⟩
  have hMN : M ≤ N ∧ M ≤ 100 := by have := hM.out; omega
  have hal := acc_len HS.out M hMN.1
  obtain ⟨sb, hsb, hsd⟩ := sv_str (acc F M)
  have hsz : sb.size = (acc F M).length := by rw [← hsd, data_length]
  have HSB := hid hsb
  have HSD := hid hsd
  clear hsb hsd
  obtain ⟨Z, hZ⟩ : ∃ Z, W.heap.size = Z := ⟨_, rfl⟩
  rw [hZ]
  go_enter Tryd.func3, Tryd.ntmps3
  go_wp2_with (go_at_call 5; fail)
  go_at_call 5
  refine (known_any W HT.out).mono ?_
  rintro e w1 ⟨rfl, b1⟩
  have s1 := b1.size
  rw [hZ] at b1 s1
  go_wp2_with (go_at_call 6; fail)
  go_at_call 6
  refine (newWriter_any w1).mono ?_
  obtain ⟨B, hB⟩ : ∃ B, w1.heap.size = B := ⟨_, rfl⟩
  rw [hB]
  rintro e w2 ⟨rfl, h2, b2, s2⟩
  have b2' := b1.trans (b2.mono (by omega))
  have H2 := hid h2
  clear h2 b1 b2
  go_wp2_with (go_at_call 7; fail)
  go_at_call 7
  refine (lays_any W a cap N F HS.out hN B B w2 (by rw [hZ]; exact b2') (by omega) _ H2.out (by omega)).mono ?_
  rw [hM.out]
  rintro e w3 ⟨rfl, ⟨v3, h3⟩, b3⟩
  have s3 := b3.size
  have b3' := b2'.trans (b3.mono (by omega))
  have T3 := HT.out.below b3' (by omega)
  clear b3 b2' H2
  go_wp2_with (go_at_call 8; fail)
  go_at_call 8
  refine (wDone_any B B v3 _ w3 T3 h3).mono ?_
  rw [show sv (WSt.text (.ok (acc F M))) = .string sb from HSB.out, show WSt.err (.ok (acc F M)) = 0 from rfl]
  rintro e w4 ⟨rfl, b4⟩
  have s4 := b4.size
  have b4' := b3'.trans (b4.mono (by omega))
  clear b4 b3' T3 h3
  go_wp2_with (go_at_call 9; fail)
  go_at_call 9
  refine (newReader_any sb (by unfold maxLen; omega) w4).mono ?_
  obtain ⟨C, hC⟩ : ∃ C, w4.heap.size = C := ⟨_, rfl⟩
  rw [hC, HSD.out]
  rintro e w5 ⟨rfl, h5, b5, s5⟩
  have b5' := b4'.trans (b5.mono (by omega))
  have H5 := hid h5
  clear h5 b5 b4'
  go_wp2_with (go_at_call 10; fail)
  go_at_call 10
  refine (takes_any W a cap N F HS.out hN Z C w5 (by rw [hZ]; exact b5') (by omega) (by omega) _ H5.out (by omega) (IW F M) ⟨rfl, acc_all F M, rfl⟩ (fun k st hk h => (iw_step (HS.out.s_le (by omega)) (by have := hM.out; omega) h).2) true (fun _ k st hk h => (iw_step (HS.out.s_le (by omega)) (by have := hM.out; omega) h).1)).mono ?_
  rw [hM.out]
  rintro e w6 ⟨q, rfl, hq, ⟨st, hI, hR⟩, b6⟩
  obtain rfl := hq rfl
  obtain ⟨d1, d2, d3⟩ := iw_end hI
  have s6 := b6.size
  have b6' := b5'.trans b6
  have T6 := HT.out.below b6' (by omega)
  have H6 := hid hR
  clear hI hR hq b6 b5' H5
  go_wp2_with (go_at_call 11; fail)
  go_at_call 11
  refine (rDone_any C st w6 T6 H6.out).mono ?_
  rw [d1, d2, ← hsz]
  rintro e w7 ⟨rfl, b7⟩
  have s7 := b7.size
  have H7 := hid (H6.out.below b7)
  have b7' := hid (b6'.trans (b7.mono (by omega)))
  clear b7 b6' H6 T6
  have y0 : ((sb.size : Int) != (sb.size : Int)) = false := by simp
  have y1 : ((sb.size : Int) == (sb.size : Int)) = true := by simp
  go_wp2_with (go_at_call 12; fail)
  go_at_call 12
  refine (left_any C st w7 H7.out).mono ?_
  rw [d3]
  rintro e w' ⟨rfl, hw'⟩; rw [hw']; clear hw' w'
  by_cases hz : acc F M = []
  · have yE : sb.toList.isEmpty = true := by rw [ByteArray.toList_eq, HSD.out, hz]; rfl
    go_wp2
    go_ret
    exact ⟨rfl, b7'.out⟩
  · have yE : sb.toList.isEmpty = false := by
      rw [ByteArray.toList_eq, HSD.out]
      cases hh : acc F M with
      | nil => exact absurd hh hz
      | cons _ _ => rfl
    have hl1 : 1 ≤ ((acc F M).length : Int) := by
      have := List.length_pos_iff.2 hz
      omega
    have hdl : Hid ((sb.extract 0 ((acc F M).length - 1)).data.toList = (acc F M).dropLast) := hid (by
      rw [Lib.extract_data, HSD.out, List.drop_zero, List.dropLast_eq_take]; rfl)
    have hes : (sb.extract 0 ((acc F M).length - 1)).size ≤ 1000000000 := by
      rw [← data_length, hdl.out, List.length_dropLast]; omega
    have HZ := hid hz
    clear hz
    go_wp2_with (go_at_call 9; fail)
    go_at_call 9
    refine (newReader_any _ (by unfold maxLen; omega) w7).mono ?_
    obtain ⟨D, hD⟩ : ∃ D, w7.heap.size = D := ⟨_, rfl⟩
    rw [hD, hdl.out]
    rintro e w8 ⟨rfl, h8, b8, s8⟩
    have b8' := b7'.out.trans (b8.mono (by omega))
    have H8 := hid h8
    clear h8 b8
    go_wp2_with (go_at_call 10; fail)
    go_at_call 10
    refine (takes_any W a cap N F HS.out hN Z D w8 (by rw [hZ]; exact b8') (by omega) (by omega) _ H8.out (by omega) (IL F M) (by unfold IL; rw [← acc_all]; exact less_start HZ.out) (fun k st hk h => il_step (HS.out.s_le (by omega)) (by have := hM.out; omega) h) false (fun h => by cases h)).mono ?_
    rw [hM.out]
    rintro e w9 ⟨q, rfl, _, ⟨sl, hI, hR⟩, b9⟩
    have d4 := il_end hI
    have s9 := b9.size
    have b9' := b8'.trans b9
    have T9 := HT.out.below b9' (by omega)
    have H9 := hid hR
    clear hI hR b9 b8' H8
    go_wp2_with (go_at_call 11; fail)
    go_at_call 11
    refine (rDone_any D sl w9 T9 H9.out).mono ?_
    rw [d4]
    rintro e w10 ⟨rfl, b10⟩
    have b10' := hid (b9'.trans (b10.mono (by omega)))
    clear b10 b9' H9 T9
    go_wp2
    go_ret
    exact ⟨rfl, b10'.out⟩
end Go.Proofs.YtonmhimoglgbgaaDoor
