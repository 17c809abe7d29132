import Derived.Test.YtonmhimoglgbgaaDoorZ8
namespace Go.Proofs.YtonmhimoglgbgaaDoor
open Go.RowKit Cod

theorem but_cell {b : Nat} {w w' : World} (h : But b w w') {g o : Nat} (hg : g < w.heap.size) (hne : g ≠ b) : w'.cell? ⟨g, o, none⟩ = w.cell? ⟨g, o, none⟩ := World.cell?_of_block (h.block g hg hne)
def TPost (w : World) (b base : Nat) (g : Bool) (J : RS → Prop) (r : Ending) (w' : World) : Prop := ∃ q, r = .returned (.bool q) ∧ (g = true → q = true) ∧ (∃ st, J st ∧ Rdr w' b st) ∧ Below base w w'
theorem Stp.x1 (p : Stp) (st : RS) (h : p.kd = 1) : p.next st = st.step (rdByte st.rest) := by unfold Stp.next; rw [if_pos h]
theorem Stp.x2 (p : Stp) (st : RS) (h : p.kd = 2) : p.next st = st.step (rdNum st.rest) := by unfold Stp.next; rw [if_neg (by omega), if_pos h]
theorem Stp.x3 (p : Stp) (st : RS) (h : p.kd = 3) : p.next st = st.step (rdRising st.rest 8) := by unfold Stp.next; rw [if_neg (by omega), if_neg (by omega), if_pos h]
theorem Stp.x4 (p : Stp) (st : RS) (h : p.kd = 4) : p.next st = st.step (rdText st.rest p.most) := by unfold Stp.next; rw [if_neg (by omega), if_neg (by omega), if_neg (by omega), if_pos h]
theorem Stp.x5 (p : Stp) (st : RS) (h : p.kd = 5) : p.next st = st.step (rdTexts st.rest 8 20) := by unfold Stp.next; rw [if_neg (by omega), if_neg (by omega), if_neg (by omega), if_neg (by omega), if_pos h]
theorem Stp.x6 (p : Stp) (st : RS) (h : p.kd = 6) : p.next st = st.step (rdHashes st.rest 8) := by unfold Stp.next; rw [if_neg (by omega), if_neg (by omega), if_neg (by omega), if_neg (by omega), if_neg (by omega), if_pos h]
theorem Stp.x7 (p : Stp) (st : RS) (h : p.kd = 7) : p.next st = st.step (rdRaw st.rest (p.s.length : Int)) := by unfold Stp.next; rw [if_neg (by omega), if_neg (by omega), if_neg (by omega), if_neg (by omega), if_neg (by omega), if_neg (by omega), if_pos h]
theorem Stp.x0 (p : Stp) (st : RS) (h1 : p.kd ≠ 1) (h2 : p.kd ≠ 2) (h3 : p.kd ≠ 3) (h4 : p.kd ≠ 4) (h5 : p.kd ≠ 5) (h6 : p.kd ≠ 6) (h7 : p.kd ≠ 7) : p.next st = st := by
  unfold Stp.next; rw [if_neg h1, if_neg h2, if_neg h3, if_neg h4, if_neg h5, if_neg h6, if_neg h7]
set_option maxRecDepth 100000 in
set_option maxHeartbeats 16000000 in
theorem takes_any (W : World) (a : Option Addr) (cap N : Nat) (F : Nat → Stp) (hS : Scr W a N F) (hN : N ≤ 1048576) (base b : Nat) (w : World) (hbW : Below W.heap.size W w) (hWb : W.heap.size ≤ base) (hbb : base ≤ b) (st0 : RS) (hR : Rdr w b st0) (hbase : base ≤ w.heap.size)
    (I : Nat → RS → Prop) (h0 : I 0 st0) (hI : ∀ k st, k < min N 100 → I k st → I (k + 1) ((F k).next st)) (g : Bool) (hg : g = true → ∀ k st, k < min N 100 → I k st → (F k).Hits st) :
    Calls Tryd.prog 10 #[.slice a N cap, .pointer (some ⟨b, 0, none⟩)] w (TPost w b base g (I (min N 100))) := by
  obtain ⟨M, hM⟩ : ∃ M, min N 100 = M := ⟨_, rfl⟩
  rw [hM] at hI hg ⊢
  have HS := hid hS
  have HR := hid hR
  have HbW := hid hbW
  have HI := hid hI
  have HG := hid hg
  have H0 := hid h0
  clear hS hR hbW hI hg h0
  go_enter Tryd.func10, Tryd.ntmps10
  go_wp2
  go_loopw [5, 6] (fun al i w' => ∃ (k : Nat) (q : Bool), k ≤ M ∧ al = .bool q ∧ i = .int .i64 (k : Int) ∧ Hid (g = true → q = true) ∧ Hid (∃ st, I k st ∧ Rdr w' b st) ∧ Hid (Below base w w')) (fun _ i _ => M - (intOf i).toNat)
  case atStart => exact ⟨0, true, by omega, rfl, rfl, hid (fun _ => rfl), ⟨st0, H0.out, HR.out⟩, Below.refl _ _⟩
  case round =>
    obtain ⟨k, q, hk, rfl, rfl, hq, hRk, hBk⟩ := hrel
    by_cases hlt : k < M
    · have b0 : (k : Int) < (N : Int) := by omega
      have b1 : (k : Int) < 100 := by omega
      obtain ⟨x, o, kp, mm, s, lv, tv, rfl, sa⟩ := HS.out k (by omega)
      obtain ⟨st, hIk, hRv⟩ := hRk.out
      have HRv := hid hRv
      have HIn := hid (HI.out k st hlt hIk)
      have HHt := hid (fun e => HG.out e k st hlt hIk)
      clear hRk hRv HS HR HG H0 HI hIk
      have sz := hBk.out.size
      have hbr : base ≤ wr.heap.size := by omega
      have hblt : b < wr.heap.size := HRv.out.lt
      have hne : wr.heap.size ≠ b := by omega
      have hBW := hid (HbW.out.trans (hBk.out.mono hWb))
      obtain ⟨q0, q1, q2, q3, q4, q5, q6, q7⟩ := sa.later hBW.out
      obtain ⟨la, lc, hlv, _⟩ := sa.hl
      obtain ⟨ta, tc, htv, _⟩ := sa.ht
      have ST := hid sa
      have n1 := sa.n1
      have n2 := sa.n2
      have hs2 := sa.hs2
      have hll := sa.hll
      have htl := sa.htl
      have hss := sa.hs
      clear sa
      generalize hp0 : F k = p at *
      clear hp0
      generalize hln : p.l.length = ln at *
      generalize htn : p.ts.length = tn at *
      subst hlv htv
      have hfin : ∀ (w2 : World) (st2 : RS), p.next st = st2 → Rdr w2 b st2 → Below base wr w2 → Hid (∃ st, I (k + 1) st ∧ Rdr w2 b st) ∧ Hid (Below base w w2) := fun w2 st2 e h1 h2 => ⟨hid ⟨st2, by rw [← e]; exact HIn.out, h1⟩, hid (hBk.out.trans h2)⟩
      have HF := hid hfin
      clear hfin
      obtain ⟨kd, hkd⟩ : ∃ kd, Hid (p.kd = kd) := ⟨_, rfl⟩
      rw [hkd.out] at q2
      by_cases h1 : kd = 1
      · subst h1
        have hX := heap_alloc_new wr (.cells #[.bool o, .bool kp, .int .i64 1, .int .i64 p.nn, .int .i64 mm, .string s, .slice la ln lc, .slice ta tn tc] 48)
        have c3 : (wr.alloc (.cells #[.bool o, .bool kp, .int .i64 1, .int .i64 p.nn, .int .i64 mm, .string s, .slice la ln lc, .slice ta tn tc] 48)).cell? ⟨wr.heap.size, 3, none⟩ = some (.int .i64 p.nn) := by rw [cell_of_row _ _ _ _ _ _ hX]; rfl
        have hXl : wr.heap.size < (wr.alloc (.cells #[.bool o, .bool kp, .int .i64 1, .int .i64 p.nn, .int .i64 mm, .string s, .slice la ln lc, .slice ta tn tc] 48)).heap.size := lt_of_heap hX
        have HRa := hid (HRv.out.below (bel_new (.cells #[.bool o, .bool kp, .int .i64 1, .int .i64 p.nn, .int .i64 mm, .string s, .slice la ln lc, .slice ta tn tc] 48)))
        have HBa := hid ((bel_new (.cells #[.bool o, .bool kp, .int .i64 1, .int .i64 p.nn, .int .i64 mm, .string s, .slice la ln lc, .slice ta tn tc] 48)).mono hbr)
        have HWa := hid (hBW.out.trans ((bel_new (.cells #[.bool o, .bool kp, .int .i64 1, .int .i64 p.nn, .int .i64 mm, .string s, .slice la ln lc, .slice ta tn tc] 48)).mono hBW.out.size))
        have hsa := le_new hbr (.cells #[.bool o, .bool kp, .int .i64 1, .int .i64 p.nn, .int .i64 mm, .string s, .slice la ln lc, .slice ta tn tc] 48)
        obtain ⟨nv, hnv⟩ : ∃ nv : Nat, Hid (st.val 0 (rdByte st.rest) = nv) := ⟨_, rfl⟩
        obtain ⟨okb, hokb⟩ : ∃ okb, ((nv : Int) == pk p.nn 256) = okb := ⟨_, rfl⟩
        have HOK : Hid (g = true → okb = true) := hid (fun e => by
          have h1 := (HHt.out e).k1 hkd.out
          rw [hnv.out] at h1
          have h2 := pk_nonneg p.nn 256 (by omega)
          rw [← hokb, h1]
          show (((pk p.nn 256).toNat : Int) == pk p.nn 256) = true
          rw [Int.toNat_of_nonneg h2]; simp)
        go_wp2
        generalize wr.alloc (.cells #[.bool o, .bool kp, .int .i64 1, .int .i64 p.nn, .int .i64 mm, .string s, .slice la ln lc, .slice ta tn tc] 48) = W1 at *
        generalize wr.heap.size = X at *
        go_region_held3 (fun w' => w'.cell? ⟨X, 3, none⟩ = some (.int .i64 p.nn)) (first | exact c3 | exact c3b | exact c3d) (first
          | (go_at_call 21; refine (rByte_any b st _ (HRa.out.below (Below.refl _ _).drew)).mono ?_; rw [hnv.out]; rintro z w2 ⟨rfl, hr2, hb2⟩; have HR2 := hid hr2; have HB2 := hid hb2; have c3b := (but_cell hb2 hXl hne).trans c3; clear hr2 hb2)
          | (go_at_call 25; refine (pick_any p.nn 256 n1 n2 (by decide) (by decide) _).mono ?_; rintro z w' ⟨rfl, hw'⟩; rw [hw']; clear hw' w'))
        have hf := HF.out w2 _ (p.x1 st hkd.out) HR2.out (HBa.out.drew.trans (HB2.out.below hbb hsa))
        cases q <;> go_wp2 <;> exact ⟨⟨k + 1, _, by omega, rfl, by go_num, by first | exact hq | exact HOK, hf.1, hf.2⟩, by simp [intOf]; omega⟩
      by_cases h2 : kd = 2
      · subst h2
        have hX := heap_alloc_new wr (.cells #[.bool o, .bool kp, .int .i64 2, .int .i64 p.nn, .int .i64 mm, .string s, .slice la ln lc, .slice ta tn tc] 48)
        have c3 : (wr.alloc (.cells #[.bool o, .bool kp, .int .i64 2, .int .i64 p.nn, .int .i64 mm, .string s, .slice la ln lc, .slice ta tn tc] 48)).cell? ⟨wr.heap.size, 3, none⟩ = some (.int .i64 p.nn) := by rw [cell_of_row _ _ _ _ _ _ hX]; rfl
        have hXl : wr.heap.size < (wr.alloc (.cells #[.bool o, .bool kp, .int .i64 2, .int .i64 p.nn, .int .i64 mm, .string s, .slice la ln lc, .slice ta tn tc] 48)).heap.size := lt_of_heap hX
        have HRa := hid (HRv.out.below (bel_new (.cells #[.bool o, .bool kp, .int .i64 2, .int .i64 p.nn, .int .i64 mm, .string s, .slice la ln lc, .slice ta tn tc] 48)))
        have HBa := hid ((bel_new (.cells #[.bool o, .bool kp, .int .i64 2, .int .i64 p.nn, .int .i64 mm, .string s, .slice la ln lc, .slice ta tn tc] 48)).mono hbr)
        have HWa := hid (hBW.out.trans ((bel_new (.cells #[.bool o, .bool kp, .int .i64 2, .int .i64 p.nn, .int .i64 mm, .string s, .slice la ln lc, .slice ta tn tc] 48)).mono hBW.out.size))
        have hsa := le_new hbr (.cells #[.bool o, .bool kp, .int .i64 2, .int .i64 p.nn, .int .i64 mm, .string s, .slice la ln lc, .slice ta tn tc] 48)
        obtain ⟨nv, hnv⟩ : ∃ nv : Nat, Hid (st.val 0 (rdNum st.rest) = nv) := ⟨_, rfl⟩
        obtain ⟨okb, hokb⟩ : ∃ okb, ((nv : Int) == pk p.nn 4611686018427387904) = okb := ⟨_, rfl⟩
        have HOK : Hid (g = true → okb = true) := hid (fun e => by
          have h1 := (HHt.out e).k2 hkd.out
          rw [hnv.out] at h1
          have h2 := pk_nonneg p.nn 4611686018427387904 (by omega)
          rw [← hokb, h1]
          show (((pk p.nn 4611686018427387904).toNat : Int) == pk p.nn 4611686018427387904) = true
          rw [Int.toNat_of_nonneg h2]; simp)
        go_wp2
        generalize wr.alloc (.cells #[.bool o, .bool kp, .int .i64 2, .int .i64 p.nn, .int .i64 mm, .string s, .slice la ln lc, .slice ta tn tc] 48) = W1 at *
        generalize wr.heap.size = X at *
        go_region_held3 (fun w' => w'.cell? ⟨X, 3, none⟩ = some (.int .i64 p.nn)) (first | exact c3 | exact c3b | exact c3d) (first
          | (go_at_call 22; refine (rNum_any b st _ (HRa.out.below (Below.refl _ _).drew)).mono ?_; rw [hnv.out]; rintro z w2 ⟨rfl, hr2, hb2⟩; have HR2 := hid hr2; have HB2 := hid hb2; have c3b := (but_cell hb2 hXl hne).trans c3; clear hr2 hb2)
          | (go_at_call 26; refine (lnumber_any p.nn n1 n2 _).mono ?_; rintro z w' ⟨rfl, hw'⟩; rw [hw']; clear hw' w'))
        have hf := HF.out w2 _ (p.x2 st hkd.out) HR2.out (HBa.out.drew.trans (HB2.out.below hbb hsa))
        cases q <;> go_wp2 <;> exact ⟨⟨k + 1, _, by omega, rfl, by go_num, by first | exact hq | exact HOK, hf.1, hf.2⟩, by simp [intOf]; omega⟩
      by_cases h3 : kd = 3
      · subst h3
        have hX := heap_alloc_new wr (.cells #[.bool o, .bool kp, .int .i64 3, .int .i64 p.nn, .int .i64 mm, .string s, .slice la ln lc, .slice ta tn tc] 48)
        have c6 : (wr.alloc (.cells #[.bool o, .bool kp, .int .i64 3, .int .i64 p.nn, .int .i64 mm, .string s, .slice la ln lc, .slice ta tn tc] 48)).cell? ⟨wr.heap.size, 6, none⟩ = some (.slice la ln lc) := by rw [cell_of_row _ _ _ _ _ _ hX]; rfl
        have hXl : wr.heap.size < (wr.alloc (.cells #[.bool o, .bool kp, .int .i64 3, .int .i64 p.nn, .int .i64 mm, .string s, .slice la ln lc, .slice ta tn tc] 48)).heap.size := lt_of_heap hX
        have HRa := hid (HRv.out.below (bel_new (.cells #[.bool o, .bool kp, .int .i64 3, .int .i64 p.nn, .int .i64 mm, .string s, .slice la ln lc, .slice ta tn tc] 48)))
        have HBa := hid ((bel_new (.cells #[.bool o, .bool kp, .int .i64 3, .int .i64 p.nn, .int .i64 mm, .string s, .slice la ln lc, .slice ta tn tc] 48)).mono hbr)
        have HWa := hid (hBW.out.trans ((bel_new (.cells #[.bool o, .bool kp, .int .i64 3, .int .i64 p.nn, .int .i64 mm, .string s, .slice la ln lc, .slice ta tn tc] 48)).mono hBW.out.size))
        have hsa := le_new hbr (.cells #[.bool o, .bool kp, .int .i64 3, .int .i64 p.nn, .int .i64 mm, .string s, .slice la ln lc, .slice ta tn tc] 48)
        obtain ⟨L, hL⟩ : ∃ L, Hid (st.val [] (rdRising st.rest 8) = L) := ⟨_, rfl⟩
        have HOL : Hid (g = true → ints L = ints p.rl) := hid (fun e => by have h1 := (HHt.out e).k3 hkd.out; rw [hL.out] at h1; rw [h1])
        go_wp2
        generalize wr.alloc (.cells #[.bool o, .bool kp, .int .i64 3, .int .i64 p.nn, .int .i64 mm, .string s, .slice la ln lc, .slice ta tn tc] 48) = W1 at *
        generalize wr.heap.size = X at *
        go_region_held3 (fun w' => w'.cell? ⟨X, 6, none⟩ = some (.slice la ln lc)) (first | exact c6 | exact c6b | exact c6d | exact c6e) (first
          | (go_at_call 23; refine (rRising_any b st 8 _ (.inr (by decide)) (HRa.out.below (Below.refl _ _).drew)).mono ?_; rw [hL.out]; rintro z w2 ⟨u2, rfl, ho2, hr2, hb2⟩; have hLl : L.length ≤ 9223372036854775807 := (by have := ho2.len; first | (rw [nvs_length] at this; unfold maxLen at this; omega) | (rw [svs_length] at this; unfold maxLen at this; omega)); have HO2 := hid ho2; have HR2 := hid hr2; have HB2 := hid hb2; have hs2w := hb2.size; have c6b := (but_cell hb2 hXl hne).trans c6; clear hr2 hb2 ho2)
          | (go_at_call 27; refine (rising_any (.slice la ln lc) p.l _ (ST.out.hl.bel (HWa.out.drew.trans (HB2.out.below (Nat.le_trans hWb hbb) (Nat.le_trans hWb hsa)))) ST.out.hlb (by omega)).mono ?_; rintro z w3 ⟨u3, rfl, ho3, hb3⟩; have HO3 := hid ho3; have HB3 := hid hb3; have hs3w := hb3.size; have c6d := (hb3.cell (p := ⟨X, 6, none⟩) (Nat.lt_of_lt_of_le hXl hs2w)).trans c6b; clear ho3 hb3)
          | (go_at_call 34; refine (sameInts_any u2 u3 (ints L) (ints p.rl) _ (HO2.out.slcI.bel HB3.out) HO3.out.slcI (by unfold ints; rw [List.length_map]; exact hLl) (by have := p.rl_len; unfold ints; rw [List.length_map]; omega)).mono ?_; rintro z w4 ⟨okb, rfl, hb4, hok4⟩; have HOK := hid (fun e => hok4 (HOL.out e)); have HB4 := hid hb4.1; have c6e := (hb4.1.cell (p := ⟨X, 6, none⟩) (Nat.lt_of_lt_of_le hXl (Nat.le_trans hs2w hs3w))).trans c6d; clear hb4 hok4))
        have hf := HF.out w4 _ (p.x3 st hkd.out) ((HR2.out.below HB3.out).below HB4.out) (HBa.out.drew.trans ((HB2.out.below hbb hsa).trans ((HB3.out.mono (Nat.le_trans hsa hs2w)).trans (HB4.out.mono (Nat.le_trans hsa (Nat.le_trans hs2w hs3w))))))
        cases q <;> go_wp2 <;> exact ⟨⟨k + 1, _, by omega, rfl, by go_num, by first | exact hq | exact HOK, hf.1, hf.2⟩, by simp [intOf]; omega⟩
      by_cases h4 : kd = 4
      · subst h4
        have hX := heap_alloc_new wr (.cells #[.bool o, .bool kp, .int .i64 4, .int .i64 p.nn, .int .i64 mm, .string s, .slice la ln lc, .slice ta tn tc] 48)
        have c3 : (wr.alloc (.cells #[.bool o, .bool kp, .int .i64 4, .int .i64 p.nn, .int .i64 mm, .string s, .slice la ln lc, .slice ta tn tc] 48)).cell? ⟨wr.heap.size, 3, none⟩ = some (.int .i64 p.nn) := by rw [cell_of_row _ _ _ _ _ _ hX]; rfl
        have c5 : (wr.alloc (.cells #[.bool o, .bool kp, .int .i64 4, .int .i64 p.nn, .int .i64 mm, .string s, .slice la ln lc, .slice ta tn tc] 48)).cell? ⟨wr.heap.size, 5, none⟩ = some (.string s) := by rw [cell_of_row _ _ _ _ _ _ hX]; rfl
        have hXl : wr.heap.size < (wr.alloc (.cells #[.bool o, .bool kp, .int .i64 4, .int .i64 p.nn, .int .i64 mm, .string s, .slice la ln lc, .slice ta tn tc] 48)).heap.size := lt_of_heap hX
        have HRa := hid (HRv.out.below (bel_new (.cells #[.bool o, .bool kp, .int .i64 4, .int .i64 p.nn, .int .i64 mm, .string s, .slice la ln lc, .slice ta tn tc] 48)))
        have HBa := hid ((bel_new (.cells #[.bool o, .bool kp, .int .i64 4, .int .i64 p.nn, .int .i64 mm, .string s, .slice la ln lc, .slice ta tn tc] 48)).mono hbr)
        have HWa := hid (hBW.out.trans ((bel_new (.cells #[.bool o, .bool kp, .int .i64 4, .int .i64 p.nn, .int .i64 mm, .string s, .slice la ln lc, .slice ta tn tc] 48)).mono hBW.out.size))
        have hsa := le_new hbr (.cells #[.bool o, .bool kp, .int .i64 4, .int .i64 p.nn, .int .i64 mm, .string s, .slice la ln lc, .slice ta tn tc] 48)
        obtain ⟨tb, htb, htd⟩ := sv_str (st.val [] (rdText st.rest p.most))
        have HTB := hid htb
        obtain ⟨okb, hokb⟩ : ∃ okb, (tb.toList == s.toList) = okb := ⟨_, rfl⟩
        have HOK : Hid (g = true → okb = true) := hid (fun e => by
          have h1 := (HHt.out e).k4 hkd.out
          rw [h1, ← hss] at htd
          rw [← hokb, ByteArray.toList_eq, ByteArray.toList_eq, htd]; simp)
        have hsl : (s.size : Int) = (p.s.length : Int) := by rw [← hss, data_length]
        clear htb htd
        have hp9 := pk_nonneg p.nn 9 (by omega)
        have hp9' := pk_lt p.nn 9 (by omega)
        have hwr := hid (show IntKind.i64.wrap ((s.size : Int) + pk p.nn 9) = p.most from by rw [IntKind.wrap_i64]; unfold Stp.most; omega)
        clear hsl
        go_wp2
        generalize wr.alloc (.cells #[.bool o, .bool kp, .int .i64 4, .int .i64 p.nn, .int .i64 mm, .string s, .slice la ln lc, .slice ta tn tc] 48) = W1 at *
        generalize wr.heap.size = X at *
        go_region_held3 (fun w' => w'.cell? ⟨X, 3, none⟩ = some (.int .i64 p.nn) ∧ w'.cell? ⟨X, 5, none⟩ = some (.string s)) (first | exact ⟨c3, c5⟩ | exact ⟨c3b, c5b⟩ | exact ⟨c3d, c5d⟩) (first
          | (go_at_call 25; refine (pick_any p.nn 9 n1 n2 (by decide) (by decide) _).mono ?_; rintro z w' ⟨rfl, hw'⟩; rw [hw']; clear hw' w')
          | (go_at_call 24; rw [hwr.out]; refine (rText_any b st _ _ (HRa.out.below (Below.refl _ _).drew)).mono ?_; rw [HTB.out]; rintro z w2 ⟨rfl, hr2, hb2⟩; have HR2 := hid hr2; have HB2 := hid hb2; have c3b := (but_cell hb2 hXl hne).trans c3; have c5b := (but_cell hb2 hXl hne).trans c5; clear hr2 hb2))
        have hf := HF.out w2 _ (p.x4 st hkd.out) HR2.out (HBa.out.drew.trans (HB2.out.below hbb hsa))
        cases q <;> go_wp2 <;> exact ⟨⟨k + 1, _, by omega, rfl, by go_num, by first | exact hq | exact HOK, hf.1, hf.2⟩, by simp [intOf]; omega⟩
      by_cases h5 : kd = 5
      · subst h5
        have hX := heap_alloc_new wr (.cells #[.bool o, .bool kp, .int .i64 5, .int .i64 p.nn, .int .i64 mm, .string s, .slice la ln lc, .slice ta tn tc] 48)
        have c7 : (wr.alloc (.cells #[.bool o, .bool kp, .int .i64 5, .int .i64 p.nn, .int .i64 mm, .string s, .slice la ln lc, .slice ta tn tc] 48)).cell? ⟨wr.heap.size, 7, none⟩ = some (.slice ta tn tc) := by rw [cell_of_row _ _ _ _ _ _ hX]; rfl
        have hXl : wr.heap.size < (wr.alloc (.cells #[.bool o, .bool kp, .int .i64 5, .int .i64 p.nn, .int .i64 mm, .string s, .slice la ln lc, .slice ta tn tc] 48)).heap.size := lt_of_heap hX
        have HRa := hid (HRv.out.below (bel_new (.cells #[.bool o, .bool kp, .int .i64 5, .int .i64 p.nn, .int .i64 mm, .string s, .slice la ln lc, .slice ta tn tc] 48)))
        have HBa := hid ((bel_new (.cells #[.bool o, .bool kp, .int .i64 5, .int .i64 p.nn, .int .i64 mm, .string s, .slice la ln lc, .slice ta tn tc] 48)).mono hbr)
        have HWa := hid (hBW.out.trans ((bel_new (.cells #[.bool o, .bool kp, .int .i64 5, .int .i64 p.nn, .int .i64 mm, .string s, .slice la ln lc, .slice ta tn tc] 48)).mono hBW.out.size))
        have hsa := le_new hbr (.cells #[.bool o, .bool kp, .int .i64 5, .int .i64 p.nn, .int .i64 mm, .string s, .slice la ln lc, .slice ta tn tc] 48)
        obtain ⟨L, hL⟩ : ∃ L, Hid (st.val [] (rdTexts st.rest 8 20) = L) := ⟨_, rfl⟩
        have HOL : Hid (g = true → L = p.tl) := hid (fun e => by have h1 := (HHt.out e).k5 hkd.out; rw [hL.out] at h1; rw [h1])
        go_wp2
        generalize wr.alloc (.cells #[.bool o, .bool kp, .int .i64 5, .int .i64 p.nn, .int .i64 mm, .string s, .slice la ln lc, .slice ta tn tc] 48) = W1 at *
        generalize wr.heap.size = X at *
        go_region_held3 (fun w' => w'.cell? ⟨X, 7, none⟩ = some (.slice ta tn tc)) (first | exact c7 | exact c7b | exact c7d | exact c7e) (first
          | (go_at_call 36; refine (rTexts_any b st 8 20 _ (.inr (by decide)) (HRa.out.below (Below.refl _ _).drew)).mono ?_; rw [hL.out]; rintro z w2 ⟨u2, rfl, ho2, hr2, hb2⟩; have hLl : L.length ≤ 9223372036854775807 := (by have := ho2.len; first | (rw [nvs_length] at this; unfold maxLen at this; omega) | (rw [svs_length] at this; unfold maxLen at this; omega)); have HO2 := hid ho2; have HR2 := hid hr2; have HB2 := hid hb2; have hs2w := hb2.size; have c7b := (but_cell hb2 hXl hne).trans c7; clear hr2 hb2 ho2)
          | (go_at_call 29; refine (texts_any (.slice ta tn tc) p.ts _ (ST.out.ht.bel (HWa.out.drew.trans (HB2.out.below (Nat.le_trans hWb hbb) (Nat.le_trans hWb hsa)))) (by omega)).mono ?_; rintro z w3 ⟨u3, rfl, ho3, hb3⟩; have HO3 := hid ho3; have HB3 := hid hb3; have hs3w := hb3.size; have c7d := (hb3.cell (p := ⟨X, 7, none⟩) (Nat.lt_of_lt_of_le hXl hs2w)).trans c7b; clear ho3 hb3)
          | (go_at_call 35; refine (sameTexts_any u2 u3 (L) (p.tl) _ (HO2.out.slcT.bel HB3.out) HO3.out.slcT hLl (by have := p.tl_len; omega)).mono ?_; rintro z w4 ⟨okb, rfl, hb4, hok4⟩; have HOK := hid (fun e => hok4 (HOL.out e)); have HB4 := hid hb4.1; have c7e := (hb4.1.cell (p := ⟨X, 7, none⟩) (Nat.lt_of_lt_of_le hXl (Nat.le_trans hs2w hs3w))).trans c7d; clear hb4 hok4))
        have hf := HF.out w4 _ (p.x5 st hkd.out) ((HR2.out.below HB3.out).below HB4.out) (HBa.out.drew.trans ((HB2.out.below hbb hsa).trans ((HB3.out.mono (Nat.le_trans hsa hs2w)).trans (HB4.out.mono (Nat.le_trans hsa (Nat.le_trans hs2w hs3w))))))
        cases q <;> go_wp2 <;> exact ⟨⟨k + 1, _, by omega, rfl, by go_num, by first | exact hq | exact HOK, hf.1, hf.2⟩, by simp [intOf]; omega⟩
      by_cases h6 : kd = 6
      · subst h6
        have hX := heap_alloc_new wr (.cells #[.bool o, .bool kp, .int .i64 6, .int .i64 p.nn, .int .i64 mm, .string s, .slice la ln lc, .slice ta tn tc] 48)
        have c7 : (wr.alloc (.cells #[.bool o, .bool kp, .int .i64 6, .int .i64 p.nn, .int .i64 mm, .string s, .slice la ln lc, .slice ta tn tc] 48)).cell? ⟨wr.heap.size, 7, none⟩ = some (.slice ta tn tc) := by rw [cell_of_row _ _ _ _ _ _ hX]; rfl
        have hXl : wr.heap.size < (wr.alloc (.cells #[.bool o, .bool kp, .int .i64 6, .int .i64 p.nn, .int .i64 mm, .string s, .slice la ln lc, .slice ta tn tc] 48)).heap.size := lt_of_heap hX
        have HRa := hid (HRv.out.below (bel_new (.cells #[.bool o, .bool kp, .int .i64 6, .int .i64 p.nn, .int .i64 mm, .string s, .slice la ln lc, .slice ta tn tc] 48)))
        have HBa := hid ((bel_new (.cells #[.bool o, .bool kp, .int .i64 6, .int .i64 p.nn, .int .i64 mm, .string s, .slice la ln lc, .slice ta tn tc] 48)).mono hbr)
        have HWa := hid (hBW.out.trans ((bel_new (.cells #[.bool o, .bool kp, .int .i64 6, .int .i64 p.nn, .int .i64 mm, .string s, .slice la ln lc, .slice ta tn tc] 48)).mono hBW.out.size))
        have hsa := le_new hbr (.cells #[.bool o, .bool kp, .int .i64 6, .int .i64 p.nn, .int .i64 mm, .string s, .slice la ln lc, .slice ta tn tc] 48)
        obtain ⟨L, hL⟩ : ∃ L, Hid (st.val [] (rdHashes st.rest 8) = L) := ⟨_, rfl⟩
        have HOL : Hid (g = true → L = p.hl) := hid (fun e => by have h1 := (HHt.out e).k6 hkd.out; rw [hL.out] at h1; rw [h1])
        go_wp2
        generalize wr.alloc (.cells #[.bool o, .bool kp, .int .i64 6, .int .i64 p.nn, .int .i64 mm, .string s, .slice la ln lc, .slice ta tn tc] 48) = W1 at *
        generalize wr.heap.size = X at *
        go_region_held3 (fun w' => w'.cell? ⟨X, 7, none⟩ = some (.slice ta tn tc)) (first | exact c7 | exact c7b | exact c7d | exact c7e) (first
          | (go_at_call 37; refine (rHashes_any b st 8 _ (.inr (by decide)) (HRa.out.below (Below.refl _ _).drew)).mono ?_; rw [hL.out]; rintro z w2 ⟨u2, rfl, ho2, hr2, hb2⟩; have hLl : L.length ≤ 9223372036854775807 := (by have := ho2.len; first | (rw [nvs_length] at this; unfold maxLen at this; omega) | (rw [svs_length] at this; unfold maxLen at this; omega)); have HO2 := hid ho2; have HR2 := hid hr2; have HB2 := hid hb2; have hs2w := hb2.size; have c7b := (but_cell hb2 hXl hne).trans c7; clear hr2 hb2 ho2)
          | (go_at_call 31; refine (hashes_any (.slice ta tn tc) p.ts _ (ST.out.ht.bel (HWa.out.drew.trans (HB2.out.below (Nat.le_trans hWb hbb) (Nat.le_trans hWb hsa)))) (by omega)).mono ?_; rintro z w3 ⟨u3, rfl, ho3, hb3⟩; have HO3 := hid ho3; have HB3 := hid hb3; have hs3w := hb3.size; have c7d := (hb3.cell (p := ⟨X, 7, none⟩) (Nat.lt_of_lt_of_le hXl hs2w)).trans c7b; clear ho3 hb3)
          | (go_at_call 35; refine (sameTexts_any u2 u3 (L) (p.hl) _ (HO2.out.slcT.bel HB3.out) HO3.out.slcT hLl (by have := p.hl_len; omega)).mono ?_; rintro z w4 ⟨okb, rfl, hb4, hok4⟩; have HOK := hid (fun e => hok4 (HOL.out e)); have HB4 := hid hb4.1; have c7e := (hb4.1.cell (p := ⟨X, 7, none⟩) (Nat.lt_of_lt_of_le hXl (Nat.le_trans hs2w hs3w))).trans c7d; clear hb4 hok4))
        have hf := HF.out w4 _ (p.x6 st hkd.out) ((HR2.out.below HB3.out).below HB4.out) (HBa.out.drew.trans ((HB2.out.below hbb hsa).trans ((HB3.out.mono (Nat.le_trans hsa hs2w)).trans (HB4.out.mono (Nat.le_trans hsa (Nat.le_trans hs2w hs3w))))))
        cases q <;> go_wp2 <;> exact ⟨⟨k + 1, _, by omega, rfl, by go_num, by first | exact hq | exact HOK, hf.1, hf.2⟩, by simp [intOf]; omega⟩
      by_cases h7 : kd = 7
      · subst h7
        have hX := heap_alloc_new wr (.cells #[.bool o, .bool kp, .int .i64 7, .int .i64 p.nn, .int .i64 mm, .string s, .slice la ln lc, .slice ta tn tc] 48)
        have c5 : (wr.alloc (.cells #[.bool o, .bool kp, .int .i64 7, .int .i64 p.nn, .int .i64 mm, .string s, .slice la ln lc, .slice ta tn tc] 48)).cell? ⟨wr.heap.size, 5, none⟩ = some (.string s) := by rw [cell_of_row _ _ _ _ _ _ hX]; rfl
        have hXl : wr.heap.size < (wr.alloc (.cells #[.bool o, .bool kp, .int .i64 7, .int .i64 p.nn, .int .i64 mm, .string s, .slice la ln lc, .slice ta tn tc] 48)).heap.size := lt_of_heap hX
        have HRa := hid (HRv.out.below (bel_new (.cells #[.bool o, .bool kp, .int .i64 7, .int .i64 p.nn, .int .i64 mm, .string s, .slice la ln lc, .slice ta tn tc] 48)))
        have HBa := hid ((bel_new (.cells #[.bool o, .bool kp, .int .i64 7, .int .i64 p.nn, .int .i64 mm, .string s, .slice la ln lc, .slice ta tn tc] 48)).mono hbr)
        have HWa := hid (hBW.out.trans ((bel_new (.cells #[.bool o, .bool kp, .int .i64 7, .int .i64 p.nn, .int .i64 mm, .string s, .slice la ln lc, .slice ta tn tc] 48)).mono hBW.out.size))
        have hsa := le_new hbr (.cells #[.bool o, .bool kp, .int .i64 7, .int .i64 p.nn, .int .i64 mm, .string s, .slice la ln lc, .slice ta tn tc] 48)
        obtain ⟨tb, htb, htd⟩ := sv_str (st.val [] (rdRaw st.rest (p.s.length : Int)))
        have HTB := hid htb
        obtain ⟨okb, hokb⟩ : ∃ okb, (tb.toList == s.toList) = okb := ⟨_, rfl⟩
        have HOK : Hid (g = true → okb = true) := hid (fun e => by
          have h1 := (HHt.out e).k7 hkd.out
          rw [h1, ← hss] at htd
          rw [← hokb, ByteArray.toList_eq, ByteArray.toList_eq, htd]; simp)
        have hsl : (s.size : Int) = (p.s.length : Int) := by rw [← hss, data_length]
        clear htb htd
        have hwr := hid hsl
        clear hsl
        go_wp2
        generalize wr.alloc (.cells #[.bool o, .bool kp, .int .i64 7, .int .i64 p.nn, .int .i64 mm, .string s, .slice la ln lc, .slice ta tn tc] 48) = W1 at *
        generalize wr.heap.size = X at *
        go_region_held3 (fun w' => w'.cell? ⟨X, 5, none⟩ = some (.string s)) (first | exact c5 | exact c5b | exact c5d) (first
          | (go_at_call 38; rw [hwr.out]; refine (rRaw_any b st _ _ (HRa.out.below (Below.refl _ _).drew)).mono ?_; rw [HTB.out]; rintro z w2 ⟨rfl, hr2, hb2⟩; have HR2 := hid hr2; have HB2 := hid hb2; have c5b := (but_cell hb2 hXl hne).trans c5; clear hr2 hb2))
        have hf := HF.out w2 _ (p.x7 st hkd.out) HR2.out (HBa.out.drew.trans (HB2.out.below hbb hsa))
        cases q <;> go_wp2 <;> exact ⟨⟨k + 1, _, by omega, rfl, by go_num, by first | exact hq | exact HOK, hf.1, hf.2⟩, by simp [intOf]; omega⟩
      have hX := heap_alloc_new wr (.cells #[.bool o, .bool kp, .int .i64 kd, .int .i64 p.nn, .int .i64 mm, .string s, .slice la ln lc, .slice ta tn tc] 48)
      have y1 : (kd == 1) = false := by simp [h1]
      have y2 : (kd == 2) = false := by simp [h2]
      have y3 : (kd == 3) = false := by simp [h3]
      have y4 : (kd == 4) = false := by simp [h4]
      have y5 : (kd == 5) = false := by simp [h5]
      have y6 : (kd == 6) = false := by simp [h6]
      have y7 : (kd == 7) = false := by simp [h7]
      have hf := HF.out (wr.alloc (.cells #[.bool o, .bool kp, .int .i64 kd, .int .i64 p.nn, .int .i64 mm, .string s, .slice la ln lc, .slice ta tn tc] 48)) st (p.x0 st (by rw [hkd.out]; exact h1) (by rw [hkd.out]; exact h2) (by rw [hkd.out]; exact h3) (by rw [hkd.out]; exact h4) (by rw [hkd.out]; exact h5) (by rw [hkd.out]; exact h6) (by rw [hkd.out]; exact h7)) (HRv.out.below (bel_new _)) ((bel_new _).mono hbr)
      cases q <;> go_wp2 <;> exact ⟨⟨k + 1, _, by omega, rfl, by go_num, by first | exact hq | exact hid (fun _ => rfl), hf.1, hf.2⟩, by simp [intOf]; omega⟩
    · obtain rfl : k = M := by omega
      by_cases hN100 : k < 100
      · have b0 : ¬ (k : Int) < (N : Int) := by omega
        go_wp2
        go_ret
        exact ⟨_, rfl, hq.out, hRk.out, hBk.out⟩
      · by_cases hNk : k < N
        · have b0 : (k : Int) < (N : Int) := by omega
          have b1 : ¬ (k : Int) < 100 := by omega
          go_wp2
          go_ret
          exact ⟨_, rfl, hq.out, hRk.out, hBk.out⟩
        · have b0 : ¬ (k : Int) < (N : Int) := by omega
          go_wp2
          go_ret
          exact ⟨_, rfl, hq.out, hRk.out, hBk.out⟩
end Go.Proofs.YtonmhimoglgbgaaDoor
