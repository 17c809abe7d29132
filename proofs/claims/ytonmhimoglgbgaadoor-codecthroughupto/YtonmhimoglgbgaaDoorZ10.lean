import Derived.Test.YtonmhimoglgbgaaDoorZ8
namespace Go.Proofs.YtonmhimoglgbgaaDoor
open Go.RowKit Cod

set_option maxRecDepth 100000 in
set_option maxHeartbeats 8000000 in
theorem lays_any (W : World) (a : Option Addr) (cap N : Nat) (F : Nat → Stp) (hS : Scr W a N F) (hN : N ≤ 1048576) (base b : Nat) (w : World) (hbW : Below W.heap.size W w) (hWb : W.heap.size ≤ base) (v0 : Value) (hW : Wri w base b v0 (.ok [])) (hbase : base ≤ w.heap.size) :
    Calls Tryd.prog 7 #[.slice a N cap, .pointer (some ⟨b, 0, none⟩)] w fun r w' => r = .returned (.tuple #[]) ∧ (∃ v', Wri w' base b v' (.ok (acc F (min N 100)))) ∧ Below base w w' := by
  obtain ⟨M, hM⟩ : ∃ M, min N 100 = M := ⟨_, rfl⟩
  rw [hM]
  have HS := hid hS
  have HW := hid hW
  have HbW := hid hbW
  clear hS hW hbW
  have hlen : ∀ k, k ≤ M → (acc F k).length ≤ k * 1050000 := fun k => by
    induction k with
    | zero => intro _; simp [acc]
    | succ k ih =>
      intro hk
      obtain ⟨x, o, kp, mm, s, lv, tv, _, st⟩ := HS.out k (by omega)
      have h1 := (F k).bytes_le (by rw [← st.hs, data_length]; exact st.hs2)
      have h2 := ih (by omega)
      rw [acc, List.length_append]
      omega
  have HL := hid hlen
  clear hlen
  go_enter Tryd.func7, Tryd.ntmps7
  go_wp2
  go_loopw [4] (fun i w' => ∃ k : Nat, k ≤ M ∧ i = .int .i64 (k : Int) ∧ Hid (∃ v', Wri w' base b v' (.ok (acc F k))) ∧ Hid (Below base w w')) (fun i _ => M - (intOf i).toNat)
  case atStart => exact ⟨0, by omega, rfl, ⟨v0, HW.out⟩, Below.refl _ _⟩
  case round =>
    obtain ⟨k, hk, rfl, hWk, hBk⟩ := hrel
    by_cases hlt : k < M
    · have b0 : (k : Int) < (N : Int) := by omega
      have b1 : (k : Int) < 100 := by omega
      obtain ⟨x, o, kp, mm, s, lv, tv, rfl, st⟩ := HS.out k (by omega)
      obtain ⟨v, hWv⟩ := hWk.out
      have HWv := hid hWv
      have hL := HL.out k (by omega)
      have hL2 : k * 1050000 ≤ 105000000 := by omega
      have hacc := hid (show acc F (k + 1) = acc F k ++ (F k).bytes from rfl)
      clear hWk hWv HS HW HL
      have hbl := hid ((F k).bytes_le (by rw [← st.hs, data_length]; exact st.hs2))
      have sz := hBk.out.size
      have hbr : base ≤ wr.heap.size := by omega
      have hBW := hid (HbW.out.trans (hBk.out.mono hWb))
      obtain ⟨q0, q1, q2, q3, q4, q5, q6, q7⟩ := st.later hBW.out
      obtain ⟨la, lc, hlv, _⟩ := st.hl
      obtain ⟨ta, tc, htv, _⟩ := st.ht
      have ST := hid st
      have n1 := st.n1
      have n2 := st.n2
      have hs2 := st.hs2
      have hll := st.hll
      have htl := st.htl
      have hss := st.hs
      clear st
      generalize hp0 : F k = p at *
      clear hp0
      obtain ⟨S, hS⟩ : ∃ S, Hid (acc F k = S) := ⟨_, rfl⟩
      rw [hS.out] at hacc HWv hL
      generalize hln : p.l.length = ln at *
      generalize htn : p.ts.length = tn at *
      subst hlv htv
      have hfin : ∀ (w2 : World) (B : List UInt8), p.bytes = B → (∃ v', Wri w2 base b v' (.ok (S ++ B))) → Below base wr w2 → Hid (∃ v', Wri w2 base b v' (.ok (acc F (k + 1)))) ∧ Hid (Below base w w2) := fun w2 B e h1 h2 => ⟨hid (by rw [hacc.out, e]; exact h1), hid (hBk.out.trans h2)⟩
      have HF := hid hfin
      clear hfin
      obtain ⟨kd, hkd⟩ : ∃ kd, Hid (p.kd = kd) := ⟨_, rfl⟩
      rw [hkd.out] at q2
      by_cases h1 : kd = 1
      · subst h1
        have hX := heap_alloc_new wr (.cells #[.bool o, .bool kp, .int .i64 1, .int .i64 p.nn, .int .i64 mm, .string s, .slice la ln lc, .slice ta tn tc] 48)
        go_wp2_with (go_at_call 25; fail)
        go_at_call 25
        refine (pick_any p.nn 256 n1 n2 (by decide) (by decide) _).mono ?_
        rintro z w' ⟨rfl, hw'⟩; rw [hw']; clear hw' w'
        go_wp2_with (go_at_call 17; fail)
        go_at_call 17
        refine (wByte_any base b v (.ok S) _ _ (HWv.out.below (bel_new _)) (le_new hbr _) (fun bs hbs => by cases hbs; omega)).mono ?_
        intro z w2 hp
        obtain ⟨rfl, hw2, hb2⟩ := put_ok p.e1 (HWv.out.below (bel_new _)) (le_new hbr _) hp
        clear hp
        have hf := HF.out w2 _ (p.b1 hkd.out) hw2 (((bel_new _).mono hbr).trans hb2)
        go_wp2
        exact ⟨⟨k + 1, by omega, by go_num, hf.1, hf.2⟩, by simp [intOf]; omega⟩
      by_cases h2 : kd = 2
      · subst h2
        have hX := heap_alloc_new wr (.cells #[.bool o, .bool kp, .int .i64 2, .int .i64 p.nn, .int .i64 mm, .string s, .slice la ln lc, .slice ta tn tc] 48)
        go_wp2_with (go_at_call 26; fail)
        go_at_call 26
        refine (lnumber_any p.nn n1 n2 _).mono ?_
        rintro z w' ⟨rfl, hw'⟩; rw [hw']; clear hw' w'
        go_wp2_with (go_at_call 18; fail)
        go_at_call 18
        refine (wNum_any base b v (.ok S) _ (by have := pk_nonneg p.nn 4611686018427387904 (by omega); omega) (by have := pk_lt p.nn 4611686018427387904 (by omega); omega) _ (HWv.out.below (bel_new _)) (le_new hbr _) (fun bs hbs => by cases hbs; omega)).mono ?_
        intro z w2 hp
        obtain ⟨rfl, hw2, hb2⟩ := put_ok p.e2 (HWv.out.below (bel_new _)) (le_new hbr _) hp
        clear hp
        have hf := HF.out w2 _ (p.b2 hkd.out) hw2 (((bel_new _).mono hbr).trans hb2)
        go_wp2
        exact ⟨⟨k + 1, by omega, by go_num, hf.1, hf.2⟩, by simp [intOf]; omega⟩
      by_cases h3 : kd = 3
      · subst h3
        have hX := heap_alloc_new wr (.cells #[.bool o, .bool kp, .int .i64 3, .int .i64 p.nn, .int .i64 mm, .string s, .slice la ln lc, .slice ta tn tc] 48)
        go_wp2_with (go_at_call 27; fail)
        go_at_call 27
        refine (rising_any (.slice la ln lc) p.l _ (ST.out.hl.bel (hBW.out.trans ((bel_new _).mono hBW.out.size))) ST.out.hlb (by omega)).mono ?_
        rintro z w1 ⟨u, rfl, ho, hb1⟩
        have HO := hid ho
        have HB1 := hid hb1
        have HW1 := hid ((HWv.out.below (bel_new _)).below hb1)
        have HAP := hid ((HWv.out.below (bel_new _)).apart ho)
        have hb1s : base ≤ w1.heap.size := Nat.le_trans (le_new hbr _) hb1.size
        have hbb := hid (((bel_new _).mono hbr).trans (hb1.mono (le_new hbr _)))
        clear ho hb1
        go_wp2_with (go_at_call 19; fail)
        go_at_call 19
        refine (wRising_any base b v (.ok S) u (ints p.rl) (ints_bd _ 0 p.rl_rises) (by have := p.rl_len; unfold maxLen ints; rw [List.length_map]; omega) w1 HO.out.slcI HAP.out HW1.out hb1s (fun bs hbs => by cases hbs; (have := hbl.out; rw [p.b3 hkd.out] at this; omega))).mono ?_
        intro z w2 hp
        obtain ⟨rfl, hw2, hb2⟩ := put_ok p.e3 HW1.out hb1s hp
        clear hp
        have hf := HF.out w2 _ (p.b3 hkd.out) hw2 (hbb.out.trans hb2)
        go_wp2
        exact ⟨⟨k + 1, by omega, by go_num, hf.1, hf.2⟩, by simp [intOf]; omega⟩
      by_cases h4 : kd = 4
      · subst h4
        have hX := heap_alloc_new wr (.cells #[.bool o, .bool kp, .int .i64 4, .int .i64 p.nn, .int .i64 mm, .string s, .slice la ln lc, .slice ta tn tc] 48)
        have hp9 := pk_nonneg p.nn 9 (by omega)
        have hp9' := pk_lt p.nn 9 (by omega)
        have hwr := hid (show IntKind.i64.wrap ((s.size : Int) + pk p.nn 9) = (s.size : Int) + pk p.nn 9 from by rw [IntKind.wrap_i64]; omega)
        have c3 : (wr.alloc (.cells #[.bool o, .bool kp, .int .i64 4, .int .i64 p.nn, .int .i64 mm, .string s, .slice la ln lc, .slice ta tn tc] 48)).cell? ⟨wr.heap.size, 3, none⟩ = some (.int .i64 p.nn) := by rw [cell_of_row _ _ _ _ _ _ hX]; rfl
        have c5 : (wr.alloc (.cells #[.bool o, .bool kp, .int .i64 4, .int .i64 p.nn, .int .i64 mm, .string s, .slice la ln lc, .slice ta tn tc] 48)).cell? ⟨wr.heap.size, 5, none⟩ = some (.string s) := by rw [cell_of_row _ _ _ _ _ _ hX]; rfl
        have hXl := lt_of_heap hX
        have hXn : ¬ WS b v wr.heap.size := fun e => by have := (HWv.out.in _ e).2; omega
        have HWa := hid (HWv.out.below (bel_new (.cells #[.bool o, .bool kp, .int .i64 4, .int .i64 p.nn, .int .i64 mm, .string s, .slice la ln lc, .slice ta tn tc] 48)))
        have HBa := hid ((bel_new (.cells #[.bool o, .bool kp, .int .i64 4, .int .i64 p.nn, .int .i64 mm, .string s, .slice la ln lc, .slice ta tn tc] 48)).mono hbr)
        have hsa := le_new hbr (.cells #[.bool o, .bool kp, .int .i64 4, .int .i64 p.nn, .int .i64 mm, .string s, .slice la ln lc, .slice ta tn tc] 48)
        go_wp2
        generalize wr.alloc (.cells #[.bool o, .bool kp, .int .i64 4, .int .i64 p.nn, .int .i64 mm, .string s, .slice la ln lc, .slice ta tn tc] 48) = W1 at *
        generalize wr.heap.size = X at *
        go_region_held3 (fun w' => w'.cell? ⟨X, 3, none⟩ = some (.int .i64 p.nn) ∧ w'.cell? ⟨X, 5, none⟩ = some (.string s)) (first | exact ⟨c3, c5⟩ | exact ⟨c3b, c5b⟩) (first
          | (go_at_call 25; refine (pick_any p.nn 9 n1 n2 (by decide) (by decide) _).mono ?_; rintro z w' ⟨rfl, hw'⟩; rw [hw']; clear hw' w')
          | (go_at_call 20; refine (wText_any base b v (.ok S) s _ _ (by omega) (HWa.out.below (Below.refl _ _).drew) hsa (fun bs hbs => by cases hbs; (have := hbl.out; rw [p.b4 hkd.out, ← hss] at this; omega))).mono ?_; intro z w2 hp; have hkp := hp.2; obtain ⟨rfl, hw2, hb2⟩ := put_ok (by rw [hwr.out]; exact p.e4 s.size) (HWa.out.below (Below.refl _ _).drew) hsa hp; clear hp; obtain ⟨v9, _, hkp, _⟩ := hkp; have c3b := (World.cell?_of_block (a := ⟨X, 3, none⟩) (hkp.block X hXl hXn)).trans c3; have c5b := (World.cell?_of_block (a := ⟨X, 5, none⟩) (hkp.block X hXl hXn)).trans c5; have hf := HF.out w2 _ (p.b4 hkd.out) (by rw [← hss]; exact hw2) (HBa.out.drew.trans hb2); clear hw2 hb2 hkp))
        go_wp2
        exact ⟨⟨k + 1, by omega, by go_num, hf.1, hf.2⟩, by simp [intOf]; omega⟩
      by_cases h5 : kd = 5
      · subst h5
        have hX := heap_alloc_new wr (.cells #[.bool o, .bool kp, .int .i64 5, .int .i64 p.nn, .int .i64 mm, .string s, .slice la ln lc, .slice ta tn tc] 48)
        go_wp2_with (go_at_call 29; fail)
        go_at_call 29
        refine (texts_any (.slice ta tn tc) p.ts _ (ST.out.ht.bel (hBW.out.trans ((bel_new _).mono hBW.out.size))) (by omega)).mono ?_
        rintro z w1 ⟨u, rfl, ho, hb1⟩
        have HO := hid ho
        have HB1 := hid hb1
        have HW1 := hid ((HWv.out.below (bel_new _)).below hb1)
        have HAP := hid ((HWv.out.below (bel_new _)).apart ho)
        have hb1s : base ≤ w1.heap.size := Nat.le_trans (le_new hbr _) hb1.size
        have hbb := hid (((bel_new _).mono hbr).trans (hb1.mono (le_new hbr _)))
        clear ho hb1
        go_wp2_with (go_at_call 28; fail)
        go_at_call 28
        refine (wTexts_any base b v (.ok S) u p.tl 8 20 (by have := p.tl_len; unfold maxLen; omega) w1 HO.out.slcT HAP.out HW1.out hb1s (fun bs hbs => by cases hbs; (have := hbl.out; rw [p.b5 hkd.out] at this; omega))).mono ?_
        intro z w2 hp
        obtain ⟨rfl, hw2, hb2⟩ := put_ok p.e5 HW1.out hb1s hp
        clear hp
        have hf := HF.out w2 _ (p.b5 hkd.out) hw2 (hbb.out.trans hb2)
        go_wp2
        exact ⟨⟨k + 1, by omega, by go_num, hf.1, hf.2⟩, by simp [intOf]; omega⟩
      by_cases h6 : kd = 6
      · subst h6
        have hX := heap_alloc_new wr (.cells #[.bool o, .bool kp, .int .i64 6, .int .i64 p.nn, .int .i64 mm, .string s, .slice la ln lc, .slice ta tn tc] 48)
        go_wp2_with (go_at_call 31; fail)
        go_at_call 31
        refine (hashes_any (.slice ta tn tc) p.ts _ (ST.out.ht.bel (hBW.out.trans ((bel_new _).mono hBW.out.size))) (by omega)).mono ?_
        rintro z w1 ⟨u, rfl, ho, hb1⟩
        have HO := hid ho
        have HB1 := hid hb1
        have HW1 := hid ((HWv.out.below (bel_new _)).below hb1)
        have HAP := hid ((HWv.out.below (bel_new _)).apart ho)
        have hb1s : base ≤ w1.heap.size := Nat.le_trans (le_new hbr _) hb1.size
        have hbb := hid (((bel_new _).mono hbr).trans (hb1.mono (le_new hbr _)))
        clear ho hb1
        go_wp2_with (go_at_call 30; fail)
        go_at_call 30
        refine (wHashes_any base b v (.ok S) u p.hl 8 (by have := p.hl_len; unfold maxLen; omega) w1 HO.out.slcT HAP.out HW1.out hb1s (fun bs hbs => by cases hbs; (have := hbl.out; rw [p.b6 hkd.out] at this; omega))).mono ?_
        intro z w2 hp
        obtain ⟨rfl, hw2, hb2⟩ := put_ok p.e6 HW1.out hb1s hp
        clear hp
        have hf := HF.out w2 _ (p.b6 hkd.out) hw2 (hbb.out.trans hb2)
        go_wp2
        exact ⟨⟨k + 1, by omega, by go_num, hf.1, hf.2⟩, by simp [intOf]; omega⟩
      by_cases h7 : kd = 7
      · subst h7
        have hX := heap_alloc_new wr (.cells #[.bool o, .bool kp, .int .i64 7, .int .i64 p.nn, .int .i64 mm, .string s, .slice la ln lc, .slice ta tn tc] 48)
        go_wp2_with (go_at_call 32; fail)
        go_at_call 32
        refine (wRaw_any base b v (.ok S) s _ (HWv.out.below (bel_new _)) (le_new hbr _) (fun bs hbs => by cases hbs; (have := data_length s; omega))).mono ?_
        intro z w2 hp
        obtain ⟨rfl, hw2, hb2⟩ := put_ok rfl (HWv.out.below (bel_new _)) (le_new hbr _) hp
        clear hp
        have hf := HF.out w2 _ ((p.b7 hkd.out).trans hss.symm) hw2 (((bel_new _).mono hbr).trans hb2)
        go_wp2
        exact ⟨⟨k + 1, by omega, by go_num, hf.1, hf.2⟩, by simp [intOf]; omega⟩
      have hX := heap_alloc_new wr (.cells #[.bool o, .bool kp, .int .i64 kd, .int .i64 p.nn, .int .i64 mm, .string s, .slice la ln lc, .slice ta tn tc] 48)
      have y1 : (kd == 1) = false := by simp [h1]
      have y2 : (kd == 2) = false := by simp [h2]
      have y3 : (kd == 3) = false := by simp [h3]
      have y4 : (kd == 4) = false := by simp [h4]
      have y5 : (kd == 5) = false := by simp [h5]
      have y6 : (kd == 6) = false := by simp [h6]
      have y7 : (kd == 7) = false := by simp [h7]
      have hf := HF.out (wr.alloc (.cells #[.bool o, .bool kp, .int .i64 kd, .int .i64 p.nn, .int .i64 mm, .string s, .slice la ln lc, .slice ta tn tc] 48)) [] (p.b0 (by rw [hkd.out]; exact h1) (by rw [hkd.out]; exact h2) (by rw [hkd.out]; exact h3) (by rw [hkd.out]; exact h4) (by rw [hkd.out]; exact h5) (by rw [hkd.out]; exact h6) (by rw [hkd.out]; exact h7)) ⟨v, by rw [List.append_nil]; exact HWv.out.below (bel_new _)⟩ ((bel_new _).mono hbr)
      go_wp2
      exact ⟨⟨k + 1, by omega, by go_num, hf.1, hf.2⟩, by simp [intOf]; omega⟩
    · obtain rfl : k = M := by omega
      by_cases hN100 : k < 100
      · have b0 : ¬ (k : Int) < (N : Int) := by omega
        go_wp2
        go_end0
        exact ⟨rfl, hWk.out, hBk.out⟩
      · by_cases hNk : k < N
        · have b0 : (k : Int) < (N : Int) := by omega
          have b1 : ¬ (k : Int) < 100 := by omega
          go_wp2
          go_end0
          exact ⟨rfl, hWk.out, hBk.out⟩
        · have b0 : ¬ (k : Int) < (N : Int) := by omega
          go_wp2
          go_end0
          exact ⟨rfl, hWk.out, hBk.out⟩
end Go.Proofs.YtonmhimoglgbgaaDoor
