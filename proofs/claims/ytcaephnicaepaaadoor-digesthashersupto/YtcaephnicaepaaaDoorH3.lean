import Derived.Test.YtcaephnicaepaaaDoorH2
import Derived.Deep.Slices
namespace Go.Proofs.YtcaephnicaepaaaDoor
open Go.RowKit

theorem rsum_b {t d : ByteArray} (hD : Hid (sv (Sha.sha t.data.toList) = .string d)) (ht : t.size ≤ 140737488355000) (w : World) :
    Calls Tryd.prog 29 #[.string t] w fun e w' => e = .returned (.string d) ∧ Below w.heap.size w w' := by
  have h := rsum_sv hD (by rw [data_length]; exact ht) w
  rwa [← sv_eta] at h

theorem len_b (b : Nat) (t : ByteArray) (w : World) (hb : Has b t.data.toList w) :
    Calls Tryd.prog 21 #[.pointer (some ⟨b, 0, none⟩)] w fun e w' => e = .returned (.int .i64 (t.size : Int)) ∧ w' = w := by
  have h := len_any b _ w hb
  rwa [data_length] at h
theorem Has.drewN {b n : Nat} {t : List UInt8} {w : World} (h : Has b t w) : Has b t (w.drewN n) := h

set_option maxRecDepth 100000 in
set_option maxHeartbeats 2000000 in
theorem hashers_any (v : Value) (N : Nat) (hN : N ≤ 1048576) (w : World) (T : Tabs w) (hv : SlcO w v N) :
    Calls Tryd.prog 7 #[v] w fun e w' => e = .returned (.bool true) ∧ Below w.heap.size w w' := by
  have hT := T.lt
  obtain ⟨a1, c1, rfl, h1⟩ := hv
  have C1 := hid h1
  clear h1
  go_enter Tryd.func7, Tryd.ntmps7
  go_wp2_with (go_at_call 9; fail)
  refine (known_any _ T).mono ?_
  rintro e w1 ⟨rfl, hw1⟩
  go_wp2_with (go_at_call 16; fail)
  refine (new_any _).mono ?_
  rintro e w2 ⟨rfl, hh2, hw2⟩
  have hb0 := hw1.size
  have B2 := hid (hw1.trans (hw2.mono hb0))
  have s2 := hh2.lt
  have Hh2 := hid hh2
  clear hh2 hw2
  generalize w1.heap.size = b at *
  clear hw1 w1
  have S2 := hid (Hs.start w2 w.heap.size b 32 9 Hh2.out hb0)
  have A2 := hid (((B2.out.alloc B2.out.size (.cells #[.pointer (some ⟨b, 0, none⟩)] 32))).alloc (by rw [size_alloc]; have := B2.out.size; omega) (.cells #[.string ⟨#[]⟩] 9))
  go_wp2
  go_loopw [5, 6, 7, 8, 9, 10, 11, 12, 13, 14] (fun vh vt i _ _ _ _ _ _ _ w' => ∃ (k n gh ch gt ct : Nat) (bs : List Nat) (ts : List ByteArray), k ≤ N ∧ i = .int .i64 k ∧ vh = .slice (some ⟨gh, 0, none⟩) n ch ∧ vt = .slice (some ⟨gt, 0, none⟩) n ct ∧ Hid (Hs w' w.heap.size gh ch gt ct n bs ts (k * 1048576)) ∧ Hid (Below w.heap.size w w')) (fun _ _ i _ _ _ _ _ _ _ _ => N - (intOf i).toNat)
  case atStart => exact ⟨0, 1, w2.heap.size, 1, w2.heap.size + 1, 1, [b], [⟨#[]⟩], by omega, rfl, rfl, rfl, hid (S2.out.more (by omega)), A2⟩
  case round =>
    clear S2 A2 B2 Hh2
    obtain ⟨k, n, gh, ch, gt, ct, bs, ts, hk, rfl, rfl, rfl, hH, hB⟩ := hrel
    have n0 := hH.out.pos
    have n8 := hH.out.most
    by_cases hlt : k < N
    · have hlt' : (k : Int) < (N : Int) := by omega
      obtain ⟨x, kd, on, s, hx, hxb, hc0, hc1, hc2, on1, on2, hs⟩ := C1.out k hlt
      subst hx
      have c0 : wr.cell? (x.add (k * 3)) = some (.int .i64 kd) := (hB.out.cell (p := x.add (k * 3)) (by rw [add_block]; exact hxb)).trans hc0
      have c1 : wr.cell? ⟨(x.add (k * 3)).block, (x.add (k * 3)).off + 1, none⟩ = some (.int .i64 on) := by
        show wr.cell? ((x.add (k * 3)).add 1) = _
        rw [Go.Deep.add_add]; exact (hB.out.cell (p := x.add (k * 3 + 1)) (by rw [add_block]; exact hxb)).trans hc1
      have c2 : wr.cell? ⟨(x.add (k * 3)).block, (x.add (k * 3)).off + 2, none⟩ = some (.string s) := by
        show wr.cell? ((x.add (k * 3)).add 2) = _
        rw [Go.Deep.add_add]; exact (hB.out.cell (p := x.add (k * 3 + 2)) (by rw [add_block]; exact hxb)).trans hc2
      clear hc0 hc1 hc2
      go_wp2_with (go_at_call 15; fail)
      obtain ⟨r, hr⟩ : ∃ r : Nat, Hid (pk on (n : Int) = (r : Int)) := ⟨(pk on (n : Int)).toNat, by have := pk_nonneg on (n : Int) (by omega); unfold Hid; omega⟩
      have hr2 : (r : Int) < (n : Int) := by rw [← hr.out]; exact pk_lt _ _ (by omega)
      have hr3 : r < n := by omega
      refine (pick_at hr on1 on2 (by omega) (by omega) _).mono ?_
      rintro e w' ⟨rfl, hw'⟩
      rw [hw']
      clear hw' w' c0 c1 c2 hr on1 on2 hxb
      have d0 : (wr.alloc (.cells #[.int .i64 kd, .int .i64 on, .string s] 44)).cell? ⟨wr.heap.size, 0, none⟩ = some (.int .i64 kd) := by rw [cell_of_row _ _ _ _ _ _ (heap_alloc_new wr _)]; rfl
      have d2 : (wr.alloc (.cells #[.int .i64 kd, .int .i64 on, .string s] 44)).cell? ⟨wr.heap.size, 2, none⟩ = some (.string s) := by rw [cell_of_row _ _ _ _ _ _ (heap_alloc_new wr _)]; rfl
      have A3 : Below wr.heap.size wr (wr.alloc (.cells #[.int .i64 kd, .int .i64 on, .string s] 44)) := (Below.refl _ _).alloc (Nat.le_refl _) _
      have hH3 := hid (hH.out.below A3 (Nat.le_refl _))
      have hB3 := hid (hB.out.trans (A3.mono hB.out.size))
      have g3 : wr.heap.size < (wr.alloc (.cells #[.int .i64 kd, .int .i64 on, .string s] 44)).heap.size := by rw [size_alloc]; omega
      have g4 := hB.out.size
      have gbs := hid (hH.out.lt)
      have ggh := hH.out.ownh.blockLt.2
      have ggt := hH.out.ownt.blockLt.2
      clear A3 hH hB
      generalize wr.alloc (.cells #[.int .i64 kd, .int .i64 on, .string s] 44) = w3 at *
      generalize wr.heap.size = G at *
      clear wr
      have T3 := T.below hB3.out hT
      obtain ⟨b', t, hb', ht, ch0, ct0, fz, hHas, hts, hbb, hbl⟩ := hH3.out.at r hr3
      have Hb' := hid hb'
      have Ht := hid ht
      have HHas := hid hHas
      clear hb' ht hHas
      by_cases k1 : kd = 1
      · subst k1
        go_wp2_with (go_at_call 18; fail)
        have lb' : b' < G := gbs.out b' (List.mem_of_getElem? Hb'.out)
        have nt' : gt ≠ b' := fun e => hH3.out.nt (e ▸ List.mem_of_getElem? Hb'.out)
        refine (write_any b' t.data.toList s (by rw [data_length]; omega) _ T3 (by omega) HHas.out).mono ?_
        rintro e w4 ⟨rfl, hh4, hw4⟩
        have ct1 := (hw4.cell (o := r) (by omega) nt').trans ct0
        have fz1 := (hw4.frozen (o := r) (by omega) nt').trans fz
        have d21 := (hw4.cell (o := 2) g3 (by omega)).trans d2
        have W4 := hid (hH3.out.write Hb'.out Ht.out hw4 hh4 hs)
        have B4 := hid ((hB3.out.trans (hw4.below (by omega) hB3.out.size)).setCell (p := ⟨gt, r, none⟩) hH3.out.ownt.blockLt.1 (.string (t ++ s)))
        clear hw4 hh4 ct0 fz d2 d0 ch0 HHas
        have lm : (t.size : Int) + (s.size : Int) ≤ 9223372036854775807 := by omega
        go_wp2
        have W5 := hid ((W4.out.heap (w' := (w4.setCell ⟨gt, r, none⟩ (.string (t ++ s))).drew) rfl).more (m' := (k + 1) * 1048576) (by omega))
        have B5 := hid (below_drewN B4.out 1)
        clear W4 B4
        go_region
        go_wp2
        exact ⟨⟨k + 1, n, gh, ch, gt, ct, bs, ts.set r (t ++ s), by omega, by go_num, rfl, rfl, W5, B5.out⟩, by simp [intOf]; omega⟩
      · by_cases k2 : kd = 2
        · subst k2
          clear k1
          obtain ⟨d, hD⟩ : ∃ d, Hid (sv (Sha.sha t.data.toList) = .string d) := ⟨_, rfl⟩
          have yd : (d.toList == d.toList) = true := by simp
          go_wp2_with (go_at_call 20; fail)
          refine (hsum_sv hD (by rw [data_length]; omega) _ T3 HHas.out).mono ?_
          rintro e w4 ⟨rfl, hw4⟩
          have ct1 := (hw4.cell (p := ⟨gt, r, none⟩) (show gt < w3.heap.size by omega)).trans ct0
          have H4 := hid (hH3.out.below hw4 (Nat.le_refl _))
          have B4 := hid (hB3.out.trans (hw4.mono hB3.out.size))
          clear hw4 ct0
          go_wp2_with (go_at_call 29; fail)
          refine (rsum_b hD (by omega) _).mono ?_
          rintro e w5 ⟨rfl, hw5⟩
          have H5 := hid ((H4.out.below hw5 (Nat.le_refl _)).more (m' := (k + 1) * 1048576) (by omega))
          have B5 := hid (B4.out.trans (hw5.mono B4.out.size))
          clear hw5
          go_wp2
          first | exact ⟨⟨k + 1, n, gh, ch, gt, ct, bs, ts, by omega, by go_num, rfl, rfl, H5, B5⟩, by simp [intOf]; omega⟩ | (refine ⟨?_, by simp [intOf]; omega⟩; (repeat apply Exists.intro); exact ⟨⟨k + 1, n, gh, ch, gt, ct, bs, ts, by omega, by go_num, rfl, rfl, H5, B5⟩, rfl⟩)
        · by_cases k3 : kd = 3
          · subst k3
            clear k1 k2
            have yt : ((t.size : Int) == (t.size : Int)) = true := by simp
            have H5 := hid (hH3.out.more (m' := (k + 1) * 1048576) (by omega))
            go_wp2
            go_quiet ((go_at_call 21; refine Calls.quiet_of_same (len_b b' t _ ?_); exact HHas.out.drewN))
            go_wp2
            first | exact ⟨⟨k + 1, n, gh, ch, gt, ct, bs, ts, by omega, by go_num, rfl, rfl, hid (H5.out.heap rfl), below_drewN hB3.out _⟩, by simp [intOf]; omega⟩ | (refine ⟨?_, by simp [intOf]; omega⟩; (repeat apply Exists.intro); exact ⟨⟨k + 1, n, gh, ch, gt, ct, bs, ts, by omega, by go_num, rfl, rfl, hid (H5.out.heap rfl), below_drewN hB3.out _⟩, rfl⟩)
          · by_cases k4 : kd = 4
            · subst k4
              clear k1 k2 k3
              go_wp2_with (go_at_call 19; fail)
              refine (clone_any b' t.data.toList _ HHas.out).mono ?_
              rintro e w4 ⟨M, rfl, hM, hm4, hw4⟩
              have H4 := hid (hH3.out.below hw4 (Nat.le_refl _))
              have B4 := hid (hB3.out.trans (hw4.mono hB3.out.size))
              have M4 := hid hm4
              clear hm4 hw4
              by_cases hn : n < 8
              · have hn' : (n : Int) < 8 := by omega
                obtain ⟨gh', ch', w5, gt', ct', w6, a1, a2, a3, a4, a5⟩ := H4.out.push hn M4.out (by omega) (fun h => by have := gbs.out M h; omega) (by omega) (by omega) (by have := B4.out.size; omega) hts
                have ct1 := a3 r t Ht.out
                have H6 := hid (a4.more (m' := (k + 1) * 1048576) (by omega))
                have B6 := hid (B4.out.trans a5)
                clear a3 a4 a5
                go_wp2_with (at_builtin; go_must (first | refine Lib.wpList_append_run _ rfl _ _ 42 42 rfl _ _ rfl rfl _ _ a1 ?_ | refine Lib.wpList_append_run _ rfl _ _ 29 29 rfl _ _ rfl rfl _ _ a2 ?_))
                first | exact ⟨⟨k + 1, n + 1, gh', ch', gt', ct', bs ++ [M], ts ++ [t], by omega, by go_num, rfl, rfl, H6, B6⟩, by simp [intOf]; omega⟩ | (refine ⟨?_, by simp [intOf]; omega⟩; (repeat apply Exists.intro); exact ⟨⟨k + 1, n + 1, gh', ch', gt', ct', bs ++ [M], ts ++ [t], by omega, by go_num, rfl, rfl, H6, B6⟩, rfl⟩)
              · have hn' : ¬ (n : Int) < 8 := by omega
                have H6 := hid (H4.out.more (m' := (k + 1) * 1048576) (by omega))
                go_wp2
                first | exact ⟨⟨k + 1, n, gh, ch, gt, ct, bs, ts, by omega, by go_num, rfl, rfl, H6, B4⟩, by simp [intOf]; omega⟩ | (refine ⟨?_, by simp [intOf]; omega⟩; (repeat apply Exists.intro); exact ⟨⟨k + 1, n, gh, ch, gt, ct, bs, ts, by omega, by go_num, rfl, rfl, H6, B4⟩, rfl⟩)
            · by_cases k5 : kd = 5
              · subst k5
                clear k1 k2 k3 k4
                go_wp2_with (go_at_call 16; fail)
                refine (new_any _).mono ?_
                rintro e w4 ⟨rfl, hm4, hw4⟩
                have H4 := hid (hH3.out.below hw4 (Nat.le_refl _))
                have B4 := hid (hB3.out.trans (hw4.mono hB3.out.size))
                have M4 := hid hm4
                clear hm4 hw4
                by_cases hn : n < 8
                · have hn' : (n : Int) < 8 := by omega
                  obtain ⟨gh', ch', w5, gt', ct', w6, a1, a2, a3, a4, a5⟩ := H4.out.push (t := ⟨#[]⟩) hn M4.out (by omega) (fun h => by have := gbs.out _ h; omega) (by omega) (by omega) (by have := B4.out.size; omega) (by rw [emptySize]; omega)
                  have H6 := hid (a4.more (m' := (k + 1) * 1048576) (by omega))
                  have B6 := hid (B4.out.trans a5)
                  clear a3 a4 a5
                  go_wp2_with (at_builtin; go_must (first | refine Lib.wpList_append_run _ rfl _ _ 42 42 rfl _ _ rfl rfl _ _ a1 ?_ | refine Lib.wpList_append_run _ rfl _ _ 29 29 rfl _ _ rfl rfl _ _ a2 ?_))
                  first | exact ⟨⟨k + 1, n + 1, gh', ch', gt', ct', bs ++ [w3.heap.size], ts ++ [⟨#[]⟩], by omega, by go_num, rfl, rfl, H6, B6⟩, by simp [intOf]; omega⟩ | (refine ⟨?_, by simp [intOf]; omega⟩; (repeat apply Exists.intro); exact ⟨⟨k + 1, n + 1, gh', ch', gt', ct', bs ++ [w3.heap.size], ts ++ [⟨#[]⟩], by omega, by go_num, rfl, rfl, H6, B6⟩, rfl⟩)
                · have hn' : ¬ (n : Int) < 8 := by omega
                  have H6 := hid (H4.out.more (m' := (k + 1) * 1048576) (by omega))
                  go_wp2
                  first | exact ⟨⟨k + 1, n, gh, ch, gt, ct, bs, ts, by omega, by go_num, rfl, rfl, H6, B4⟩, by simp [intOf]; omega⟩ | (refine ⟨?_, by simp [intOf]; omega⟩; (repeat apply Exists.intro); exact ⟨⟨k + 1, n, gh, ch, gt, ct, bs, ts, by omega, by go_num, rfl, rfl, H6, B4⟩, rfl⟩)
              · have e1 : (kd == 1) = false := by simpa using k1
                have e2 : (kd == 2) = false := by simpa using k2
                have e3 : (kd == 3) = false := by simpa using k3
                have e4 : (kd == 4) = false := by simpa using k4
                have e5 : (kd == 5) = false := by simpa using k5
                have H6 := hid (hH3.out.more (m' := (k + 1) * 1048576) (by omega))
                go_wp2
                first | exact ⟨⟨k + 1, n, gh, ch, gt, ct, bs, ts, by omega, by go_num, rfl, rfl, H6, hB3⟩, by simp [intOf]; omega⟩ | (refine ⟨?_, by simp [intOf]; omega⟩; (repeat apply Exists.intro); exact ⟨⟨k + 1, n, gh, ch, gt, ct, bs, ts, by omega, by go_num, rfl, rfl, H6, hB3⟩, rfl⟩)
    · obtain rfl : k = N := by omega
      have hlt' : ¬ (k : Int) < (k : Int) := by omega
      go_wp2
      go_loopw [15, 16, 17] (fun i _ _ w' => ∃ j : Nat, j ≤ n ∧ i = .int .i64 j ∧ Hid (Hs w' w.heap.size gh ch gt ct n bs ts (k * 1048576)) ∧ Hid (Below w.heap.size w w')) (fun i _ _ _ => n - (intOf i).toNat)
      case atStart => exact ⟨0, by omega, rfl, hH, hB⟩
      case round =>
        clear hH hB
        obtain ⟨j, hj, rfl, hH, hB⟩ := hrel
        by_cases hjl : j < n
        · have hjl' : (j : Int) < (n : Int) := by omega
          obtain ⟨b', t, hb', ht, ch0, ct0, fz, hHas, hts, hbb, hbl⟩ := hH.out.at j hjl
          have lgh := hH.out.ownh.blockLt.2
          have lgt := hH.out.ownt.blockLt.2
          have HHas := hid hHas
          clear hb' ht hHas fz
          have T3 := T.below hB.out hT
          obtain ⟨d, hD⟩ : ∃ d, Hid (sv (Sha.sha t.data.toList) = .string d) := ⟨_, rfl⟩
          have yd : (d.toList == d.toList) = true := by simp
          go_wp2_with (go_at_call 20; fail)
          refine (hsum_sv hD (by rw [data_length]; omega) _ T3 HHas.out).mono ?_
          rintro e w4 ⟨rfl, hw4⟩
          have ch1 := (hw4.cell (p := ⟨gh, j, none⟩) lgh).trans ch0
          have ct1 := (hw4.cell (p := ⟨gt, j, none⟩) lgt).trans ct0
          have H4 := hid (hH.out.below hw4 (Nat.le_refl _))
          have B4 := hid (hB.out.trans (hw4.mono hB.out.size))
          have HH4 := hid (HHas.out.below hw4 hbl)
          have T4 := T.below B4.out hT
          have s4 := hw4.size
          clear hw4 ch0 ct0 HHas
          go_wp2_with (go_at_call 20; fail)
          refine (hsum_sv hD (by rw [data_length]; omega) _ T4 HH4.out).mono ?_
          rintro e w5 ⟨rfl, hw5⟩
          have ch2 := (hw5.cell (p := ⟨gh, j, none⟩) (show gh < w4.heap.size by omega)).trans ch1
          have ct2 := (hw5.cell (p := ⟨gt, j, none⟩) (show gt < w4.heap.size by omega)).trans ct1
          have H5 := hid (H4.out.below hw5 (Nat.le_refl _))
          have B5 := hid (B4.out.trans (hw5.mono B4.out.size))
          have HH5 := hid (HH4.out.below hw5 (by omega))
          have s5 := hw5.size
          clear hw5 ch1 ct1 H4 B4 HH4 T4 hH hB T3
          go_wp2
          have q0 : t.size ≤ 140737488355000 := by omega
          have q1 : gh < w5.heap.size := by omega
          have q2 : gt < w5.heap.size := by omega
          have q3 : b' < w5.heap.size := by omega
          have D5 := hid (below_drewN (Below.refl w5.heap.size w5) 1)
          go_region_held3 (fun w' => w'.cell? ⟨gh, j, none⟩ = some (.pointer (some ⟨b', 0, none⟩)) ∧ w'.cell? ⟨gt, j, none⟩ = some (.string t) ∧ Hid (Has b' t.data.toList w') ∧ Hid (Below w5.heap.size w5 w'))
            (first | with_reducible exact ⟨ch3, ct3, HH6, B56⟩ | exact ⟨ch2, ct2, HH5, D5.out⟩)
            (first
            | (go_at_call 29; refine (rsum_b hD q0 _).mono ?_; rintro e w6 ⟨rfl, hw6'⟩; have hw6 := undrew hw6'; have ch3 := (hw6.cell (p := ⟨gh, j, none⟩) q1).trans ch2; have ct3 := (hw6.cell (p := ⟨gt, j, none⟩) q2).trans ct2; have B56 := hid hw6; have HH6 := hid (HH5.out.below hw6 q3); clear hw6 hw6')
            | (go_at_call 21; refine (len_b b' t _ HH6.out).mono ?_; rintro e w' ⟨rfl, hw'⟩; rw [hw']; clear hw' w'))
          have H6 := hid (H5.out.below B56.out (Nat.le_refl _))
          have B6 := hid (B5.out.trans (B56.out.mono B5.out.size))
          clear B56 H5 B5 D5
          go_wp2
          first | exact ⟨⟨j + 1, by omega, by go_num, H6, B6⟩, by simp [intOf]; omega⟩ | (refine ⟨?_, by simp [intOf]; omega⟩; (repeat apply Exists.intro); exact ⟨⟨j + 1, by omega, by go_num, H6, B6⟩, rfl⟩)
        · obtain rfl : j = n := by omega
          have hjl' : ¬ (j : Int) < (j : Int) := by omega
          go_wp2
          go_ret
          exact ⟨rfl, hB.out⟩
end Go.Proofs.YtcaephnicaepaaaDoor
