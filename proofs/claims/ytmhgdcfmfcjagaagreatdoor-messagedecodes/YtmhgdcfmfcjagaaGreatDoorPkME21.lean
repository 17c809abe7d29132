import Derived.Test.YtmhgdcfmfcjagaaGreatDoorPkMYA2
import Derived.Test.YtmhgdcfmfcjagaaGreatDoorPkMB6
namespace Go.Proofs.YtmhgdcfmfcjagaaGreatDoor
open Go.RowKit Cod
namespace Msg

theorem str_neq17 {a b : List UInt8} (h : a ≠ b) : ((ByteArray.mk a.toArray).toList == (ByteArray.mk b.toArray).toList) = false := by
  rw [ByteArray.toList_eq, ByteArray.toList_eq]
  simpa using h
set_option maxRecDepth 100000 in
set_option maxHeartbeats 4000000 in
theorem rdecode17_bad (s : ByteArray) (w : World) (hs : s.size ≤ 4611686018427380000) (k : Nat) (hR : rdText s.data.toList 1048576 = .bad k) :
    Calls Tryz.prog 19 #[.string s] w (DPost s.data.toList w) := by
  have i1 := unframe17_any s (w.alloc (.cells #[.int .i64 0, .int .i64 0, .int .i64 0, .int .i64 0, .slice none 0 0, .slice none 0 0, .slice none 0 0] 26)) hs
  rw [hR] at i1
  have i1 : Calls Tryz.prog 45 #[.string s] (w.alloc (.cells #[.int .i64 0, .int .i64 0, .int .i64 0, .int .i64 0, .slice none 0 0, .slice none 0 0, .slice none 0 0] 26)) fun e w' => e = .returned (.tuple #[sv [], sv [], .int .i64 (unfr k)]) ∧ Below (w.alloc (.cells #[.int .i64 0, .int .i64 0, .int .i64 0, .int .i64 0, .slice none 0 0, .slice none 0 0, .slice none 0 0] 26)).heap.size (w.alloc (.cells #[.int .i64 0, .int .i64 0, .int .i64 0, .int .i64 0, .slice none 0 0, .slice none 0 0, .slice none 0 0] 26)) w' := i1
  have hne := unfr_ne k
  unfold DPost
  rw [hR]
  show Calls _ _ _ _ fun e w' => Below w.heap.size w w' ∧ e = .returned (.tuple #[rq0, sv [], .int .i64 (unfr k)])
  generalize unfr k = z at *
  have hb : (z == 0) = false := by simp [hne]
  clear hR
  have z1 := size_alloc w (.cells #[.int .i64 0, .int .i64 0, .int .i64 0, .int .i64 0, .slice none 0 0, .slice none 0 0, .slice none 0 0] 26)
  have r0 := hid (heap_alloc_new w (.cells #[.int .i64 0, .int .i64 0, .int .i64 0, .int .i64 0, .slice none 0 0, .slice none 0 0, .slice none 0 0] 26))
  have b0 := hid ((Below.refl w.heap.size w).alloc (Nat.le_refl _) (.cells #[.int .i64 0, .int .i64 0, .int .i64 0, .int .i64 0, .slice none 0 0, .slice none 0 0, .slice none 0 0] 26))
  go_enter Tryz.func19, Tryz.ntmps19
  go_wp2_with (first
    | (go_at_call 45; refine i1.mono ?_; rintro e w1 ⟨rfl, h1⟩; have R1 := hid ((h1.block _ (by omega)).trans r0.out); have B1 := hid (b0.out.trans (h1.mono b0.out.size)); clear h1)
    | ((with_reducible show wpList _ _ _ (Oper.mk _ (Op.store 26 _ _) _ _ _ _ :: _) _ _); go_must (refine wpList_store_row rfl 26 _ _ rfl w.heap.size _ rfl rfl 26 _ R1.out (sizeRq' _ _ _ _ _ _ _) rfl (oneRq _ _ _ _ _ _ _ _ _ _ _ _ _) ?_)))
  refine bodyPost_ret (results_row_tmp2 rfl _ _ w.heap.size 26 _ (0, 0) _ rfl (setRow_heap _ _ _ _ _ _ R1.out) Tryz.underlying26 rfl sizeRq) rfl ?_
  exact ⟨Below.setRow B1.out (Nat.le_refl _) _, rfl⟩
set_option maxRecDepth 100000 in
set_option maxHeartbeats 4000000 in
theorem rdecode17_good (s : ByteArray) (w : World) (hs : s.size ≤ 4611686018427380000) (p r : List UInt8) (hR : rdText s.data.toList 1048576 = .good p r) :
    Calls Tryz.prog 19 #[.string s] w (DPost s.data.toList w) := by
  have i1 := unframe17_any s (w.alloc (.cells #[.int .i64 0, .int .i64 0, .int .i64 0, .int .i64 0, .slice none 0 0, .slice none 0 0, .slice none 0 0] 26)) hs
  rw [hR] at i1
  have i1 : Calls Tryz.prog 45 #[.string s] (w.alloc (.cells #[.int .i64 0, .int .i64 0, .int .i64 0, .int .i64 0, .slice none 0 0, .slice none 0 0, .slice none 0 0] 26)) fun e w' => e = .returned (.tuple #[.string ⟨p.toArray⟩, .string ⟨r.toArray⟩, .int .i64 0]) ∧ Below (w.alloc (.cells #[.int .i64 0, .int .i64 0, .int .i64 0, .int .i64 0, .slice none 0 0, .slice none 0 0, .slice none 0 0] 26)).heap.size (w.alloc (.cells #[.int .i64 0, .int .i64 0, .int .i64 0, .int .i64 0, .slice none 0 0, .slice none 0 0, .slice none 0 0] 26)) w' := i1
  have hpl : p.length ≤ 1048576 := by have := (text_back hR).2.2.1; omega
  have hrl : r.length ≤ 4611686018427380000 := by
    have := congrArg List.length (text_back hR).1
    rw [List.length_append, data_length] at this; omega
  unfold DPost
  rw [hR]
  obtain ⟨f1, f2, f3⟩ := fit_dAll ⟨p, 0, 0⟩ (by show p.length ≤ _; omega)
  have hY := hid (dec17_yes hR)
  have hN := hid (dec17_no hR)
  have HP := hid hpl
  have HR := hid hrl
  clear hR hpl hrl
  have z1 := size_alloc w (.cells #[.int .i64 0, .int .i64 0, .int .i64 0, .int .i64 0, .slice none 0 0, .slice none 0 0, .slice none 0 0] 26)
  have r0 := hid (heap_alloc_new w (.cells #[.int .i64 0, .int .i64 0, .int .i64 0, .int .i64 0, .slice none 0 0, .slice none 0 0, .slice none 0 0] 26))
  have b0 := hid ((Below.refl w.heap.size w).alloc (Nat.le_refl _) (.cells #[.int .i64 0, .int .i64 0, .int .i64 0, .int .i64 0, .slice none 0 0, .slice none 0 0, .slice none 0 0] 26))
  obtain ⟨q, hq⟩ : ∃ q, Hid (dAll ⟨p, 0, 0⟩ = q) := ⟨_, rfl⟩
  obtain ⟨T, hT⟩ : ∃ T, Hid (tRequest (⟨p, 0, 0⟩, false) = T) := ⟨_, rfl⟩
  show Calls _ _ _ _ fun e w' => Below w.heap.size w w' ∧ DOk (tRequest (⟨p, 0, 0⟩, false)) r w e w'
  rw [hT.out] at hY hN ⊢
  clear f2
  rw [hq.out] at hY hN f1 f3
  go_enter Tryz.func19, Tryz.ntmps19
  go_wp2_with (first
    | (go_at_call 45; refine i1.mono ?_; rintro e w1 ⟨rfl, h1⟩; have R1 := hid ((h1.block _ (by omega)).trans r0.out); have B1 := hid (b0.out.trans (h1.mono b0.out.size)); have lt1 : w.heap.size < w1.heap.size := (by have := h1.size; omega); clear h1)
    | (go_at_call 46; fail))
  go_at_call 46
  refine (xNew_any ⟨p.toArray⟩ (by rw [sv_size]; exact HP.out) w1).mono ?_
  rintro e w2 ⟨rfl, n1, n2, n3⟩
  rw [sv_data] at n1
  have i2 := take17_all n1
  rw [hq.out] at i2
  have R3 := hid ((n2.block _ (by omega)).trans R1.out)
  have B3 := hid (B1.out.trans (n2.mono (by omega)))
  have L3 : w.heap.size < w2.heap.size := by omega
  clear n1 n2 R1 B1
  go_wp2_with (go_at_call 47; fail)
  go_at_call 47
  refine i2.mono ?_
  rintro e w4 ⟨ul, ue, ua, rfl, ⟨g1, g2, g3, g4, g5, g6⟩, g7, g8⟩
  obtain ⟨p1, n1, e1, _⟩ := id g1
  obtain ⟨p2, n2, e2, _⟩ := id g3
  obtain ⟨p3, n3', e3⟩ := g5.shape
  rw [← g6] at e3
  subst e1 e2 e3
  obtain ⟨cs, hcs⟩ : ∃ cs, Hid (#[Value.int .i64 q.1.1.kind, .int .i64 q.1.1.a, .int .i64 q.1.1.b, .int .i64 q.1.1.size, .slice p1 q.1.1.list.length n1, .slice p2 q.1.1.ent.length n2, .slice p3 q.1.1.n n3'] = cs) := ⟨_, rfl⟩
  have b5 := (Below.refl w4.heap.size w4).alloc (Nat.le_refl _) (.cells cs 26)
  have z5 := size_alloc w4 (.cells cs 26)
  have k4 := g8.size
  have b4 : Below w.heap.size w w4 := B3.out.trans (g8.below (by omega) (fun k hk e => by omega))
  have r4 : w4.heap[w.heap.size]? = some (.cells #[.int .i64 0, .int .i64 0, .int .i64 0, .int .i64 0, .slice none 0 0, .slice none 0 0, .slice none 0 0] 26 (0, 0)) := (g8.block _ (by omega) (by omega)).trans R3.out
  have i3 := xDone_any _ _ _ _ (g7.below b5)
  have r5 := heap_alloc_new w4 (.cells cs 26)
  have G : Hid (∀ w6, Below (w4.alloc (.cells cs 26)).heap.size (w4.alloc (.cells cs 26)) w6 → Below w.heap.size w w6 ∧ w6.heap[w.heap.size]? = some (.cells #[.int .i64 0, .int .i64 0, .int .i64 0, .int .i64 0, .slice none 0 0, .slice none 0 0, .slice none 0 0] 26 (0, 0)) ∧ w6.heap[w4.heap.size]? = some (.cells cs 26 (0, 0)) ∧
      Got (w6.setRow w.heap.size cs) w.heap.size q.1.1 q.1.2 (.slice p1 q.1.1.list.length n1) (.slice p2 q.1.1.ent.length n2) (.slice p3 q.1.1.n n3') ∧ Got w6 w.heap.size q.1.1 q.1.2 (.slice p1 q.1.1.list.length n1) (.slice p2 q.1.1.ent.length n2) (.slice p3 q.1.1.n n3')) := fun w6 h6 => by
    have b46 : Below w4.heap.size w4 w6 := b5.trans (h6.mono (by omega))
    have k0 : Keep (fun k => k = w.heap.size) w4 w6 := Keep.ofBelow b46
    have k1 : Keep (fun k => k = w.heap.size) w4 (w6.setRow w.heap.size cs) := k0.trans (T := fun k => k = w.heap.size) ⟨rfl, rfl, rfl, by rw [setRow_size]; exact Nat.le_refl _, fun k _ hk => setRow_other w6 _ k _ hk⟩ (fun _ _ e => e)
    have hS : ∀ k, w2.heap.size ≤ k → k < w4.heap.size → ¬ k = w.heap.size := fun k k1 _ e => by omega
    refine ⟨b4.trans (b46.mono (by omega)), (b46.block _ (by omega)).trans r4, (h6.block _ (by omega)).trans r5, ?_, ?_⟩
    · exact ⟨g2.slcI g1 k1 hS, g2.mono (by omega) k1.size, g4.slc g3 k1 hS, g4.mono (by omega) k1.size, ((g5.keep k1 hS).mono' k1.size).lower (by omega), g6⟩
    · exact ⟨g2.slcI g1 k0 hS, g2.mono (by omega) k0.size, g4.slc g3 k0 hS, g4.mono (by omega) k0.size, ((g5.keep k0 hS).mono' k0.size).lower (by omega), g6⟩
  rw [← hcs.out] at i3
  rw [akV]
  clear g1 g2 g3 g4 g5 g6 g7 g8 b4 b5 r4 r5 R3 B3 i1 i2
  go_wp2_with (go_at_call 48; fail)
  go_at_call 48
  refine i3.mono ?_
  rintro e w6 ⟨rfl, h6⟩
  rw [hcs.out] at h6
  obtain ⟨j1, j2, j3, j4, j5⟩ := G.out w6 h6
  have y0 : w6.cell? ⟨w4.heap.size, 0, none⟩ = some (.int .i64 q.1.1.kind) := (by rw [cell_of_row _ _ _ _ _ _ j3, ← hcs.out]; rfl)
  have y1 : w6.cell? ⟨w4.heap.size, 1, none⟩ = some (.int .i64 q.1.1.a) := (by rw [cell_of_row _ _ _ _ _ _ j3, ← hcs.out]; rfl)
  have y2 : w6.cell? ⟨w4.heap.size, 2, none⟩ = some (.int .i64 q.1.1.b) := (by rw [cell_of_row _ _ _ _ _ _ j3, ← hcs.out]; rfl)
  have y3 : w6.cell? ⟨w4.heap.size, 3, none⟩ = some (.int .i64 q.1.1.size) := (by rw [cell_of_row _ _ _ _ _ _ j3, ← hcs.out]; rfl)
  have y4 : w6.cell? ⟨w4.heap.size, 4, none⟩ = some (.slice p1 q.1.1.list.length n1) := (by rw [cell_of_row _ _ _ _ _ _ j3, ← hcs.out]; rfl)
  have y5 : w6.cell? ⟨w4.heap.size, 5, none⟩ = some (.slice p2 q.1.1.ent.length n2) := (by rw [cell_of_row _ _ _ _ _ _ j3, ← hcs.out]; rfl)
  have y6 : w6.cell? ⟨w4.heap.size, 6, none⟩ = some (.slice p3 q.1.1.n n3') := (by rw [cell_of_row _ _ _ _ _ _ j3, ← hcs.out]; rfl)
  have i4 := rencode17_any (j5.ra1 f1 f3)
  rw [akV] at i4
  have G7 : Hid (∀ w7, Below w6.heap.size w6 w7 → Below w.heap.size w w7 ∧ w7.heap[w.heap.size]? = some (.cells #[.int .i64 0, .int .i64 0, .int .i64 0, .int .i64 0, .slice none 0 0, .slice none 0 0, .slice none 0 0] 26 (0, 0)) ∧ w7.heap[w4.heap.size]? = some (.cells cs 26 (0, 0)) ∧
      Got (w7.setRow w.heap.size cs) w.heap.size q.1.1 q.1.2 (.slice p1 q.1.1.list.length n1) (.slice p2 q.1.1.ent.length n2) (.slice p3 q.1.1.n n3')) := fun w7 h7 => by
    obtain ⟨a1, a2, a3, a4, _⟩ := G.out w7 (h6.trans (h7.mono h6.size))
    exact ⟨a1, a2, a3, a4⟩
  clear j1 j2 j3 j4 j5 h6 i3 G
  go_wp2_with (go_at_call 10; fail)
  go_at_call 10
  refine i4.mono ?_
  rintro e w7 ⟨rfl, h7⟩
  obtain ⟨k1, k2, k3, k4⟩ := G7.out w7 h7
  have x0 : w7.cell? ⟨w4.heap.size, 0, none⟩ = some (.int .i64 q.1.1.kind) := (by rw [cell_of_row _ _ _ _ _ _ k3, ← hcs.out]; rfl)
  have x1 : w7.cell? ⟨w4.heap.size, 1, none⟩ = some (.int .i64 q.1.1.a) := (by rw [cell_of_row _ _ _ _ _ _ k3, ← hcs.out]; rfl)
  have x2 : w7.cell? ⟨w4.heap.size, 2, none⟩ = some (.int .i64 q.1.1.b) := (by rw [cell_of_row _ _ _ _ _ _ k3, ← hcs.out]; rfl)
  have x3 : w7.cell? ⟨w4.heap.size, 3, none⟩ = some (.int .i64 q.1.1.size) := (by rw [cell_of_row _ _ _ _ _ _ k3, ← hcs.out]; rfl)
  have x4 : w7.cell? ⟨w4.heap.size, 4, none⟩ = some (.slice p1 q.1.1.list.length n1) := (by rw [cell_of_row _ _ _ _ _ _ k3, ← hcs.out]; rfl)
  have x5 : w7.cell? ⟨w4.heap.size, 5, none⟩ = some (.slice p2 q.1.1.ent.length n2) := (by rw [cell_of_row _ _ _ _ _ _ k3, ← hcs.out]; rfl)
  have x6 : w7.cell? ⟨w4.heap.size, 6, none⟩ = some (.slice p3 q.1.1.n n3') := (by rw [cell_of_row _ _ _ _ _ _ k3, ← hcs.out]; rfl)
  have J1 := hid k1
  have J2 := hid k2
  have J4 := hid k4
  clear h7 k1 k2 k3 k4 G7 i4 y0 y1 y2 y3 y4 y5 y6
  cases hok : (decide (T.2.1.done = 0) && !T.2.2) with
  | true =>
    obtain ⟨d1, d2, d3, d4⟩ := hY.out hok
    have HO := hid hok
    have HD := hid d1
    have hadd := add_sv Tryz.prog 9 (wrText p) r (by rw [← List.length_append, d4, data_length]; omega)
    rw [d4, sv_of, svX r] at hadd
    rw [d2, d3]
    have hss : (s.toList == s.toList) = true := beq_self_eq_true _
    clear hok d1 d2 d3 d4 hY hN
    go_wp2_with ((with_reducible show wpList _ _ _ (Oper.mk _ (Op.store 26 _ _) _ _ _ _ :: _) _ _); go_must (refine wpList_store_row rfl 26 _ _ rfl w.heap.size _ rfl rfl 26 _ J2.out (sizeRq' _ _ _ _ _ _ _) rfl (oneRq _ _ _ _ _ _ _ _ _ _ _ _ _) ?_))
    refine bodyPost_ret (results_row_tmp2 rfl _ _ w.heap.size 26 _ (0, 0) _ rfl (setRow_heap _ _ _ _ _ _ J2.out) Tryz.underlying26 rfl sizeRq) rfl ?_
    refine ⟨Below.setRow J1.out (Nat.le_refl _) _, ?_⟩
    unfold DOk
    rw [if_pos HO.out]
    have e1 : T.1.1 = q.1.1 := by rw [HD.out]
    have e2 : T.1.2 = q.1.2 := by rw [HD.out]
    rw [e1, e2]
    refine ⟨_, _, _, rfl, ?_⟩
    rw [hcs.out]
    exact J4.out
  | false =>
    have HO := hid hok
    have hn := hN.out hok
    clear hok hY hN
    by_cases hd : q.2.done = 0
    · rcases hn with hn | ⟨c, hc, d3⟩ | ⟨t, d3, ht, hne⟩
      · exact absurd hd hn
      · rw [svX] at d3
        rw [hd, d3]
        have hc' : ¬ c = 0 := hc
        clear d3 hd hc
        go_wp2_with ((with_reducible show wpList _ _ _ (Oper.mk _ (Op.store 26 _ _) _ _ _ _ :: _) _ _); go_must (refine wpList_store_row rfl 26 _ _ rfl w.heap.size _ rfl rfl 26 _ J2.out (sizeRq' _ _ _ _ _ _ _) rfl (oneRq _ _ _ _ _ _ _ _ _ _ _ _ _) ?_))
        refine bodyPost_ret (results_row_tmp2 rfl _ _ w.heap.size 26 _ (0, 0) _ rfl (setRow_heap _ _ _ _ _ _ J2.out) Tryz.underlying26 rfl sizeRq) rfl ?_
        refine ⟨Below.setRow J1.out (Nat.le_refl _) _, ?_⟩
        unfold DOk
        rw [if_neg (by rw [HO.out]; exact Bool.false_ne_true)]
        rfl
      · have h9 : (digs t.length).length ≤ 9 := digs_len9 (by omega)
        have hadd := add_sv Tryz.prog 9 (wrText t) r (by have := HR.out; rw [wrText, List.length_append]; omega)
        obtain ⟨u, hu⟩ : ∃ u : List UInt8, wrText t ++ r = u := ⟨_, rfl⟩
        rw [hu, svX r, svX u] at hadd
        rw [hd, d3]
        have hus : ((⟨u.toArray⟩ : ByteArray).toList == s.toList) = false := by
          have := str_neq17 (a := u) (b := s.data.toList) (fun e => hne (hu.trans e))
          exact this
        generalize (⟨u.toArray⟩ : ByteArray) = U at *
        clear d3 hd hne ht h9 hu
        go_wp2_with ((with_reducible show wpList _ _ _ (Oper.mk _ (Op.store 26 _ _) _ _ _ _ :: _) _ _); go_must (refine wpList_store_row rfl 26 _ _ rfl w.heap.size _ rfl rfl 26 _ J2.out (sizeRq' _ _ _ _ _ _ _) rfl (oneRq _ _ _ _ _ _ _ _ _ _ _ _ _) ?_))
        refine bodyPost_ret (results_row_tmp2 rfl _ _ w.heap.size 26 _ (0, 0) _ rfl (setRow_heap _ _ _ _ _ _ J2.out) Tryz.underlying26 rfl sizeRq) rfl ?_
        refine ⟨Below.setRow J1.out (Nat.le_refl _) _, ?_⟩
        unfold DOk
        rw [if_neg (by rw [HO.out]; exact Bool.false_ne_true)]
        rfl
    · obtain ⟨t, c, d3⟩ : ∃ t c, encD q.1.1 q.1.2 = .tuple #[.string t, .int .i64 c] := by
        rcases encD_cases q.1.1 q.1.2 with ⟨c, _, e⟩ | ⟨t, e, _⟩
        · exact ⟨_, _, e⟩
        · exact ⟨_, _, e⟩
      rw [d3]
      generalize q.2.done = dn at *
      clear d3 hn
      go_wp2_with ((with_reducible show wpList _ _ _ (Oper.mk _ (Op.store 26 _ _) _ _ _ _ :: _) _ _); go_must (refine wpList_store_row rfl 26 _ _ rfl w.heap.size _ rfl rfl 26 _ J2.out (sizeRq' _ _ _ _ _ _ _) rfl (oneRq _ _ _ _ _ _ _ _ _ _ _ _ _) ?_))
      refine bodyPost_ret (results_row_tmp2 rfl _ _ w.heap.size 26 _ (0, 0) _ rfl (setRow_heap _ _ _ _ _ _ J2.out) Tryz.underlying26 rfl sizeRq) rfl ?_
      refine ⟨Below.setRow J1.out (Nat.le_refl _) _, ?_⟩
      unfold DOk
      rw [if_neg (by rw [HO.out]; exact Bool.false_ne_true)]
      rfl
theorem rdecode17_any (s : ByteArray) (w : World) (hs : s.size ≤ 4611686018427380000) : Calls Tryz.prog 19 #[.string s] w (DPost s.data.toList w) := by
  cases hR : rdText s.data.toList 1048576 with
  | bad k => exact rdecode17_bad s w hs k hR
  | good p r => exact rdecode17_good s w hs p r hR
end Msg
end Go.Proofs.YtmhgdcfmfcjagaaGreatDoor

namespace Go.Proofs.YtmhgdcfmfcjagaaGreatDoor
open Go.RowKit Cod
namespace Msg

/-- few things in its lists -/
def Few (x : Ask) : Prop := x.list.length ≤ 256 ∧ x.ent.length ≤ 256
theorem ri_few (st : RS) (m : Int) (hm : m ≤ 256) : (ints (st.val [] (rdRising st.rest m))).length ≤ 256 := by
  rw [ints_len]
  rcases val_or st [] (rdRising st.rest m) with h | ⟨v, r, h, e⟩
  · rw [h]; simp
  · rw [e]; have := (rising_back h).2.2.1; omega
theorem te_few (st : RS) : (st.val [] (rdTexts st.rest 32 4096)).length ≤ 256 := by
  rcases val_or st [] (rdTexts st.rest 32 4096) with h | ⟨v, r, h, e⟩
  · rw [h]; simp
  · rw [e]; have := (texts_back h).2.2.1; omega
theorem few_dF (g : Fq) (p : DS) (h : Few p.1) : Few (dF g p).1 := by
  cases g with
  | indices => exact ⟨ri_few p.2 256 (by omega), h.2⟩
  | heads => exact ⟨ri_few p.2 64 (by omega), h.2⟩
  | entries => exact ⟨h.1, te_few p.2⟩
  | a => exact h
  | b => exact h
  | size => exact h
  | asks => exact h
theorem few_dFs : ∀ (fs : List Fq) (p : DS), Few p.1 → Few (dFs fs p).1
  | [], _, h => h
  | g :: fs, p, h => few_dFs fs (dF g p) (few_dF g p h)
theorem few_zero : Few Ask.zero := ⟨by simp [Ask.zero], by simp [Ask.zero]⟩
theorem few_of (k : Int) : Few (Ask.of k) := ⟨by simp [Ask.of], by simp [Ask.of]⟩
theorem few_dTak (st : RS) : Few (dTak st).1 := by
  rw [dTak]
  split
  · exact few_zero
  · exact few_dFs _ _ (few_of _)
theorem few_dMany : ∀ (n : Nat) (l : List Ask) (st : RS), (∀ y ∈ l, Few y) → ∀ y ∈ (dMany n l st).1, Few y
  | 0, _, _, h => h
  | n + 1, l, st, h => few_dMany n (l ++ [(dTak st).1]) (dTak st).2 fun y hy => by
    rcases List.mem_append.1 hy with hy | hy
    · exact h y hy
    · rw [List.mem_singleton.1 hy]; exact few_dTak st
theorem few_dAll (st : RS) (hr : st.rest.length ≤ 68719476000) : Few (dAll st).1.1 ∧ (∀ y ∈ (dAll st).1.2, Few y) ∧ (dAll st).1.2.length ≤ 65 := by
  by_cases h : st.val 0 (rdByte st.rest) = 12
  · rw [dAll, if_pos h]
    refine ⟨⟨by simp, by simp⟩, few_dMany _ [] _ (fun y hy => by cases hy), ?_⟩
    have := (fit_dMany (min ((st.step (rdByte st.rest)).val 0 (rdNum (st.step (rdByte st.rest)).rest)) 65) [] _ (Nat.le_trans (num_rl _) (Nat.le_trans (byte_rl st) hr)) (fun y hy => by cases hy)).2
    rw [this, List.length_nil, Nat.zero_add]
    exact Nat.min_le_right _ _
  · rw [dAll, if_neg h]
    exact ⟨few_dFs _ _ (few_of _), fun y hy => (by cases hy), by simp⟩
/-- what is told of a text -/
def dOkB (p : List UInt8) : Bool := decide ((tRequest (⟨p, 0, 0⟩, false)).2.1.done = 0) && !(tRequest (⟨p, 0, 0⟩, false)).2.2
def dQ (s : List UInt8) : Ask × List Ask := match rdText s 1048576 with
  | .bad _ => (Ask.zero, [])
  | .good p _ => if dOkB p = true then (tRequest (⟨p, 0, 0⟩, false)).1 else (Ask.zero, [])
def dR (s : List UInt8) : List UInt8 := match rdText s 1048576 with
  | .bad _ => []
  | .good p r => if dOkB p = true then r else []
def dE (s : List UInt8) : Int := match rdText s 1048576 with
  | .bad k => unfr k
  | .good p _ => if dOkB p = true then 0 else 173
theorem got_zero (w : World) (lo : Nat) : Got w lo Ask.zero [] (.slice none 0 0) (.slice none 0 0) (.slice none 0 0) :=
  ⟨⟨none, 0, rfl, fun j c h => by simp [Ask.zero] at h⟩, Nw.nil _ _, ⟨none, 0, rfl, fun j c h => by simp [Ask.zero] at h⟩, Nw.nil _ _, .inl ⟨rfl, rfl⟩, rfl⟩
theorem dpost_got {s : List UInt8} {w : World} {e : Ending} {w' : World} (h : DPost s w e w') : Below w.heap.size w w' ∧ ∃ ul ue ua, e = .returned (.tuple #[akV (dQ s).1 ul ue ua, sv (dR s), .int .i64 (dE s)]) ∧ Got w' w.heap.size (dQ s).1 (dQ s).2 ul ue ua := by
  obtain ⟨hb, h⟩ := h
  refine ⟨hb, ?_⟩
  unfold dQ dR dE
  cases hR : rdText s 1048576 with
  | bad k =>
    rw [hR] at h
    exact ⟨_, _, _, h, got_zero _ _⟩
  | good p r =>
    rw [hR] at h
    have h : DOk (tRequest (⟨p, 0, 0⟩, false)) r w e w' := h
    unfold DOk at h
    by_cases hd : dOkB p = true
    · have hd' := hd
      unfold dOkB at hd'
      rw [if_pos hd'] at h
      simp only [if_pos hd]
      exact h
    · have hd' := hd
      unfold dOkB at hd'
      rw [if_neg hd'] at h
      simp only [if_neg hd]
      exact ⟨_, _, _, h, got_zero _ _⟩
structure QOk (x : Ask) (l : List Ask) : Prop where
  fit : Fit x
  n : x.n = l.length
  few : Few x
  el : ∀ y ∈ l, Fit y ∧ y.n = 0 ∧ Few y
  len : l.length ≤ 65
theorem qok_zero : QOk Ask.zero [] := ⟨fit_zero, rfl, few_zero, fun y hy => (by cases hy), by simp⟩
theorem qok (s : List UInt8) : QOk (dQ s).1 (dQ s).2 := by
  unfold dQ
  cases hR : rdText s 1048576 with
  | bad k => exact qok_zero
  | good p r =>
    simp only
    by_cases hd : dOkB p = true
    · rw [if_pos hd]
      have hpl : p.length ≤ 1048576 := by have := (text_back hR).2.2.1; omega
      have e := (dec17_yes hR hd).1
      have hr : (⟨p, 0, 0⟩ : RS).rest.length ≤ 68719476000 := by show p.length ≤ _; omega
      obtain ⟨a1, a2, a3⟩ := fit_dAll ⟨p, 0, 0⟩ hr
      obtain ⟨b1, b2, b3⟩ := few_dAll ⟨p, 0, 0⟩ hr
      rw [e] at a1 a2 a3 b1 b2 b3
      exact ⟨a1, a2, b1, fun y hy => ⟨(a3 y hy).1, (a3 y hy).2, b2 y hy⟩, b3⟩
    · rw [if_neg hd]; exact qok_zero
theorem own_m17 {w : World} {B : Nat} {v : Value} {cs : List Value} (h : Own w B v cs) : OwnM 1 w v cs.length cs := by
  rcases h with ⟨rfl, rfl⟩ | ⟨g, cap, e, h1, h2, h3, h4, h5, h6⟩
  · exact OwnM.nil 1 w
  · exact .inr ⟨g, cap, e, h2, h3, by rw [Nat.mul_one], h4, by rw [Nat.mul_one]; exact h5, h6⟩
theorem own_sl {w : World} {B : Nat} {v : Value} {cs : List Value} (h : Own w B v cs) : ∃ a c, v = .slice a cs.length c := by
  rcases h with ⟨rfl, rfl⟩ | ⟨g, cap, e, _⟩
  · exact ⟨_, _, rfl⟩
  · exact ⟨_, _, e⟩
theorem own_lenI {w w2 : World} {B : Nat} {v : Value} {cs : List Value} {l : List Int} (h : Own w B v cs) (g : SlcI w2 v l) : cs.length = l.length := by
  obtain ⟨a, c, e⟩ := own_sl h
  obtain ⟨a', c', e', _⟩ := g
  rw [e] at e'
  injection e'
theorem own_lenT {w w2 : World} {B : Nat} {v : Value} {cs : List Value} {l : List (List UInt8)} (h : Own w B v cs) (g : Slc w2 v l) : cs.length = l.length := by
  obtain ⟨a, c, e⟩ := own_sl h
  obtain ⟨a', c', e', _⟩ := g
  rw [e] at e'
  injection e'
/-- a request that was taken, and is its owner's -/
structure Kq (w : World) (lo hi : Nat) (x : Ask) (l : List Ask) (m : Em) (E : List Em) : Prop where
  mx : m.x = x
  s1 : SlcI w m.l x.list
  n1 : Nw lo hi m.l
  s2 : Slc w m.e x.ent
  n2 : Nw lo hi m.e
  asq : As w lo hi m.a l
  o1 : ∃ n cs, n ≤ 1000000 ∧ OwnM 1 w m.l n cs
  o2 : ∃ n cs, n ≤ 1000000 ∧ OwnM 1 w m.e n cs
  o3 : OwnM 7 w m.a E.length (emcs E)
  hE : E.length ≤ 65
  el : ∀ y ∈ E, (∃ n cs, n ≤ 1000000 ∧ OwnM 1 w y.l n cs) ∧ (∃ n cs, n ≤ 1000000 ∧ OwnM 1 w y.e n cs) ∧ y.a = .slice none 0 0
  inn : ∀ k, k ∈ bks (m.l :: m.e :: m.a :: ems E) → lo ≤ k ∧ k < hi
  nd : (bks (m.l :: m.e :: m.a :: ems E)).Nodup
theorem kq_of {w : World} {lo : Nat} {x x' : Ask} {l l' : List Ask} {ul ue ua : Value} (hq : QOk x l) (g : Got w lo x l ul ue ua) (r : RaO w lo (x', l') ul ue ua) : ∃ E, Kq w lo w.heap.size x l ⟨x, ul, ue, ua⟩ E := by
  obtain ⟨E, h1, h2, h3, h4⟩ := r
  obtain ⟨g1, g2, g3, g4, g5, g6⟩ := g
  obtain ⟨pa, qa, ea⟩ := g5.shape
  obtain ⟨pb, qb, eb, _, _⟩ := h3.own.shape
  have hlen : E.length = l.length := by
    rw [ea] at eb
    injection eb with _ eb
    exact eb.symm
  refine ⟨E, rfl, g1, g2, g3, g4, g5, ⟨_, _, ?_, own_m17 h1⟩, ⟨_, _, ?_, own_m17 h2⟩, h3.own, by rw [hlen]; exact hq.len, fun y hy => ?_, fun k hk => ?_, h4⟩
  · rw [own_lenI h1 g1]; have := hq.few.1; omega
  · rw [own_lenT h2 g3]; have := hq.few.2; omega
  · obtain ⟨f1, f2, f3⟩ := h3.el y hy
    obtain ⟨j, hj⟩ := List.getElem?_of_mem hy
    have hjl : j < l.length := by rw [← hlen]; exact (List.getElem?_eq_some_iff.1 hj).1
    have hx := List.getElem?_eq_getElem hjl
    have hw := hq.el _ (List.getElem_mem hjl)
    rcases g5 with ⟨_, e0⟩ | ⟨gb, cap, e5, _, _, _, e6⟩
    · rw [e0] at hjl; simp at hjl
    · obtain ⟨vl, ve, va, _, _, _, _, c4, c5, _, _, _, t1, t2, _⟩ := e6 j _ hx
      have ho := h3.own
      rw [e5, ← hlen] at ho
      obtain ⟨gb', eg, hc⟩ := emcs_cells ho hj
      injection eg with eg
      injection eg with eg
      subst eg
      have d4 := hc 4 y.l (by omega) rfl
      have d5 := hc 5 y.e (by omega) rfl
      rw [c4] at d4
      rw [c5] at d5
      obtain rfl := Option.some.inj d4
      obtain rfl := Option.some.inj d5
      refine ⟨⟨_, _, ?_, own_m17 f1⟩, ⟨_, _, ?_, own_m17 f2⟩, f3⟩
      · rw [own_lenI f1 t1]; have := hw.2.2.1; omega
      · rw [own_lenT f2 t2]; have := hw.2.2.2; omega
  · rw [bks_cons, List.mem_append] at hk
    rcases hk with hk | hk
    · obtain ⟨u, hu, hb⟩ := mem_bks.1 hk
      rw [List.mem_singleton] at hu
      subst hu
      exact ⟨h1.ge k hb, own_lt h1 k hb⟩
    · rw [bks_cons, List.mem_append] at hk
      rcases hk with hk | hk
      · obtain ⟨u, hu, hb⟩ := mem_bks.1 hk
        rw [List.mem_singleton] at hu
        subst hu
        exact ⟨h2.ge k hb, own_lt h2 k hb⟩
      · exact h3.in k hk
theorem Kq.keep {S : Nat → Prop} {w w' : World} {lo hi : Nat} {x : Ask} {l : List Ask} {m : Em} {E : List Em} (h : Kq w lo hi x l m E) (hb : Keep S w w') (hS : ∀ k, lo ≤ k → k < hi → ¬ S k) : Kq w' lo hi x l m E := by
  have hv : ∀ v, v ∈ (m.l :: m.e :: m.a :: ems E) → ∀ k, v.ownBlock = some k → ¬ S k := fun v hv k hk => hS k (h.inn k (mem_bks.2 ⟨v, hv, hk⟩)).1 (h.inn k (mem_bks.2 ⟨v, hv, hk⟩)).2
  refine ⟨h.mx, h.n1.slcI h.s1 hb hS, h.n1, h.n2.slc h.s2 hb hS, h.n2, h.asq.keep hb hS, ?_, ?_, h.o3.keep hb (hv _ (by simp)), h.hE, fun y hy => ?_, h.inn, h.nd⟩
  · obtain ⟨n, cs, a, b⟩ := h.o1
    exact ⟨n, cs, a, b.keep hb (hv _ (by simp))⟩
  · obtain ⟨n, cs, a, b⟩ := h.o2
    exact ⟨n, cs, a, b.keep hb (hv _ (by simp))⟩
  · obtain ⟨⟨n, cs, a, b⟩, ⟨n', cs', a', b'⟩, c⟩ := h.el y hy
    exact ⟨⟨n, cs, a, b.keep hb (hv _ (by simp only [List.mem_cons]; exact .inr (.inr (.inr (mem_ems.2 ⟨y, hy, .inl rfl⟩)))))⟩, ⟨n', cs', a', b'.keep hb (hv _ (by simp only [List.mem_cons]; exact .inr (.inr (.inr (mem_ems.2 ⟨y, hy, .inr rfl⟩)))))⟩, c⟩
/-- one of those that are kept -/
structure Kt where
  lo : Nat
  hi : Nat
  x : Ask
  l : List Ask
  m : Em
  E : List Em
structure Trs (w : World) (B : Nat) (T : List Kt) : Prop where
  el : ∀ t ∈ T, Kq w t.lo t.hi t.x t.l t.m t.E ∧ QOk t.x t.l ∧ B ≤ t.lo ∧ t.hi ≤ w.heap.size
  pw : T.Pairwise (fun a b => a.hi ≤ b.lo)
theorem Trs.nil (w : World) (B : Nat) : Trs w B [] := ⟨fun t ht => (by cases ht), List.Pairwise.nil⟩
theorem Trs.keep {S : Nat → Prop} {w w' : World} {B : Nat} {T : List Kt} (h : Trs w B T) (hb : Keep S w w') (hS : ∀ t ∈ T, ∀ k, t.lo ≤ k → k < t.hi → ¬ S k) : Trs w' B T :=
  ⟨fun t ht => ⟨(h.el t ht).1.keep hb (hS t ht), (h.el t ht).2.1, (h.el t ht).2.2.1, Nat.le_trans (h.el t ht).2.2.2 hb.size⟩, h.pw⟩
theorem Trs.below {w w' : World} {B : Nat} {T : List Kt} (h : Trs w B T) (hb : Below w.heap.size w w') : Trs w' B T :=
  h.keep (S := fun _ => False) (Keep.ofBelow hb) (fun _ _ _ _ _ e => e)
theorem Trs.push {w w' : World} {B : Nat} {T : List Kt} (h : Trs w B T) (hb : Below w.heap.size w w') (t : Kt) (ht : Kq w' t.lo t.hi t.x t.l t.m t.E) (hq : QOk t.x t.l) (h1 : w.heap.size ≤ t.lo) (h2 : t.hi ≤ w'.heap.size) (hB : B ≤ w.heap.size) : Trs w' B (T ++ [t]) := by
  have h' := h.below hb
  refine ⟨fun u hu => ?_, ?_⟩
  · rcases List.mem_append.1 hu with hu | hu
    · exact h'.el u hu
    · rw [List.mem_singleton.1 hu]; exact ⟨ht, hq, by omega, h2⟩
  · rw [List.pairwise_append]
    refine ⟨h.pw, List.pairwise_singleton _ _, fun a ha b hb' => ?_⟩
    rw [List.mem_singleton.1 hb']
    have := (h.el a ha).2.2.2
    omega
def f1 (t : Kt) : List Value := t.m.l :: t.E.map (·.l)
def f2 (t : Kt) : List Value := t.m.e :: t.E.map (·.e)
def f3 (t : Kt) : List Value := t.m.a :: t.E.map (·.a)
theorem ems_l {E : List Em} {k : Nat} (h : k ∈ bks (E.map (·.l))) : k ∈ bks (ems E) := by
  obtain ⟨v, hv, hb⟩ := mem_bks.1 h
  obtain ⟨m, hm, rfl⟩ := List.mem_map.1 hv
  exact mem_bks.2 ⟨_, mem_ems.2 ⟨m, hm, .inl rfl⟩, hb⟩
theorem ems_e {E : List Em} {k : Nat} (h : k ∈ bks (E.map (·.e))) : k ∈ bks (ems E) := by
  obtain ⟨v, hv, hb⟩ := mem_bks.1 h
  obtain ⟨m, hm, rfl⟩ := List.mem_map.1 hv
  exact mem_bks.2 ⟨_, mem_ems.2 ⟨m, hm, .inr rfl⟩, hb⟩
theorem bk_cons {v : Value} {vs : List Value} {k : Nat} : k ∈ bks (v :: vs) ↔ v.ownBlock = some k ∨ k ∈ bks vs := by
  rw [bks_cons, List.mem_append]
  refine or_congr ⟨fun h => ?_, fun h => mem_bks.2 ⟨v, List.mem_singleton.2 rfl, h⟩⟩ Iff.rfl
  obtain ⟨u, hu, hb⟩ := mem_bks.1 h
  rw [List.mem_singleton] at hu
  subst hu
  exact hb
theorem ems_nd : ∀ (E : List Em), (bks (ems E)).Nodup → (bks (E.map (·.l))).Nodup ∧ (bks (E.map (·.e))).Nodup ∧ ∀ k, k ∈ bks (E.map (·.l)) → k ∉ bks (E.map (·.e))
  | [], _ => ⟨(List.nodup_nil : ([] : List Nat).Nodup), (List.nodup_nil : ([] : List Nat).Nodup), fun k hk => (by cases hk)⟩
  | m :: E, h => by
    have h' : (bks (m.l :: m.e :: ems E)).Nodup := h
    obtain ⟨a1, a2⟩ := nd_cons.1 h'
    obtain ⟨a3, a4⟩ := nd_cons.1 a1
    obtain ⟨b1, b2, b3⟩ := ems_nd E a3
    refine ⟨nd_cons.2 ⟨b1, fun k hk hm => a2 k hk (bk_cons.2 (.inr (ems_l hm)))⟩, nd_cons.2 ⟨b2, fun k hk hm => a4 k hk (ems_e hm)⟩, fun k hk hm => ?_⟩
    rcases bk_cons.1 hk with hk | hk
    · rcases bk_cons.1 hm with hm | hm
      · exact a2 k hk (bk_cons.2 (.inl hm))
      · exact a2 k hk (bk_cons.2 (.inr (ems_e hm)))
    · rcases bk_cons.1 hm with hm | hm
      · exact a4 k hm (ems_l hk)
      · exact b3 k hk hm
theorem nil_a {E : List Em} (h : ∀ y ∈ E, y.a = .slice none 0 0) (k : Nat) : k ∉ bks (E.map (·.a)) := fun hk => by
  obtain ⟨v, hv, hb⟩ := mem_bks.1 hk
  obtain ⟨m, hm, rfl⟩ := List.mem_map.1 hv
  rw [h m hm] at hb
  cases hb
/-- of one of them: the lists lie apart -/
theorem Kq.apart {w : World} {t : Kt} (h : Kq w t.lo t.hi t.x t.l t.m t.E) :
    ((bks (f1 t)).Nodup ∧ (bks (f2 t)).Nodup ∧ (bks (f3 t)).Nodup) ∧ ((∀ k, k ∈ bks (f1 t) → k ∉ bks (f2 t)) ∧ (∀ k, k ∈ bks (f1 t) → k ∉ bks (f3 t)) ∧ ∀ k, k ∈ bks (f2 t) → k ∉ bks (f3 t)) ∧
      (∀ k, k ∈ bks (f1 t) → t.lo ≤ k ∧ k < t.hi) ∧ (∀ k, k ∈ bks (f2 t) → t.lo ≤ k ∧ k < t.hi) ∧ ∀ k, k ∈ bks (f3 t) → t.lo ≤ k ∧ k < t.hi := by
  have hn := nil_a (fun y hy => (h.el y hy).2.2)
  obtain ⟨a1, a2⟩ := nd_cons.1 h.nd
  obtain ⟨a3, a4⟩ := nd_cons.1 a1
  obtain ⟨a5, a6⟩ := nd_cons.1 a3
  obtain ⟨b1, b2, b3⟩ := ems_nd t.E a5
  have g3 : ∀ k, k ∈ bks (f3 t) → t.m.a.ownBlock = some k := fun k hk => by
    rcases bk_cons.1 hk with hk | hk
    · exact hk
    · exact absurd hk (hn k)
  refine ⟨⟨nd_cons.2 ⟨b1, fun k hk hm => a2 k hk (bk_cons.2 (.inr (bk_cons.2 (.inr (ems_l hm)))))⟩, nd_cons.2 ⟨b2, fun k hk hm => a4 k hk (bk_cons.2 (.inr (ems_e hm)))⟩, ?_⟩, ⟨fun k hk hm => ?_, fun k hk hm => ?_, fun k hk hm => ?_⟩, fun k hk => ?_, fun k hk => ?_, fun k hk => ?_⟩
  · refine nd_cons.2 ⟨?_, fun k _ hm => hn k hm⟩
    rw [List.eq_nil_iff_forall_not_mem.2 hn]
    exact List.nodup_nil
  · rcases bk_cons.1 hk with hk | hk
    · rcases bk_cons.1 hm with hm | hm
      · exact a2 k hk (bk_cons.2 (.inl hm))
      · exact a2 k hk (bk_cons.2 (.inr (bk_cons.2 (.inr (ems_e hm)))))
    · rcases bk_cons.1 hm with hm | hm
      · exact a4 k hm (bk_cons.2 (.inr (ems_l hk)))
      · exact b3 k hk hm
  · have hm := g3 k hm
    rcases bk_cons.1 hk with hk | hk
    · exact a2 k hk (bk_cons.2 (.inr (bk_cons.2 (.inl hm))))
    · exact a6 k hm (ems_l hk)
  · have hm := g3 k hm
    rcases bk_cons.1 hk with hk | hk
    · exact a4 k hk (bk_cons.2 (.inl hm))
    · exact a6 k hm (ems_e hk)
  · rcases bk_cons.1 hk with hk | hk
    · exact h.inn k (bk_cons.2 (.inl hk))
    · exact h.inn k (bk_cons.2 (.inr (bk_cons.2 (.inr (bk_cons.2 (.inr (ems_l hk)))))))
  · rcases bk_cons.1 hk with hk | hk
    · exact h.inn k (bk_cons.2 (.inr (bk_cons.2 (.inl hk))))
    · exact h.inn k (bk_cons.2 (.inr (bk_cons.2 (.inr (bk_cons.2 (.inr (ems_e hk)))))))
  · exact h.inn k (bk_cons.2 (.inr (bk_cons.2 (.inr (bk_cons.2 (.inl (g3 k hk)))))))
theorem mem_fl {T : List Kt} {f : Kt → List Value} {k : Nat} (h : k ∈ bks (T.flatMap f)) : ∃ t, t ∈ T ∧ k ∈ bks (f t) := by
  obtain ⟨v, hv, hb⟩ := mem_bks.1 h
  obtain ⟨t, ht, hv⟩ := List.mem_flatMap.1 hv
  exact ⟨t, ht, mem_bks.2 ⟨v, hv, hb⟩⟩
theorem fl_nd (f : Kt → List Value) : ∀ (T : List Kt), T.Pairwise (fun a b => a.hi ≤ b.lo) → (∀ t ∈ T, (bks (f t)).Nodup ∧ ∀ k, k ∈ bks (f t) → t.lo ≤ k ∧ k < t.hi) → (bks (T.flatMap f)).Nodup
  | [], _, _ => (List.nodup_nil : ([] : List Nat).Nodup)
  | t :: T, hp, h => by
    rw [List.pairwise_cons] at hp
    rw [List.flatMap_cons]
    refine nd_app (h t List.mem_cons_self).1 (fl_nd f T hp.2 fun u hu => h u (List.mem_cons_of_mem _ hu)) fun k hk hm => ?_
    obtain ⟨u, hu, hm⟩ := mem_fl hm
    have a := ((h t List.mem_cons_self).2 k hk).2
    have b := ((h u (List.mem_cons_of_mem _ hu)).2 k hm).1
    have c := hp.1 u hu
    omega
theorem fl_dj (f g : Kt → List Value) : ∀ (T : List Kt), T.Pairwise (fun a b => a.hi ≤ b.lo) → (∀ t ∈ T, (∀ k, k ∈ bks (f t) → k ∉ bks (g t)) ∧ (∀ k, k ∈ bks (f t) → t.lo ≤ k ∧ k < t.hi) ∧ ∀ k, k ∈ bks (g t) → t.lo ≤ k ∧ k < t.hi) → ∀ k, k ∈ bks (T.flatMap f) → k ∉ bks (T.flatMap g)
  | [], _, _ => fun k hk => (by cases hk)
  | t :: T, hp, h => by
    rw [List.pairwise_cons] at hp
    intro k hk hm
    rw [List.flatMap_cons, bks_app, List.mem_append] at hk hm
    obtain ⟨c1, c2, c3⟩ := h t List.mem_cons_self
    rcases hk with hk | hk
    · rcases hm with hm | hm
      · exact c1 k hk hm
      · obtain ⟨u, hu, hm⟩ := mem_fl hm
        have a := (c2 k hk).2
        have b := ((h u (List.mem_cons_of_mem _ hu)).2.2 k hm).1
        have c := hp.1 u hu
        omega
    · rcases hm with hm | hm
      · obtain ⟨u, hu, hk⟩ := mem_fl hk
        have a := (c3 k hm).2
        have b := ((h u (List.mem_cons_of_mem _ hu)).2.1 k hk).1
        have c := hp.1 u hu
        omega
      · exact fl_dj f g T hp.2 (fun u hu => h u (List.mem_cons_of_mem _ hu)) k hk hm
end Msg
end Go.Proofs.YtmhgdcfmfcjagaaGreatDoor
