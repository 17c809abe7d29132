import Derived.Test.YtmhgdcfmfcjagaaGreatDoorPkMF12
namespace Go.Proofs.YtmhgdcfmfcjagaaGreatDoor
open Go.RowKit Cod
namespace Msg
theorem GotR.rq1 {w : World} {lo K : Nat} {x : Part} {l : List Part} {ul ue ua : Value} (h : GotR w lo x l ul ue ua) (hq : QRk K x l) : Rq1 w K x l ul ue ua := by
  obtain ⟨h1, h2, h3, h4, h5, h6⟩ := h
  obtain ⟨p, q, e⟩ := h5.shape
  exact ⟨⟨fun y n c e _ => (h2 y n c e).2, fun y n c e _ => (h4 y n c e).2, h1, h3, ⟨p, q, by rw [e, h6]⟩⟩, hq.few.fit, h5.pq, h6, fun y hy => ⟨(hq.el y hy).1.fit, (hq.el y hy).2.2⟩, hq.on⟩
theorem encP_cases (K : Nat) (x : Part) (l : List Part) : (∃ c : Int, c ≠ 0 ∧ encP K x l = .tuple #[sv [], .int .i64 c]) ∨ ∃ p, encP K x l = .tuple #[sv (wrText p), .int .i64 0] ∧ lReply (K : Int) x l (.ok [], false) = (.ok p, false) ∧ p.length ≤ 1048576 := by
  have hz := nz_reply (K : Int) x l _ nz_nil
  rw [encP, frO]
  split
  · rename_i hg
    obtain ⟨p, hp⟩ := ws_some hz hg
    rw [hp]
    by_cases h : 1048576 < p.length
    · exact .inl ⟨174, by omega, if_pos h⟩
    · exact .inr ⟨p, if_neg h, rfl, by omega⟩
  · exact .inl ⟨171, by omega, rfl⟩
theorem decR17_yes {K : Nat} {s p r : List UInt8} (hR : rdText s 1048576 = .good p r) (h : (decide ((tReply K (⟨p, 0, 0⟩, false)).2.1.done = 0) && !(tReply K (⟨p, 0, 0⟩, false)).2.2) = true) :
    (⟨p, 0, 0⟩ : RS).val 0 (rdByte p) = K ∧ dAllR K ((⟨p, 0, 0⟩ : RS).step (rdByte p)) = ((tReply K (⟨p, 0, 0⟩, false)).1, (tReply K (⟨p, 0, 0⟩, false)).2.1) ∧ (dAllR K ((⟨p, 0, 0⟩ : RS).step (rdByte p))).2.done = 0 ∧
      encP K (dAllR K ((⟨p, 0, 0⟩ : RS).step (rdByte p))).1.1 (dAllR K ((⟨p, 0, 0⟩ : RS).step (rdByte p))).1.2 = .tuple #[sv (wrText p), .int .i64 0] ∧ wrText p ++ r = s := by
  rw [Bool.and_eq_true, decide_eq_true_eq, Bool.not_eq_true'] at h
  obtain ⟨h1, h2⟩ := h
  obtain ⟨hk, hd⟩ := dAllR_t (K := K) (⟨p, 0, 0⟩, false) (done_err0 h1) h2
  have hd : dAllR K ((⟨p, 0, 0⟩ : RS).step (rdByte p)) = _ := hd
  obtain ⟨e1, _, e3, _⟩ := text_back hR
  have g1 := reply_strict K p h1 h2
  refine ⟨hk, hd, by rw [hd]; exact h1, ?_, e1.symm⟩
  rw [hd]
  show encP K (tReply K (⟨p, 0, 0⟩, false)).1.1 (tReply K (⟨p, 0, 0⟩, false)).1.2 = _
  rw [encP, g1, frO, if_pos ⟨rfl, rfl⟩]
  exact if_neg (by show ¬ 1048576 < p.length; omega)
theorem decR17_no {K : Nat} (hK : K ≤ 12) {s p r : List UInt8} (hR : rdText s 1048576 = .good p r) (h : (decide ((tReply K (⟨p, 0, 0⟩, false)).2.1.done = 0) && !(tReply K (⟨p, 0, 0⟩, false)).2.2) = false) :
    (dAllR K ((⟨p, 0, 0⟩ : RS).step (rdByte p))).2.done ≠ 0 ∨ (∃ c : Int, c ≠ 0 ∧ encP K (dAllR K ((⟨p, 0, 0⟩ : RS).step (rdByte p))).1.1 (dAllR K ((⟨p, 0, 0⟩ : RS).step (rdByte p))).1.2 = .tuple #[sv [], .int .i64 c]) ∨
      ∃ t, encP K (dAllR K ((⟨p, 0, 0⟩ : RS).step (rdByte p))).1.1 (dAllR K ((⟨p, 0, 0⟩ : RS).step (rdByte p))).1.2 = .tuple #[sv (wrText t), .int .i64 0] ∧ t.length ≤ 1048576 ∧ wrText t ++ r ≠ s := by
  obtain ⟨e1, _, e3, _⟩ := text_back hR
  have hp : p.length ≤ 1048576 := by omega
  have f2 := (dAllR_ok hK ((⟨p, 0, 0⟩ : RS).step (rdByte p))).n
  rcases encP_cases K (dAllR K ((⟨p, 0, 0⟩ : RS).step (rdByte p))).1.1 (dAllR K ((⟨p, 0, 0⟩ : RS).step (rdByte p))).1.2 with g | ⟨t, g1, g2, g3⟩
  · exact .inr (.inl g)
  · refine .inr (.inr ⟨t, g1, g3, fun e => ?_⟩)
    rw [e1] at e
    have := wrText_inj g3 hp (List.append_cancel_right e)
    subst this
    rw [reply_there K _ _ f2 t g2] at h
    exact Bool.noConfusion h
set_option maxRecDepth 100000 in
set_option maxHeartbeats 4000000 in
theorem rdecodeR17_none (k : Int) (hk : ¬ wi k 0 12 = true) (s : ByteArray) (w : World) :
    Calls Tryz.prog 23 #[.int .i64 k, .string s] w fun e w' => e = .returned (.tuple #[rp0, sv [], .int .i64 170]) ∧ Below w.heap.size w w' := by
  have i0 := fun w => told17_any k w
  rw [tw_nil.2 hk, show sv [] = .string ⟨#[]⟩ from rfl] at i0
  have R1 := hid (heap_alloc_new w (.cells #[.int .i64 0, .int .i64 0, .int .i64 0, .int .i64 0, .string ⟨#[]⟩, .slice none 0 0, .slice none 0 0, .slice none 0 0] 45))
  have b0 := hid ((Below.refl w.heap.size w).alloc (Nat.le_refl _) (.cells #[.int .i64 0, .int .i64 0, .int .i64 0, .int .i64 0, .string ⟨#[]⟩, .slice none 0 0, .slice none 0 0, .slice none 0 0] 45))
  clear hk
  go_enter Tryz.func23, Tryz.ntmps23
  go_wp2_with (first
    | (go_at_call 42; refine (i0 _).mono ?_; rintro e w' ⟨rfl, hw'⟩; rw [hw']; clear hw' w')
    | ((with_reducible show wpList _ _ _ (Oper.mk _ (Op.store 45 _ _) _ _ _ _ :: _) _ _); go_must (refine wpList_store_row rfl 45 _ _ rfl w.heap.size _ rfl rfl 45 _ R1.out (sizeRp' _ _ _ _ _ _ _ _) rfl (oneRp _ _ _ _ _ _ _ _ _ _ _ _ _ _) ?_)))
  refine bodyPost_ret (results_row_tmp2 rfl _ _ w.heap.size 45 _ (0, 0) _ rfl (setRow_heap _ _ _ _ _ _ R1.out) Tryz.underlying45 rfl sizeRp) rfl ?_
  exact ⟨rfl, Below.setRow b0.out (Nat.le_refl _) _⟩
set_option maxRecDepth 100000 in
set_option maxHeartbeats 4000000 in
theorem rdecodeR17_bad {K : Nat} (hK : K ≤ 12) (s : ByteArray) (w : World) (hs : s.size ≤ 4611686018427380000) (k : Nat) (hR : rdText s.data.toList 1048576 = .bad k) :
    Calls Tryz.prog 23 #[.int .i64 (K : Int), .string s] w (DPostR K s.data.toList w) := by
  have i1 := unframe17_any s (w.alloc (.cells #[.int .i64 0, .int .i64 0, .int .i64 0, .int .i64 0, .string ⟨#[]⟩, .slice none 0 0, .slice none 0 0, .slice none 0 0] 45)) hs
  rw [hR] at i1
  have i1 : Calls Tryz.prog 45 #[.string s] (w.alloc (.cells #[.int .i64 0, .int .i64 0, .int .i64 0, .int .i64 0, .string ⟨#[]⟩, .slice none 0 0, .slice none 0 0, .slice none 0 0] 45)) fun e w' => e = .returned (.tuple #[sv [], sv [], .int .i64 (unfr k)]) ∧ Below (w.alloc (.cells #[.int .i64 0, .int .i64 0, .int .i64 0, .int .i64 0, .string ⟨#[]⟩, .slice none 0 0, .slice none 0 0, .slice none 0 0] 45)).heap.size (w.alloc (.cells #[.int .i64 0, .int .i64 0, .int .i64 0, .int .i64 0, .string ⟨#[]⟩, .slice none 0 0, .slice none 0 0, .slice none 0 0] 45)) w' := i1
  have hne := unfr_ne k
  unfold DPostR
  rw [hR]
  show Calls _ _ _ _ fun e w' => Below w.heap.size w w' ∧ e = .returned (.tuple #[rp0, sv [], .int .i64 (unfr k)])
  generalize unfr k = z at *
  have hb : (z == 0) = false := by simp [hne]
  have i0 := fun w => told17_any (K : Int) w
  obtain ⟨WD, hWD⟩ := pstr (tw (K : Int))
  rw [hWD.out.1] at i0
  have ne : WD.toList.isEmpty = false := by
    rw [hWD.out.2.1, decide_eq_false]
    exact fun e => tw_nil.1 e (decide_eq_true ⟨by omega, by omega⟩)
  clear hR hWD hK
  have z1 := size_alloc w (.cells #[.int .i64 0, .int .i64 0, .int .i64 0, .int .i64 0, .string ⟨#[]⟩, .slice none 0 0, .slice none 0 0, .slice none 0 0] 45)
  have r0 := hid (heap_alloc_new w (.cells #[.int .i64 0, .int .i64 0, .int .i64 0, .int .i64 0, .string ⟨#[]⟩, .slice none 0 0, .slice none 0 0, .slice none 0 0] 45))
  have b0 := hid ((Below.refl w.heap.size w).alloc (Nat.le_refl _) (.cells #[.int .i64 0, .int .i64 0, .int .i64 0, .int .i64 0, .string ⟨#[]⟩, .slice none 0 0, .slice none 0 0, .slice none 0 0] 45))
  go_enter Tryz.func23, Tryz.ntmps23
  go_wp2_with (first
    | (go_at_call 42; refine (i0 _).mono ?_; rintro e w' ⟨rfl, hw'⟩; rw [hw']; clear hw' w')
    | (go_at_call 45; refine i1.mono ?_; rintro e w1 ⟨rfl, h1⟩; have R1 := hid ((h1.block _ (by omega)).trans r0.out); have B1 := hid (b0.out.trans (h1.mono b0.out.size)); clear h1)
    | ((with_reducible show wpList _ _ _ (Oper.mk _ (Op.store 45 _ _) _ _ _ _ :: _) _ _); go_must (refine wpList_store_row rfl 45 _ _ rfl w.heap.size _ rfl rfl 45 _ R1.out (sizeRp' _ _ _ _ _ _ _ _) rfl (oneRp _ _ _ _ _ _ _ _ _ _ _ _ _ _) ?_)))
  refine bodyPost_ret (results_row_tmp2 rfl _ _ w.heap.size 45 _ (0, 0) _ rfl (setRow_heap _ _ _ _ _ _ R1.out) Tryz.underlying45 rfl sizeRp) rfl ?_
  exact ⟨Below.setRow B1.out (Nat.le_refl _) _, rfl⟩
set_option maxRecDepth 100000 in
set_option maxHeartbeats 8000000 in
theorem rdecodeR17_good {K : Nat} (hK : K ≤ 12) (s : ByteArray) (w : World) (hs : s.size ≤ 4611686018427380000) (p r : List UInt8) (hR : rdText s.data.toList 1048576 = .good p r) :
    Calls Tryz.prog 23 #[.int .i64 (K : Int), .string s] w (DPostR K s.data.toList w) := by
  have i1 := unframe17_any s (w.alloc (.cells #[.int .i64 0, .int .i64 0, .int .i64 0, .int .i64 0, .string ⟨#[]⟩, .slice none 0 0, .slice none 0 0, .slice none 0 0] 45)) hs
  rw [hR] at i1
  have i1 : Calls Tryz.prog 45 #[.string s] (w.alloc (.cells #[.int .i64 0, .int .i64 0, .int .i64 0, .int .i64 0, .string ⟨#[]⟩, .slice none 0 0, .slice none 0 0, .slice none 0 0] 45)) fun e w' => e = .returned (.tuple #[.string ⟨p.toArray⟩, .string ⟨r.toArray⟩, .int .i64 0]) ∧ Below (w.alloc (.cells #[.int .i64 0, .int .i64 0, .int .i64 0, .int .i64 0, .string ⟨#[]⟩, .slice none 0 0, .slice none 0 0, .slice none 0 0] 45)).heap.size (w.alloc (.cells #[.int .i64 0, .int .i64 0, .int .i64 0, .int .i64 0, .string ⟨#[]⟩, .slice none 0 0, .slice none 0 0, .slice none 0 0] 45)) w' := i1
  have hpl : p.length ≤ 1048576 := by have := (text_back hR).2.2.1; omega
  have hrl : r.length ≤ 4611686018427380000 := by
    have := congrArg List.length (text_back hR).1
    rw [List.length_append, data_length] at this; omega
  unfold DPostR
  rw [hR]
  have QR := dAllR_ok hK ((⟨p, 0, 0⟩ : RS).step (rdByte p))
  have hY := hid (decR17_yes (K := K) hR)
  have hN := hid (decR17_no hK hR)
  have HP := hid hpl
  have HR := hid hrl
  have HK := hid hK
  have i0 := fun w => told17_any (K : Int) w
  obtain ⟨WD, hWD⟩ := pstr (tw (K : Int))
  rw [hWD.out.1] at i0
  have ne : WD.toList.isEmpty = false := by
    rw [hWD.out.2.1, decide_eq_false]
    exact fun e => tw_nil.1 e (decide_eq_true ⟨by omega, by omega⟩)
  clear hR hpl hrl hWD hK
  have z1 := size_alloc w (.cells #[.int .i64 0, .int .i64 0, .int .i64 0, .int .i64 0, .string ⟨#[]⟩, .slice none 0 0, .slice none 0 0, .slice none 0 0] 45)
  have r0 := hid (heap_alloc_new w (.cells #[.int .i64 0, .int .i64 0, .int .i64 0, .int .i64 0, .string ⟨#[]⟩, .slice none 0 0, .slice none 0 0, .slice none 0 0] 45))
  have b0 := hid ((Below.refl w.heap.size w).alloc (Nat.le_refl _) (.cells #[.int .i64 0, .int .i64 0, .int .i64 0, .int .i64 0, .string ⟨#[]⟩, .slice none 0 0, .slice none 0 0, .slice none 0 0] 45))
  obtain ⟨q, hq⟩ : ∃ q, Hid (dAllR K ((⟨p, 0, 0⟩ : RS).step (rdByte p)) = q) := ⟨_, rfl⟩
  obtain ⟨T, hT⟩ : ∃ T, Hid (tReply K (⟨p, 0, 0⟩, false) = T) := ⟨_, rfl⟩
  obtain ⟨kb, hkb⟩ : ∃ kb, Hid ((⟨p, 0, 0⟩ : RS).val 0 (rdByte p) = kb) := ⟨_, rfl⟩
  show Calls _ _ _ _ fun e w' => Below w.heap.size w w' ∧ DOkR (tReply K (⟨p, 0, 0⟩, false)) r w e w'
  rw [hT.out] at hY hN ⊢
  rw [hq.out] at hY hN QR
  rw [hkb.out] at hY
  have HQR := hid QR
  clear QR
  go_enter Tryz.func23, Tryz.ntmps23
  go_wp2_with (first
    | (go_at_call 42; refine (i0 _).mono ?_; rintro e w' ⟨rfl, hw'⟩; rw [hw']; clear hw' w')
    | (go_at_call 45; refine i1.mono ?_; rintro e w1 ⟨rfl, h1⟩; have R1 := hid ((h1.block _ (by omega)).trans r0.out); have B1 := hid (b0.out.trans (h1.mono b0.out.size)); have lt1 : w.heap.size < w1.heap.size := (by have := h1.size; omega); clear h1)
    | (go_at_call 46; fail))
  go_at_call 46
  refine (xNew_any ⟨p.toArray⟩ (by rw [sv_size]; exact HP.out) w1).mono ?_
  rintro e w2 ⟨rfl, n1, n2, n3⟩
  rw [sv_data] at n1
  have ib := xByte_any _ _ _ _ n1
  have ib : Calls Tryz.prog 56 #[.pointer (some ⟨w1.heap.size, 0, none⟩)] w2 fun r w' => r = .returned (.int .i64 (((⟨p, 0, 0⟩ : RS).val 0 (rdByte p) : Nat) : Int)) ∧ XRd w' w1.heap.size ⟨p.toArray⟩ ((⟨p, 0, 0⟩ : RS).step (rdByte p)) ∧ But w1.heap.size w2 w' := ib
  rw [hkb.out] at ib
  have R3' := hid ((n2.block _ (by omega)).trans R1.out)
  have B3' := hid (B1.out.trans (n2.mono (by omega)))
  clear n1 n2 R1 B1
  go_wp2_with (go_at_call 56; fail)
  go_at_call 56
  refine ib.mono ?_
  rintro e wb ⟨rfl, m1, m2⟩
  have kb2 : Keep (fun k => k = w1.heap.size) w2 wb := Keep.ofBut m2 rfl
  have i2 := takeReply17_all m1 HK.out
  rw [hq.out] at i2
  have R3 := hid ((kb2.block w.heap.size (by omega) (by omega)).trans R3'.out)
  have B3 := hid (B3'.out.trans (kb2.below (by omega) (fun k hk e => by omega)))
  have L3 : w.heap.size < wb.heap.size := by have := kb2.size; omega
  have L4 : w1.heap.size < wb.heap.size := by have := kb2.size; omega
  clear m1 m2 R3' B3' ib kb2
  go_wp2_with (go_at_call 57; fail)
  go_at_call 57
  refine i2.mono ?_
  rintro e w4 ⟨ul, ue, ua, rfl, g1, g2, g3, g4, g5, g6, g7, g8⟩
  obtain ⟨p1, n1, e1, _⟩ := id g1
  obtain ⟨p2, n2, e2, _⟩ := id g3
  obtain ⟨p3, n3', e3⟩ := g5.shape
  rw [← g6] at e3
  subst e1 e2 e3
  rw [rpV]
  obtain ⟨PQ, hPQ⟩ := pstr q.1.1.root
  rw [hPQ.out.1]
  obtain ⟨cs, hcs⟩ : ∃ cs, Hid (#[Value.int .i64 q.1.1.status, .int .i64 q.1.1.size, .int .i64 q.1.1.a, .int .i64 q.1.1.b, .string PQ, .slice p1 q.1.1.hs.length n1, .slice p2 q.1.1.ent.length n2, .slice p3 q.1.1.n n3'] = cs) := ⟨_, rfl⟩
  have b5 := (Below.refl w4.heap.size w4).alloc (Nat.le_refl _) (.cells cs 45)
  have z5 := size_alloc w4 (.cells cs 45)
  have k4 := g8.size
  have b4 : Below w.heap.size w w4 := B3.out.trans (g8.below (by omega) (fun k hk e => by omega))
  have r4 : w4.heap[w.heap.size]? = some (.cells #[.int .i64 0, .int .i64 0, .int .i64 0, .int .i64 0, .string ⟨#[]⟩, .slice none 0 0, .slice none 0 0, .slice none 0 0] 45 (0, 0)) := (g8.block _ (by omega) (by omega)).trans R3.out
  have i3 := xDone_any _ _ _ _ (g7.below b5)
  have r5 := heap_alloc_new w4 (.cells cs 45)
  have G : Hid (∀ w6, Below (w4.alloc (.cells cs 45)).heap.size (w4.alloc (.cells cs 45)) w6 → Below w.heap.size w w6 ∧ w6.heap[w.heap.size]? = some (.cells #[.int .i64 0, .int .i64 0, .int .i64 0, .int .i64 0, .string ⟨#[]⟩, .slice none 0 0, .slice none 0 0, .slice none 0 0] 45 (0, 0)) ∧ w6.heap[w4.heap.size]? = some (.cells cs 45 (0, 0)) ∧
      GotR (w6.setRow w.heap.size cs) w.heap.size q.1.1 q.1.2 (.slice p1 q.1.1.hs.length n1) (.slice p2 q.1.1.ent.length n2) (.slice p3 q.1.1.n n3') ∧ GotR w6 w.heap.size q.1.1 q.1.2 (.slice p1 q.1.1.hs.length n1) (.slice p2 q.1.1.ent.length n2) (.slice p3 q.1.1.n n3')) := fun w6 h6 => by
    have b46 : Below w4.heap.size w4 w6 := b5.trans (h6.mono (by omega))
    have k0 : Keep (fun k => k = w.heap.size) w4 w6 := Keep.ofBelow b46
    have k1 : Keep (fun k => k = w.heap.size) w4 (w6.setRow w.heap.size cs) := k0.trans (T := fun k => k = w.heap.size) ⟨rfl, rfl, rfl, by rw [setRow_size]; exact Nat.le_refl _, fun k _ hk => setRow_other w6 _ k _ hk⟩ (fun _ _ e => e)
    have hS : ∀ k, wb.heap.size ≤ k → k < w4.heap.size → ¬ k = w.heap.size := fun k k1 _ e => by omega
    refine ⟨b4.trans (b46.mono (by omega)), (b46.block _ (by omega)).trans r4, (h6.block _ (by omega)).trans r5, ?_, ?_⟩
    · exact ⟨g2.slc g1 k1 hS, g2.mono (by omega) k1.size, g4.slc g3 k1 hS, g4.mono (by omega) k1.size, (g5.keep k1 hS).mono (by omega) k1.size, g6⟩
    · exact ⟨g2.slc g1 k0 hS, g2.mono (by omega) k0.size, g4.slc g3 k0 hS, g4.mono (by omega) k0.size, (g5.keep k0 hS).mono (by omega) k0.size, g6⟩
  rw [← hcs.out] at i3
  clear g1 g2 g3 g4 g5 g6 g7 g8 b4 b5 r4 r5 R3 B3 i1 i2
  go_wp2_with (go_at_call 48; fail)
  go_at_call 48
  refine i3.mono ?_
  rintro e w6 ⟨rfl, h6⟩
  rw [hcs.out] at h6
  obtain ⟨j1, j2, j3, j4, j5⟩ := G.out w6 h6
  have y0 : w6.cell? ⟨w4.heap.size, 0, none⟩ = some (.int .i64 q.1.1.status) := (by rw [cell_of_row _ _ _ _ _ _ j3, ← hcs.out]; rfl)
  have y1 : w6.cell? ⟨w4.heap.size, 1, none⟩ = some (.int .i64 q.1.1.size) := (by rw [cell_of_row _ _ _ _ _ _ j3, ← hcs.out]; rfl)
  have y2 : w6.cell? ⟨w4.heap.size, 2, none⟩ = some (.int .i64 q.1.1.a) := (by rw [cell_of_row _ _ _ _ _ _ j3, ← hcs.out]; rfl)
  have y3 : w6.cell? ⟨w4.heap.size, 3, none⟩ = some (.int .i64 q.1.1.b) := (by rw [cell_of_row _ _ _ _ _ _ j3, ← hcs.out]; rfl)
  have y4 : w6.cell? ⟨w4.heap.size, 4, none⟩ = some (.string PQ) := (by rw [cell_of_row _ _ _ _ _ _ j3, ← hcs.out]; rfl)
  have y5 : w6.cell? ⟨w4.heap.size, 5, none⟩ = some (.slice p1 q.1.1.hs.length n1) := (by rw [cell_of_row _ _ _ _ _ _ j3, ← hcs.out]; rfl)
  have y6 : w6.cell? ⟨w4.heap.size, 6, none⟩ = some (.slice p2 q.1.1.ent.length n2) := (by rw [cell_of_row _ _ _ _ _ _ j3, ← hcs.out]; rfl)
  have y7 : w6.cell? ⟨w4.heap.size, 7, none⟩ = some (.slice p3 q.1.1.n n3') := (by rw [cell_of_row _ _ _ _ _ _ j3, ← hcs.out]; rfl)
  have i4 := rencodeR17_any HK.out (j5.rq1 HQR.out)
  rw [rpV, hPQ.out.1] at i4
  have G7 : Hid (∀ w7, Below w6.heap.size w6 w7 → Below w.heap.size w w7 ∧ w7.heap[w.heap.size]? = some (.cells #[.int .i64 0, .int .i64 0, .int .i64 0, .int .i64 0, .string ⟨#[]⟩, .slice none 0 0, .slice none 0 0, .slice none 0 0] 45 (0, 0)) ∧ w7.heap[w4.heap.size]? = some (.cells cs 45 (0, 0)) ∧
      GotR (w7.setRow w.heap.size cs) w.heap.size q.1.1 q.1.2 (.slice p1 q.1.1.hs.length n1) (.slice p2 q.1.1.ent.length n2) (.slice p3 q.1.1.n n3')) := fun w7 h7 => by
    obtain ⟨a1, a2, a3, a4, _⟩ := G.out w7 (h6.trans (h7.mono h6.size))
    exact ⟨a1, a2, a3, a4⟩
  clear j1 j2 j3 j4 j5 h6 i3 G
  go_wp2_with (go_at_call 16; fail)
  go_at_call 16
  refine i4.mono ?_
  rintro e w7 ⟨rfl, h7⟩
  obtain ⟨k1, k2, k3, k4⟩ := G7.out w7 h7
  have x0 : w7.cell? ⟨w4.heap.size, 0, none⟩ = some (.int .i64 q.1.1.status) := (by rw [cell_of_row _ _ _ _ _ _ k3, ← hcs.out]; rfl)
  have x1 : w7.cell? ⟨w4.heap.size, 1, none⟩ = some (.int .i64 q.1.1.size) := (by rw [cell_of_row _ _ _ _ _ _ k3, ← hcs.out]; rfl)
  have x2 : w7.cell? ⟨w4.heap.size, 2, none⟩ = some (.int .i64 q.1.1.a) := (by rw [cell_of_row _ _ _ _ _ _ k3, ← hcs.out]; rfl)
  have x3 : w7.cell? ⟨w4.heap.size, 3, none⟩ = some (.int .i64 q.1.1.b) := (by rw [cell_of_row _ _ _ _ _ _ k3, ← hcs.out]; rfl)
  have x4 : w7.cell? ⟨w4.heap.size, 4, none⟩ = some (.string PQ) := (by rw [cell_of_row _ _ _ _ _ _ k3, ← hcs.out]; rfl)
  have x5 : w7.cell? ⟨w4.heap.size, 5, none⟩ = some (.slice p1 q.1.1.hs.length n1) := (by rw [cell_of_row _ _ _ _ _ _ k3, ← hcs.out]; rfl)
  have x6 : w7.cell? ⟨w4.heap.size, 6, none⟩ = some (.slice p2 q.1.1.ent.length n2) := (by rw [cell_of_row _ _ _ _ _ _ k3, ← hcs.out]; rfl)
  have x7 : w7.cell? ⟨w4.heap.size, 7, none⟩ = some (.slice p3 q.1.1.n n3') := (by rw [cell_of_row _ _ _ _ _ _ k3, ← hcs.out]; rfl)
  have J1 := hid k1
  have J2 := hid k2
  have J4 := hid k4
  clear h7 k1 k2 k3 k4 G7 i4 y0 y1 y2 y3 y4 y5 y6 y7
  cases hok : (decide (T.2.1.done = 0) && !T.2.2) with
  | true =>
    obtain ⟨d0, d1, d2, d3, d4⟩ := hY.out hok
    have HO := hid hok
    have HD := hid d1
    have hadd := add_sv Tryz.prog 9 (wrText p) r (by rw [← List.length_append, d4, data_length]; omega)
    rw [d4, sv_of, svX r] at hadd
    rw [d2, d3]
    have hss : (s.toList == s.toList) = true := beq_self_eq_true _
    have t1 : ((kb : Int) == (K : Int)) = true := by rw [d0]; simp
    have t2 : ((kb : Int) != (K : Int)) = false := by rw [d0]; simp
    clear hok d0 d1 d2 d3 d4 hY hN
    go_wp2_with ((with_reducible show wpList _ _ _ (Oper.mk _ (Op.store 45 _ _) _ _ _ _ :: _) _ _); go_must (refine wpList_store_row rfl 45 _ _ rfl w.heap.size _ rfl rfl 45 _ J2.out (sizeRp' _ _ _ _ _ _ _ _) rfl (oneRp _ _ _ _ _ _ _ _ _ _ _ _ _ _) ?_))
    refine bodyPost_ret (results_row_tmp2 rfl _ _ w.heap.size 45 _ (0, 0) _ rfl (setRow_heap _ _ _ _ _ _ J2.out) Tryz.underlying45 rfl sizeRp) rfl ?_
    refine ⟨Below.setRow J1.out (Nat.le_refl _) _, ?_⟩
    unfold DOkR
    rw [if_pos HO.out]
    have e1 : T.1.1 = q.1.1 := by rw [HD.out]
    have e2 : T.1.2 = q.1.2 := by rw [HD.out]
    rw [e1, e2]
    refine ⟨(.slice p1 q.1.1.hs.length n1), (.slice p2 q.1.1.ent.length n2), (.slice p3 q.1.1.n n3'), by (rw [rpV, hPQ.out.1]; try rfl), ?_⟩
    rw [hcs.out]
    exact J4.out
  | false =>
    have HO := hid hok
    have hn := hN.out hok
    clear hok hY hN
    by_cases hd : q.2.done = 0
    · rcases hn with hn | ⟨c, hc, d3⟩ | ⟨t, d3, ht, hne⟩
      · exact absurd hd hn
      · rw [svX] at d3
        rw [hd, d3]
        have hc' : ¬ c = 0 := hc
        clear d3 hd hc
        go_wp2_with ((with_reducible show wpList _ _ _ (Oper.mk _ (Op.store 45 _ _) _ _ _ _ :: _) _ _); go_must (refine wpList_store_row rfl 45 _ _ rfl w.heap.size _ rfl rfl 45 _ J2.out (sizeRp' _ _ _ _ _ _ _ _) rfl (oneRp _ _ _ _ _ _ _ _ _ _ _ _ _ _) ?_))
        refine bodyPost_ret (results_row_tmp2 rfl _ _ w.heap.size 45 _ (0, 0) _ rfl (setRow_heap _ _ _ _ _ _ J2.out) Tryz.underlying45 rfl sizeRp) rfl ?_
        refine ⟨Below.setRow J1.out (Nat.le_refl _) _, ?_⟩
        unfold DOkR
        rw [if_neg (by rw [HO.out]; exact Bool.false_ne_true)]
        rfl
      · have h9 : (digs t.length).length ≤ 9 := digs_len9 (by omega)
        have hadd := add_sv Tryz.prog 9 (wrText t) r (by have := HR.out; rw [wrText, List.length_append]; omega)
        obtain ⟨u, hu⟩ : ∃ u : List UInt8, wrText t ++ r = u := ⟨_, rfl⟩
        rw [hu, svX r, svX u] at hadd
        rw [hd, d3]
        have hus : ((⟨u.toArray⟩ : ByteArray).toList == s.toList) = false := by
          have := str_neq17 (a := u) (b := s.data.toList) (fun e => hne (hu.trans e))
          exact this
        generalize (⟨u.toArray⟩ : ByteArray) = U at *
        by_cases hkK : kb = K
        · have t1 : ((kb : Int) == (K : Int)) = true := by rw [hkK]; simp
          have t2 : ((kb : Int) != (K : Int)) = false := by rw [hkK]; simp
          clear d3 hd hne ht h9 hu hkK
          go_wp2_with ((with_reducible show wpList _ _ _ (Oper.mk _ (Op.store 45 _ _) _ _ _ _ :: _) _ _); go_must (refine wpList_store_row rfl 45 _ _ rfl w.heap.size _ rfl rfl 45 _ J2.out (sizeRp' _ _ _ _ _ _ _ _) rfl (oneRp _ _ _ _ _ _ _ _ _ _ _ _ _ _) ?_))
          refine bodyPost_ret (results_row_tmp2 rfl _ _ w.heap.size 45 _ (0, 0) _ rfl (setRow_heap _ _ _ _ _ _ J2.out) Tryz.underlying45 rfl sizeRp) rfl ?_
          refine ⟨Below.setRow J1.out (Nat.le_refl _) _, ?_⟩
          unfold DOkR
          rw [if_neg (by rw [HO.out]; exact Bool.false_ne_true)]
          rfl
        · have t1 : ((kb : Int) == (K : Int)) = false := by simp; omega
          have t2 : ((kb : Int) != (K : Int)) = true := by simp; omega
          have t3 : ¬ (kb : Int) = (K : Int) := by omega
          clear d3 hd hne ht h9 hu hkK
          go_wp2_with ((with_reducible show wpList _ _ _ (Oper.mk _ (Op.store 45 _ _) _ _ _ _ :: _) _ _); go_must (refine wpList_store_row rfl 45 _ _ rfl w.heap.size _ rfl rfl 45 _ J2.out (sizeRp' _ _ _ _ _ _ _ _) rfl (oneRp _ _ _ _ _ _ _ _ _ _ _ _ _ _) ?_))
          refine bodyPost_ret (results_row_tmp2 rfl _ _ w.heap.size 45 _ (0, 0) _ rfl (setRow_heap _ _ _ _ _ _ J2.out) Tryz.underlying45 rfl sizeRp) rfl ?_
          refine ⟨Below.setRow J1.out (Nat.le_refl _) _, ?_⟩
          unfold DOkR
          rw [if_neg (by rw [HO.out]; exact Bool.false_ne_true)]
          rfl
    · obtain ⟨t, c, d3⟩ : ∃ t c, encP K q.1.1 q.1.2 = .tuple #[.string t, .int .i64 c] := by
        rcases encP_cases K q.1.1 q.1.2 with ⟨c, _, e⟩ | ⟨t, e, _⟩
        · exact ⟨_, _, e⟩
        · exact ⟨_, _, e⟩
      rw [d3]
      generalize q.2.done = dn at *
      clear d3 hn
      go_wp2_with ((with_reducible show wpList _ _ _ (Oper.mk _ (Op.store 45 _ _) _ _ _ _ :: _) _ _); go_must (refine wpList_store_row rfl 45 _ _ rfl w.heap.size _ rfl rfl 45 _ J2.out (sizeRp' _ _ _ _ _ _ _ _) rfl (oneRp _ _ _ _ _ _ _ _ _ _ _ _ _ _) ?_))
      refine bodyPost_ret (results_row_tmp2 rfl _ _ w.heap.size 45 _ (0, 0) _ rfl (setRow_heap _ _ _ _ _ _ J2.out) Tryz.underlying45 rfl sizeRp) rfl ?_
      refine ⟨Below.setRow J1.out (Nat.le_refl _) _, ?_⟩
      unfold DOkR
      rw [if_neg (by rw [HO.out]; exact Bool.false_ne_true)]
      rfl
theorem rdecodeR17_any {K : Nat} (hK : K ≤ 12) (s : ByteArray) (w : World) (hs : s.size ≤ 4611686018427380000) : Calls Tryz.prog 23 #[.int .i64 (K : Int), .string s] w (DPostR K s.data.toList w) := by
  cases hR : rdText s.data.toList 1048576 with
  | bad k => exact rdecodeR17_bad hK s w hs k hR
  | good p r => exact rdecodeR17_good hK s w hs p r hR
end Msg
end Go.Proofs.YtmhgdcfmfcjagaaGreatDoor
