import Derived.Test.YtagplmnnbjidmaaDoorCTL28
namespace Go.Proofs.YtagplmnnbjidmaaDoor
open Go.RowKit
theorem S32.below {q g : Nat} {x y z : Value} {w w' : World} {B : Nat} (h : S32 q g x y z w) (hb : Below B w w') (h1 : q < B) (h2 : g < B) : S32 q g x y z w' := h.heap (hb.block q h1) (hb.block g h2)
def S30 (q : Nat) (x y z : Value) (w : World) : Prop := w.cell? ⟨q, 0, none⟩ = some x ∧ w.cell? ⟨q, 1, none⟩ = some y ∧ w.cell? ⟨q, 2, none⟩ = some z
theorem S30.below {q : Nat} {x y z : Value} {w w' : World} {B : Nat} (h : S30 q x y z w) (hb : Below B w w') (h1 : q < B) : S30 q x y z w' := ⟨(hb.cell (p := ⟨q, 0, none⟩) h1).trans h.1, (hb.cell (p := ⟨q, 1, none⟩) h1).trans h.2.1, (hb.cell (p := ⟨q, 2, none⟩) h1).trans h.2.2⟩
/-- how many entries a map has, in whatever world it lies -/
theorem Mp.lenN {w : World} {b : Nat} {es : List ((Int × Int) × Value)} (h : Mp w b es) : ∃ n : Nat, ∀ w' : World, w'.heap[b]? = w.heap[b]? → (Builtin.len_ #[71] 3 #[.map (some b)]).run Tryd.prog w' = .ok (.int .i64 (n : Int)) w' := by
  obtain ⟨arr, clock, hb, _⟩ := h
  exact ⟨arr.size, fun w' hw => by simp [Builtin.len_, run_underlying undMp, MapKept.run_getObj_map (hw.trans hb), goInt, Result.andThen]⟩
def SL (q : Nat) (x y z : Value) (b nl : Nat) (w : World) : Prop := w.cell? ⟨q, 0, none⟩ = some x ∧ w.cell? ⟨q, 1, none⟩ = some y ∧ w.cell? ⟨q, 2, none⟩ = some z ∧ (Builtin.len_ #[71] 3 #[.map (some b)]).run Tryd.prog w = .ok (.int .i64 (nl : Int)) w
set_option maxRecDepth 100000 in
set_option maxHeartbeats 4000000 in
theorem tClone_any {w : World} {q h : Nat} {L : List (List UInt8)} {F : Nat → Prop} (t : TrL w q h L F) (hT : 4 ≤ w.heap.size) :
    Calls Tryd.prog 15 #[.pointer (some ⟨q, 0, none⟩)] w fun r w' => ∃ (q2 : Nat) (F2 : Nat → Prop), r = .returned (.pointer (some ⟨q2, 0, none⟩)) ∧ TrL w' q2 h L F2 ∧ (∀ k, F2 k → w.heap.size ≤ k) ∧ Below w.heap.size w w' := by
  obtain ⟨⟨b, es, t1, rfl⟩, hLs, g1, g8, glow, n20⟩ := t
  obtain ⟨n, hn⟩ : ∃ n, Hid (L.length = n) := ⟨_, rfl⟩
  rw [hn.out] at t1 n20
  obtain ⟨R, hR⟩ : ∃ R, Hid (Til.rf L h (Til.cn n) = R) := ⟨_, rfl⟩
  rw [hR.out] at t1
  have hRlen : Hid (∀ p, (R p).length ≤ 2000000) := fun p => by rw [← hR.out]; exact Til.rf_len L h g8 _ p
  have hqF := t1.lt q (.inl rfl)
  have S0 : S30 q (.int .i64 (h : Int)) (.int .i64 (n : Int)) (.map (some b)) w := ⟨t1.c0, t1.c1, t1.c2⟩
  obtain ⟨nl, hln⟩ := t1.mp.lenN
  have hlen := hln w rfl
  have hbF := t1.lt b (.inr (.inl rfl))
  have bm := (Below.refl w.heap.size w).alloc (Nat.le_refl _) (.map #[] 0)
  have zm := size_alloc w (.map #[] 0)
  have b2 := (Below.refl (w.heap.size + 1) (w.alloc (.map #[] 0))).alloc (by omega) (.cells #[Value.int .i64 (h : Int), .int .i64 (n : Int), .map (some w.heap.size)] 73)
  have r2 := heap_alloc_at (w.alloc (.map #[] 0)) (.cells #[Value.int .i64 (h : Int), .int .i64 (n : Int), .map (some w.heap.size)] 73) (w.heap.size + 1) zm
  have m2 : Mp ((w.alloc (.map #[] 0)).alloc (.cells #[Value.int .i64 (h : Int), .int .i64 (n : Int), .map (some w.heap.size)] 73)) w.heap.size [] := (Mp.new w).heap (b2.block _ (by omega))
  have z2 := size_alloc (w.alloc (.map #[] 0)) (.cells #[Value.int .i64 (h : Int), .int .i64 (n : Int), .map (some w.heap.size)] 73)
  have bw2 := bm.trans (b2.mono (show w.heap.size ≤ w.heap.size + 1 by omega))
  have SL0 : SL q (.int .i64 (h : Int)) (.int .i64 (n : Int)) (.map (some b)) b nl w := ⟨S0.1, S0.2.1, S0.2.2, hlen⟩
  have SL1 : SL q (.int .i64 (h : Int)) (.int .i64 (n : Int)) (.map (some b)) b nl (w.alloc (.map #[] 0)) := ⟨(S0.below bm hqF).1, (S0.below bm hqF).2.1, (S0.below bm hqF).2.2, hln _ (bm.block b hbF)⟩
  have SL2 : SL q (.int .i64 (h : Int)) (.int .i64 (n : Int)) (.map (some b)) b nl ((w.alloc (.map #[] 0)).alloc (.cells #[Value.int .i64 (h : Int), .int .i64 (n : Int), .map (some w.heap.size)] 73)) := ⟨(S0.below bw2 hqF).1, (S0.below bw2 hqF).2.1, (S0.below bw2 hqF).2.2, hln _ (bw2.block b hbF)⟩
  have SD0 : SL q (.int .i64 (h : Int)) (.int .i64 (n : Int)) (.map (some b)) b nl w.drew := ⟨SL0.1, SL0.2.1, SL0.2.2.1, hln _ rfl⟩
  have SD1 : SL q (.int .i64 (h : Int)) (.int .i64 (n : Int)) (.map (some b)) b nl (w.alloc (.map #[] 0)).drew := ⟨SL1.1, SL1.2.1, SL1.2.2.1, hln _ (bm.block b hbF)⟩
  have SD2 : SL q (.int .i64 (h : Int)) (.int .i64 (n : Int)) (.map (some b)) b nl ((w.alloc (.map #[] 0)).alloc (.cells #[Value.int .i64 (h : Int), .int .i64 (n : Int), .map (some w.heap.size)] 73)).drew := ⟨SL2.1, SL2.2.1, SL2.2.2.1, hln _ (bw2.block b hbF)⟩
  have bd2 := bw2.drew
  obtain ⟨w2, hw2⟩ : ∃ w2, ((w.alloc (.map #[] 0)).alloc (.cells #[Value.int .i64 (h : Int), .int .i64 (n : Int), .map (some w.heap.size)] 73)).drew = w2 := ⟨_, rfl⟩
  have r2' : w2.heap[w.heap.size + 1]? = some (.cells #[Value.int .i64 (h : Int), .int .i64 (n : Int), .map (some w.heap.size)] 73 (0, 0)) := by rw [← hw2]; exact r2
  have m2' : Mp w2 w.heap.size [] := by rw [← hw2]; exact m2.heap rfl
  have z2' : w2.heap.size = w.heap.size + 2 := by rw [← hw2]; show _ = _; rw [zm] at z2; exact z2
  rw [hw2] at bd2
  have t2 := t1.below bd2
  obtain ⟨w3, hrg, it3, bw3, z3⟩ := Itr.start t2.mp
  have C3 : Hid (Cl w w3 q b h n es R w.heap.size w2.heap.size (w.heap.size + 1) w.heap.size [] []) := by
    have hF := fun k hk => t1.lt k hk
    refine ⟨t2.below bw3, it3, (bw3.block _ (by omega)).trans r2', m2'.heap (bw3.block _ (by omega)), fun p => ⟨fun ⟨v, hv⟩ => (by cases hv), fun hp => (by cases hp)⟩, fun p v hv => (by cases hv), fun p v p' v' k hv => (by cases hv), ⟨by omega, by omega, by omega⟩, ⟨by omega, by omega, by omega⟩, hF, bd2.trans (bw3.mono (by omega)), by omega⟩
  have q22 := t2.c2
  have hmk := make_map
  clear t1 t2 it3 bw3 bw2 b2 r2 m2 bm zm z2 r2' m2' bd2 hln hlen
  go_enter Tryd.func15, Tryd.ntmps15
  go_wp2_with (go_at_call 33; refine (tOrNone_any q w).mono ?_; rintro e w0 ⟨rfl, h0⟩; have h0 := h0.symm; subst h0)
  go_region_held3 (fun w' => w'.cell? ⟨q, 0, none⟩ = some (.int .i64 (h : Int)) ∧ w'.cell? ⟨q, 1, none⟩ = some (.int .i64 (n : Int)) ∧ w'.cell? ⟨q, 2, none⟩ = some (.map (some b)) ∧ (Builtin.len_ #[71] 3 #[.map (some b)]).run Tryd.prog w' = .ok (.int .i64 (nl : Int)) w') (first | exact SD0 | exact SD1 | exact SD2 | (rw [hw2] at SD2; exact SD2)) (fail)
  have hq1 : w.heap.size + 1 ≠ w.heap.size := by omega
  clear S0 SL0 SL1 SL2 SD0 SD1 SD2 hmk hw2 hbF
  go_wp2
  clear hrg q22
  rw [z2'] at C3
  go_loopw [30] (fun _ w' => ∃ es2 sk, Hid (Cl w w' q b h n es R w.heap.size (w.heap.size + 2) (w.heap.size + 1) w.heap.size es2 sk)) (fun _ w' => w'.rangeLeft b (w.heap.size + 2))
  case atStart => exact ⟨[], [], C3⟩
  case round =>
    clear C3
    obtain ⟨es2, sk, C⟩ := hrel
    rcases C.out.it.next 0 with ⟨hall, hnx⟩ | ⟨p, v, w1, hmem, hnin, hInR, hnx, bt1, sz1, it1, hlt1, hent⟩
    · obtain ⟨t4, hF4⟩ := C.out.done hall
      have T4 := hid t4
      have HF4 := hid hF4
      clear t4 hF4 hall
      go_wp2
      go_ret
      refine ⟨w.heap.size + 1, _, rfl, ⟨⟨w.heap.size, es2, ?_, rfl⟩, hLs, g1, g8, fun k hk => Nat.le_trans hT (HF4.out k hk), by rw [hn.out]; exact n20⟩, HF4.out, C.out.bel⟩
      rw [hn.out, hR.out]
      exact T4.out
    · obtain ⟨n1, n2, n3⟩ := C.out.ne
      obtain ⟨l1, l2, l3⟩ := C.out.lo
      obtain ⟨e1, e2⟩ := C.out.src.el p v hmem
      have hblk : ∀ k, Fb q b es k → w1.heap[k]? = wr.heap[k]? := fun k hk => bt1.block k (C.out.src.lt k hk) (by have := C.out.bB k hk; omega)
      have o1 : Own w1 0 v (svs (R p)) := e1.kept (by omega) fun k hk => hblk k (.inr (.inr ⟨p, v, hmem, hk⟩))
      obtain ⟨a, cap, hv, hA, hln, hcp⟩ := o1.at
      obtain ⟨m, hm⟩ : ∃ m, Hid ((R p).length = m) := ⟨_, rfl⟩
      have hmb := hRlen.out p
      rw [hm.out] at hv hmb
      have hrow1 : w1.heap[w.heap.size + 1]? = some (.cells #[.int .i64 (h : Int), .int .i64 (n : Int), .map (some w.heap.size)] 73 (0, 0)) := (bt1.block _ (lt_of_heap C.out.row) (Ne.symm n2)).trans C.out.row
      have hmp1 : Mp w1 w.heap.size es2 := C.out.mp.heap (bt1.block _ C.out.mp.lt (Ne.symm n3))
      obtain ⟨x1, x2⟩ := p
      simp only at hnx hent
      have ba := (Below.refl w1.heap.size w1).alloc (Nat.le_refl _) (.cells #[Value.int .i64 x1, .int .i64 x2] 80)
      have ra := heap_alloc_new w1 (.cells #[Value.int .i64 x1, .int .i64 x2] 80)
      obtain ⟨w2', hw2'⟩ : ∃ w2, w1.alloc (.cells #[Value.int .i64 x1, .int .i64 x2] 80) = w2 := ⟨_, rfl⟩
      rw [hw2'] at ba ra
      have hq2l : w.heap.size + 1 < w1.heap.size := lt_of_heap hrow1
      have hb2l : w.heap.size < w1.heap.size := hmp1.lt
      have hrow2 := (ba.block _ hq2l).trans hrow1
      have S0 : S32 (w.heap.size + 1) w1.heap.size (.map (some w.heap.size)) (.int .i64 x1) (.int .i64 x2) w2' := ⟨by rw [cell_of_row _ _ _ _ _ _ hrow2]; rfl, by rw [cell_of_row _ _ _ _ _ _ ra]; rfl, by rw [cell_of_row _ _ _ _ _ _ ra]; rfl⟩
      have hpl : w1.heap.size < w2'.heap.size := lt_of_heap ra
      have hq2l' : w.heap.size + 1 < w2'.heap.size := Nat.lt_of_lt_of_le hq2l ba.size
      have bd := (Below.refl w2'.heap.size w2').drew
      have i1 := tcopied_any (R (x1, x2)) a cap w2'.drew (by have := hRlen.out (x1, x2); omega) ((hA.below ba (Nat.le_refl _)).below bd (Nat.le_refl _))
      rw [hm.out, hv.symm] at i1
      have hno : ¬ has es2 (x1, x2) := fun e => hnin ((C.out.ks _).1 e)
      have mp3 := fun w3 (bb : Below w2'.drew.heap.size w2'.drew w3) => (hmp1.heap ((bb.block _ (show w.heap.size < w2'.drew.heap.size from Nat.lt_of_lt_of_le hb2l ba.size)).trans (ba.block _ hb2l))).store hInR hno (.slice (some ⟨w2'.heap.size, 0, none⟩) m m)
      simp only at mp3
      have BA := hid ba
      have BT1 := hid bt1
      have IT1 := hid it1
      have HLT := hid hlt1
      have SZ1 := hid sz1
      clear e1 e2 hblk o1 hA hv hrow1 hmp1 ra hrow2 hno hInR hmem ba bt1 it1 hlt1 sz1
      go_wp2
      go_region_held3 (fun w' => w'.cell? ⟨w.heap.size + 1, 2, none⟩ = some (.map (some w.heap.size)) ∧ w'.cell? ⟨w1.heap.size, 0, none⟩ = some (.int .i64 x1) ∧ w'.cell? ⟨w1.heap.size, 1, none⟩ = some (.int .i64 x2)) (first | exact S0 | exact S3 | exact S4) ((go_at_call 38; refine i1.mono ?_; rintro e w3 ⟨rfl, R3, hw3⟩; have S3 := S0.below (drewBelow5 hw3) hq2l' hpl; obtain ⟨w4, hmu, mp4, bt4, sz4⟩ := mp3 w3 hw3; have S4 := S3.heap (bt4.block _ (Nat.lt_of_lt_of_le hq2l' (drewBelow5 hw3).size) hq1) (bt4.block _ (Nat.lt_of_lt_of_le hpl (drewBelow5 hw3).size) (Nat.ne_of_gt hb2l))))
      have C4 := C.out.step hnin BT1.out SZ1.out IT1.out (BA.out.trans ((drewBelow5 hw3).mono BA.out.size)) (g := w2'.heap.size) R3 BA.out.size (hRlen.out _) (by rw [hm.out]; exact mp4) bt4 sz4
      have hC := hid C4.1
      have hrl := hid (show w4.rangeLeft b (w.heap.size + 2) < wr.rangeLeft b (w.heap.size + 2) by rw [C4.2]; exact HLT.out)
      clear C4 S3 S4 hmu mp4 bt4 sz4 R3 hw3 i1 mp3 S0
      go_wp2
      exact ⟨⟨_, _, hC⟩, hrl.out⟩
end Go.Proofs.YtagplmnnbjidmaaDoor
