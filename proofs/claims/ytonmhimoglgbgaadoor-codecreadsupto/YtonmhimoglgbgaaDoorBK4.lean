import Derived.Test.YtonmhimoglgbgaaDoorBK3
namespace Go.Proofs.YtonmhimoglgbgaaDoor
open Go.RowKit
theorem conv_twoB (n : Nat) (hn : n ≤ 255) (w : World) : (convert 57 9 (.slice (some ⟨w.heap.size, 0, none⟩) 2 2)).run Tryd.prog (w.alloc (.cells #[.int .u8 (n : Int), .int .u8 0] 5)) = .ok (sv [UInt8.ofNat n, 0]) (w.alloc (.cells #[.int .u8 (n : Int), .int .u8 0] 5)) := by
  refine run_conv_bytes (P := Tryd.prog) _ 57 9 5 w.heap.size 0 2 2 [UInt8.ofNat n, 0] rfl Tryd.underlying57 Tryd.underlying5 Tryd.underlying9 ?_
  intro j v hv
  have hX := heap_alloc_new w (.cells #[.int .u8 (n : Int), .int .u8 0] 5)
  match j, hv with
  | 0, hv =>
    have e : v = .int .u8 (n : Int) := by
      simp [bv] at hv
      rw [← hv]; congr 1; omega
    rw [e, cell_of_row _ _ _ _ _ _ hX]; rfl
  | 1, hv =>
    have e : v = .int .u8 0 := by simp [bv] at hv; rw [← hv]
    rw [e, cell_of_row _ _ _ _ _ _ hX]; rfl
  | j + 2, hv => simp [bv] at hv
set_option maxRecDepth 100000 in
set_option maxHeartbeats 800000 in
theorem mark_anyB (n : Nat) (hn : n ≤ 255) (w : World) :
    Calls Tryd.prog 49 #[.int .i64 n] w fun e w' => ∃ m : ByteArray, e = .returned (.string m) ∧ m.data.toList = [109, 97, 114, 107, UInt8.ofNat n, 0] ∧ Below w.heap.size w w' := by
  have hcv := conv_twoB n hn w
  have e0 : (n : Int) / 256 = 0 := by omega
  rw [svX] at hcv
  go_enter Tryd.func49, Tryd.ntmps49
  go_wp2
  go_ret
  exact ⟨_, rfl, by simp [ByteArray.data_append], (Below.refl _ _).alloc (Nat.le_refl _) _⟩
theorem mark_at (n : Nat) (hn : n ≤ 255) (w : World) :
    Calls Tryd.prog 49 #[.int .i64 n] w fun e w' => e = .returned (mvT n) ∧ Below w.heap.size w w' := by
  refine (mark_anyB n hn w).mono ?_
  rintro e w' ⟨m, rfl, hm, hb⟩
  refine ⟨?_, hb⟩
  unfold mvT mrk
  rw [← hm]
  cases m
  rfl
theorem Own.setT {w : World} {base g cap : Nat} {cs : List Value} (h : Own w base (.slice (some ⟨g, 0, none⟩) cs.length cap) cs) (k : Nat) (hk : k < cs.length) (x : Value) :
    Own (w.setCell ⟨g, k, none⟩ x) base (.slice (some ⟨g, 0, none⟩) (cs.set k x).length cap) (cs.set k x) := by
  rcases h with ⟨h, _⟩ | ⟨g', cap', h, h1, h2, h3, h4, h5, h6⟩
  · cases h
  · injection h with e1 e2 e3
    injection e1 with e1
    injection e1 with e1
    subst e1 e3
    refine .inr ⟨g, cap, rfl, h1, by rw [List.length_set]; exact h2, h3, fun j v hv => ?_, fun j hj => ?_, by simpa [World.setCell] using h6⟩
    · rw [Nat.zero_add]
      rw [List.getElem?_set] at hv
      split at hv
      · rename_i e
        subst e
        cases hv
        have := (h5 k (by omega)).1
        rw [Nat.zero_add] at this
        exact World.cell?_setCell_same' _ _ _ this
      · rename_i e
        have := h4 j v hv
        rw [Nat.zero_add] at this
        exact (World.cell?_setCell_other _ _ _ _ (by intro h; injection h; omega)).trans this
    · have := h5 j hj
      rw [Nat.zero_add] at this ⊢
      refine ⟨?_, by rw [World.frozen?_setCell]; exact this.2⟩
      by_cases e : j = k
      · subst e
        rw [World.cell?_setCell_same' _ _ _ this.1]; rfl
      · rw [World.cell?_setCell_other _ _ _ _ (by intro h; injection h; omega)]
        exact this.1
theorem drop_set {α : Type} (L : List α) (k : Nat) (m : α) (hk : k < L.length) : (List.replicate k m ++ L.drop k).set k m = List.replicate (k + 1) m ++ L.drop (k + 1) := by
  rw [List.set_append_right _ _ (by simp), List.length_replicate, Nat.sub_self, List.drop_eq_getElem_cons hk, List.replicate_succ', List.append_assoc]
  rfl
theorem own_there {w : World} {base g n c : Nat} {cs : List Value} (h : Own w base (.slice (some ⟨g, 0, none⟩) n c) cs) {k : Nat} (hk : k < cs.length) : ∃ x, w.cell? ⟨g, k, none⟩ = some x ∧ w.frozen? ⟨g, k, none⟩ = false := by
  rcases h with ⟨h, _⟩ | ⟨g', c', h, h1, h2, h3, h4, h5, h6⟩
  · cases h
  · injection h with e1
    injection e1 with e1
    injection e1 with e1
    subst e1
    have a := h4 k cs[k] (List.getElem?_eq_getElem hk)
    have b := (h5 k (by omega)).2
    rw [Nat.zero_add] at a b
    exact ⟨_, a, b⟩

set_option maxRecDepth 100000 in
set_option maxHeartbeats 2000000 in
theorem takeI_any (X b2 i : Nat) (ρ : Rol) (S : BS) (x : Value) (L : List Value) (w : World) (h : Bk w X ρ S) (hx : Own w b2 x L) (hb2 : X ≤ b2) (hL : L.length ≤ 1100000) (hfr : ∀ g, x.ownBlock = some g → ρ g = none) (hG : S.GI.length = 6 * i) (hi : i ≤ 250) :
    Calls Tryd.prog 85 #[.pointer (some ⟨X, 0, none⟩), x] w fun r w' => r = .returned (.tuple #[]) ∧ ∃ ρ' v' G', Bk w' X ρ' { S with vI := v', GI := G' } ∧ G'.length = 6 * (i + 1) ∧ Keep (KS ρ x) w w' := by
  obtain ⟨ia, ic, hvI⟩ := h.I.own.shape
  rw [hG] at hvI
  have c0 : w.cell? ⟨X, 0, none⟩ = some S.vI := by rw [cell_of_row _ _ _ _ _ _ h.row]; rfl
  rw [hvI] at c0
  obtain ⟨xa, xc, rfl⟩ := hx.shape
  have hX := lt_of_heap h.row
  obtain ⟨z, hmv⟩ : ∃ z, Hid (mvI i = .int .i64 z) := ⟨_, rfl⟩
  have q1 : ((6 * i : Nat) : Int) / 6 = (i : Int) := by omega
  obtain ⟨n6, hn6⟩ : ∃ n6, 6 * i = n6 := ⟨_, rfl⟩
  rw [hn6] at c0 q1
  have HB := hid h
  have HX := hid hx
  obtain ⟨l, hl⟩ : ∃ l, L.length = l := ⟨_, rfl⟩
  have hll := hid hl
  rw [hl] at hL hfr ⊢
  have Hfr := hid hfr
  have ER : ∀ m : Value, List.replicate 0 m ++ L.drop 0 = L := fun m => by simp
  clear h hx hfr hl
  go_enter Tryd.func85, Tryd.ntmps85
  have x5 : IntKind.i64.wrap (-5 - (i : Int)) = -5 - (i : Int) := by rw [IntKind.wrap_i64]; omega
  have hz : z = -5 - (i : Int) := by
    have := hmv.out
    unfold mvI at this
    injection this with _ e
    exact e.symm
  subst hz
  have X0 : Hid (Own w b2 (.slice xa l xc) L) := by rw [← hll.out]; exact HX
  have B0 := HB
  have BB0 : Hid (Keep (KS ρ (.slice xa l xc)) w w) := Keep.refl _ _
  clear HB HX
  go_wp2
  go_loopw [5] (fun ii w' => ∃ k : Nat, k ≤ l ∧ ii = .int .i64 (k : Int) ∧ Hid (Own w' b2 (.slice xa l xc) (List.replicate k (mvI i) ++ L.drop k)) ∧ Hid (Keep (OwnS (.slice xa l xc)) w w')) (fun ii _ => l - (intOf ii).toNat)
  case atStart => exact ⟨0, by omega, rfl, hid (by rw [ER]; exact X0.out), hid (Keep.refl _ _)⟩
  case round =>
    obtain ⟨k, hk, rfl, hO, hK⟩ := hrel
    by_cases hkl : k < l
    · have b0 : (k : Int) < (l : Int) := by omega
      have hlen : (List.replicate k (mvI i) ++ L.drop k).length = l := by rw [List.length_append, List.length_replicate, List.length_drop, hll.out]; omega
      rcases own_cases hO.out with ⟨e, _⟩ | ⟨g, c, e, eg⟩
      · injection e with _ e; omega
      · rw [hlen] at e
        injection e with e1 e2 e3
        subst e1 e3
        have O1 := hO.out
        obtain ⟨y, d1, d2⟩ := own_there O1 (k := k) (by rw [hlen]; exact hkl)
        have O2 := Own.setT (by rw [hlen]; exact O1) k (by rw [hlen]; exact hkl) (mvI i)
        rw [drop_set L k _ (by rw [hll.out]; exact hkl)] at O2
        have hlen2 : (List.replicate (k + 1) (mvI i) ++ L.drop (k + 1)).length = l := by rw [List.length_append, List.length_replicate, List.length_drop, hll.out]; omega
        rw [hlen2] at O2
        have K2 := hK.out.setCell g k (mvI i) eg
        rw [hmv.out] at O2 K2
        have O3 := hid O2
        have K3 := hid K2
        clear O1 O2 K2 hO hK hlen hlen2 eg
        go_wp2
        exact ⟨⟨k + 1, by omega, by go_num, (by rw [hmv.out]; exact O3), K3⟩, by simp [intOf]; omega⟩
    · obtain rfl : k = l := by omega
      have b0 : ¬ (k : Int) < (k : Int) := by omega
      have hO1 := hO.out
      rw [List.drop_of_length_le (by rw [hll.out]; exact Nat.le_refl _), List.append_nil] at hO1
      have hB1 : Bk wr X ρ S := B0.out.same hK.out.size fun j r hr => hK.out.block j (B0.out.lt j r hr).2 fun e => by have := Hfr.out j e; rw [this] at hr; cases hr
      obtain ⟨ρ1, hB2, hX2, hR2⟩ := hB1.adopt (f := 0) (mv := mvI) (fun _ => rfl) (fun e => by cases e) hO1 hb2 Hfr.out
      have c1 : wr.cell? ⟨X, 0, none⟩ = some S.vI := by rw [cell_of_row _ _ _ _ _ _ hB2.row]; rfl
      have hcall := growsI_any mvI (-5 - (i : Int)) X i k ρ1 S.vI (.slice xa k xc) S.GI wr hmv hB2.I hB2.lt hX2 (by rw [hn6]; exact hG ▸ hn6 ▸ rfl) (by omega) (by omega) (by have := lt_of_heap hB2.row; omega)
      rw [hvI, hn6] at c1 hcall
      have HB2 := hid hB2
      have hKX := hid (show Keep (KS ρ (.slice xa k xc)) w wr from hK.out.mono (fun j _ e => .inr e))
      have HR2 := hid hR2
      clear hO1 hB1 hB2 hX2 hO hK hR2
      go_wp2_with (go_at_call 50; fail)
      refine hcall.mono ?_
      rintro r w2 ⟨v', ρ2, G2, rfl, F2, hG2, M2⟩
      obtain ⟨e1, hB3⟩ := HB2.out.grownI F2 M2
      obtain ⟨va, vn, vc, rfl⟩ := F2.own.sl
      have r2 := e1.trans HB2.out.row
      have c2 : w2.cell? ⟨X, 0, none⟩ = some S.vI := by rw [cell_of_row _ _ _ _ _ _ r2]; rfl
      have f2 : w2.frozen? ⟨X, 0, none⟩ = false := frozen_of_row _ _ _ _ _ r2
      have hM : Keep (KS ρ (.slice xa k xc)) wr w2 := M2.keep.mono (fun j _ ⟨r, hr, _⟩ => (HR2.out j r hr).imp (fun e => ⟨r, e⟩) id)
      have res : Hid (∃ ρ' v' G', Bk (w2.setCell ⟨X, 0, none⟩ (.slice va vn vc)) X ρ' { S with vI := v', GI := G' } ∧ G'.length = 6 * (i + 1) ∧ Keep (KS ρ (.slice xa k xc)) w (w2.setCell ⟨X, 0, none⟩ (.slice va vn vc))) :=
        ⟨ρ2, _, G2, hB3, hG2, (((BB0.out.trans hKX.out (fun _ _ e => e)).trans hM (fun _ _ e => e)).setCell X 0 _ (.inl ⟨_, B0.out.rX⟩))⟩
      clear hB3 F2 M2 hM e1 r2 hcall
      go_wp2
      go_end0
      exact ⟨rfl, res.out⟩

set_option maxRecDepth 100000 in
set_option maxHeartbeats 2000000 in
theorem takeT_any (X b2 i : Nat) (ρ : Rol) (S : BS) (x : Value) (L : List Value) (w : World) (h : Bk w X ρ S) (hx : Own w b2 x L) (hb2 : X ≤ b2) (hL : L.length ≤ 1100000) (hfr : ∀ g, x.ownBlock = some g → ρ g = none) (hG : S.GT.length = 6 * i) (hi : i ≤ 250) :
    Calls Tryd.prog 87 #[.pointer (some ⟨X, 0, none⟩), x] w fun r w' => r = .returned (.tuple #[]) ∧ ∃ ρ' v' G', Bk w' X ρ' { S with vT := v', GT := G' } ∧ G'.length = 6 * (i + 1) ∧ Keep (KS ρ x) w w' := by
  obtain ⟨ia, ic, hvI⟩ := h.T.own.shape
  rw [hG] at hvI
  have c0 : w.cell? ⟨X, 1, none⟩ = some S.vT := by rw [cell_of_row _ _ _ _ _ _ h.row]; rfl
  rw [hvI] at c0
  obtain ⟨xa, xc, rfl⟩ := hx.shape
  have hX := lt_of_heap h.row
  obtain ⟨z, hmv⟩ : ∃ z, Hid (mvT i = .string z) := ⟨_, (show mvT i = .string ⟨(mrk i).toArray⟩ from rfl)⟩
  have q1 : ((6 * i : Nat) : Int) / 6 = (i : Int) := by omega
  obtain ⟨n6, hn6⟩ : ∃ n6, 6 * i = n6 := ⟨_, rfl⟩
  rw [hn6] at c0 q1
  have HB := hid h
  have HX := hid hx
  obtain ⟨l, hl⟩ : ∃ l, L.length = l := ⟨_, rfl⟩
  have hll := hid hl
  rw [hl] at hL hfr ⊢
  have Hfr := hid hfr
  have ER : ∀ m : Value, List.replicate 0 m ++ L.drop 0 = L := fun m => by simp
  clear h hx hfr hl
  go_enter Tryd.func87, Tryd.ntmps87
  have hmk := fun w => mark_at i (by omega) w
  rw [hmv.out] at hmk
  go_wp2_with (go_at_call 49; fail)
  refine (hmk _).mono ?_
  rintro r w0 ⟨rfl, hw0⟩
  have X0 : Hid (Own w0 b2 (.slice xa l xc) L) := by
    have := HX.out.below hw0 (Nat.le_refl _)
    rw [hll.out] at this
    exact this
  have B0 := hid (HB.out.below hw0)
  have BB0 : Hid (Keep (KS ρ (.slice xa l xc)) w w0) := Keep.ofBelow hw0
  clear hw0 HB HX hmk c0
  go_wp2
  go_loopw [5] (fun ii w' => ∃ k : Nat, k ≤ l ∧ ii = .int .i64 (k : Int) ∧ Hid (Own w' b2 (.slice xa l xc) (List.replicate k (mvT i) ++ L.drop k)) ∧ Hid (Keep (OwnS (.slice xa l xc)) w0 w')) (fun ii _ => l - (intOf ii).toNat)
  case atStart => exact ⟨0, by omega, rfl, hid (by rw [ER]; exact X0.out), hid (Keep.refl _ _)⟩
  case round =>
    obtain ⟨k, hk, rfl, hO, hK⟩ := hrel
    by_cases hkl : k < l
    · have b0 : (k : Int) < (l : Int) := by omega
      have hlen : (List.replicate k (mvT i) ++ L.drop k).length = l := by rw [List.length_append, List.length_replicate, List.length_drop, hll.out]; omega
      rcases own_cases hO.out with ⟨e, _⟩ | ⟨g, c, e, eg⟩
      · injection e with _ e; omega
      · rw [hlen] at e
        injection e with e1 e2 e3
        subst e1 e3
        have O1 := hO.out
        obtain ⟨y, d1, d2⟩ := own_there O1 (k := k) (by rw [hlen]; exact hkl)
        have O2 := Own.setT (by rw [hlen]; exact O1) k (by rw [hlen]; exact hkl) (mvT i)
        rw [drop_set L k _ (by rw [hll.out]; exact hkl)] at O2
        have hlen2 : (List.replicate (k + 1) (mvT i) ++ L.drop (k + 1)).length = l := by rw [List.length_append, List.length_replicate, List.length_drop, hll.out]; omega
        rw [hlen2] at O2
        have K2 := hK.out.setCell g k (mvT i) eg
        rw [hmv.out] at O2 K2
        have O3 := hid O2
        have K3 := hid K2
        clear O1 O2 K2 hO hK hlen hlen2 eg
        go_wp2
        exact ⟨⟨k + 1, by omega, by go_num, (by rw [hmv.out]; exact O3), K3⟩, by simp [intOf]; omega⟩
    · obtain rfl : k = l := by omega
      have b0 : ¬ (k : Int) < (k : Int) := by omega
      have hO1 := hO.out
      rw [List.drop_of_length_le (by rw [hll.out]; exact Nat.le_refl _), List.append_nil] at hO1
      have hB1 : Bk wr X ρ S := B0.out.same hK.out.size fun j r hr => hK.out.block j (B0.out.lt j r hr).2 fun e => by have := Hfr.out j e; rw [this] at hr; cases hr
      obtain ⟨ρ1, hB2, hX2, hR2⟩ := hB1.adopt (f := 1) (mv := mvT) (fun e => by cases e) (fun _ => rfl) hO1 hb2 Hfr.out
      have c1 : wr.cell? ⟨X, 1, none⟩ = some S.vT := by rw [cell_of_row _ _ _ _ _ _ hB2.row]; rfl
      have hcall := growsT_any mvT z X i k ρ1 S.vT (.slice xa k xc) S.GT wr hmv hB2.T hB2.lt hX2 (by rw [hn6]; exact hG ▸ hn6 ▸ rfl) (by omega) (by omega) (by have := lt_of_heap hB2.row; omega)
      rw [hvI, hn6] at c1 hcall
      have HB2 := hid hB2
      have hKX := hid (show Keep (KS ρ (.slice xa k xc)) w0 wr from hK.out.mono (fun j _ e => .inr e))
      have HR2 := hid hR2
      clear hO1 hB1 hB2 hX2 hO hK hR2
      go_wp2_with (go_at_call 51; fail)
      refine hcall.mono ?_
      rintro r w2 ⟨v', ρ2, G2, rfl, F2, hG2, M2⟩
      obtain ⟨e1, hB3⟩ := HB2.out.grownT F2 M2
      obtain ⟨va, vn, vc, rfl⟩ := F2.own.sl
      have r2 := e1.trans HB2.out.row
      have c2 : w2.cell? ⟨X, 1, none⟩ = some S.vT := by rw [cell_of_row _ _ _ _ _ _ r2]; rfl
      have f2 : w2.frozen? ⟨X, 1, none⟩ = false := frozen_of_row _ _ _ _ _ r2
      have hM : Keep (KS ρ (.slice xa k xc)) wr w2 := M2.keep.mono (fun j _ ⟨r, hr, _⟩ => (HR2.out j r hr).imp (fun e => ⟨r, e⟩) id)
      have res : Hid (∃ ρ' v' G', Bk (w2.setCell ⟨X, 1, none⟩ (.slice va vn vc)) X ρ' { S with vT := v', GT := G' } ∧ G'.length = 6 * (i + 1) ∧ Keep (KS ρ (.slice xa k xc)) w (w2.setCell ⟨X, 1, none⟩ (.slice va vn vc))) :=
        ⟨ρ2, _, G2, hB3, hG2, (((BB0.out.trans hKX.out (fun _ _ e => e)).trans hM (fun _ _ e => e)).setCell X 1 _ (.inl ⟨_, B0.out.rX⟩))⟩
      clear hB3 F2 M2 hM e1 r2 hcall
      go_wp2
      go_end0
      exact ⟨rfl, res.out⟩
end Go.Proofs.YtonmhimoglgbgaaDoor
