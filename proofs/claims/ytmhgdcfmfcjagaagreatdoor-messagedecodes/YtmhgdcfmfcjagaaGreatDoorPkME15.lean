import Derived.Test.YtmhgdcfmfcjagaaGreatDoorPkXR3
namespace Go.Proofs.YtmhgdcfmfcjagaaGreatDoor
open Go.RowKit Cod
namespace Msg

/-- what take answers: a request without asks -/
def TPo (w : World) (b : Nat) (s : ByteArray) (p : DS) (e : Ending) (w' : World) : Prop :=
  ∃ vl ve, e = .returned (akV p.1 vl ve (.slice none 0 0)) ∧ SlcI w' vl p.1.list ∧ Nw w.heap.size w'.heap.size vl ∧ Slc w' ve p.1.ent ∧ Nw w.heap.size w'.heap.size ve ∧ p.1.n = 0 ∧ XRd w' b s p.2 ∧ Keep (fun k => k = b) w w'
/-- letters and fields -/
theorem lett_cases {k : Nat} {W : List UInt8} (hW : fw (k : Int) = W) (h12 : k ≠ 12) (j : Nat) (hj : j < W.length) : (∃ hl : j < (flds k).length, W[j] = lett (flds k)[j] ∧ (flds k)[j] ≠ .asks) ∨ (W[j] = 45 ∧ flds k = []) := by
  subst hW
  by_cases hw : wi (k : Int) 1 12 = true
  · have hk := wi_iff.1 hw
    by_cases h2 : (k : Int) = 2
    · right
      obtain rfl : k = 2 := by omega
      have hj : j < 1 := hj
      obtain rfl : j = 0 := by omega
      exact ⟨rfl, rfl⟩
    · left
      have e := fw_flds hk.1 hk.2 h2
      rw [Int.toNat_natCast] at e
      have hl : j < (flds k).length := by rw [e, List.length_map] at hj; exact hj
      refine ⟨hl, ?_, flds_noasks hw (by omega) _ (by rw [Int.toNat_natCast]; exact List.getElem_mem hl)⟩
      simp only [e, List.getElem_map]
  · have := fw_nil.2 hw
    rw [this] at hj
    simp at hj
theorem flds_le (K : Nat) : (flds K).length ≤ (fw (K : Int)).length := by
  match K with
  | 0 | 1 | 2 | 3 | 4 | 5 | 6 | 7 | 8 | 9 | 10 | 11 | 12 | n + 13 => first | decide | exact Nat.zero_le _
theorem dFs_n : ∀ (fs : List Fq) (p : DS), (dFs fs p).1.n = p.1.n
  | [], p => rfl
  | g :: fs, p => by
    have := dFs_n fs (dF g p)
    show (dFs fs (dF g p)).1.n = _
    rw [this]
    cases g <;> rfl
set_option maxRecDepth 100000 in
set_option maxHeartbeats 8000000 in
theorem take17_flat {w : World} {b : Nat} {s : ByteArray} {st : RS} (wn : Bool) (h : XRd w b s st) (K : Nat) (hK : st.val 0 (rdByte st.rest) = K) (h12 : K ≠ 12) :
    Calls Tryz.prog 47 #[.pointer (some ⟨b, 0, none⟩), .bool wn] w (TPo w b s (dFs (flds K) (Ask.of (K : Int), st.step (rdByte st.rest)))) := by
  have hbl := h.lt
  have bA := (Below.refl w.heap.size w).alloc (Nat.le_refl _) (.cells #[.int .i64 0, .int .i64 0, .int .i64 0, .int .i64 0, .slice none 0 0, .slice none 0 0, .slice none 0 0] 26)
  have rA := heap_alloc_new w (.cells #[.int .i64 0, .int .i64 0, .int .i64 0, .int .i64 0, .slice none 0 0, .slice none 0 0, .slice none 0 0] 26)
  have zA := size_alloc w (.cells #[.int .i64 0, .int .i64 0, .int .i64 0, .int .i64 0, .slice none 0 0, .slice none 0 0, .slice none 0 0] 26)
  have i1 := xByte_any b s st _ (h.below bA)
  rw [hK] at i1
  have i2 := fun w => fields17_any (K : Int) w
  obtain ⟨P, hP⟩ : ∃ P, Hid (sv (fw (K : Int)) = .string P) := ⟨_, rfl⟩
  rw [hP.out] at i2
  obtain ⟨hPd, hPz⟩ := str_eta17 hP.out
  have hPn : P.data.toList ≠ [103] := fun e => by
    rw [hPd] at e
    have := fw_g.1 e
    omega
  have q1 : (P.toList == (⟨#[103]⟩ : ByteArray).toList) = false := by
    rw [ByteArray.toList_eq, ByteArray.toList_eq]
    simpa using hPn
  have q2 : (P.toList == [103]) = false := by
    rw [ByteArray.toList_eq]
    simpa using hPn
  have LC := hid (fun j hj => lett_cases (k := K) rfl h12 j hj)
  have HPd := hid hPd
  have hPs : P.size ≤ 3 := by
    rw [hPz]
    rcases fw_cases (K : Int) with h | h | h | h | h | h | h | h | h | h <;> rw [h] <;> decide
  have HPz := hid hPz
  have BA := hid bA
  have RA := hid rA
  obtain ⟨st1, hst⟩ : ∃ st1, Hid (st.step (rdByte st.rest) = st1) := ⟨_, rfl⟩
  rw [hst.out] at i1 ⊢
  clear h bA rA hPd hPz hPn
  go_enter Tryz.func47, Tryz.ntmps47
  go_wp2_with (go_at_call 56; fail)
  go_at_call 56
  refine i1.mono ?_
  rintro e w1 ⟨rfl, g1, g2⟩
  have k1 : Keep (fun k => k = b) w w1 := (Keep.ofBelow BA.out : Keep (fun k => k = b) w _).trans (T := fun k => k = b) (Keep.ofBut g2 rfl) (fun _ _ e => e)
  have r1 := ((Keep.ofBut g2 rfl : Keep (fun k => k = b) _ w1).block w.heap.size (by omega) (by omega)).trans RA.out
  have z1 : w.heap.size < w1.heap.size := by have := (Keep.ofBut g2 rfl : Keep (fun k => k = b) _ w1).size; omega
  have b2 := (Below.refl w1.heap.size w1).alloc (Nat.le_refl _) (.cells #[.int .i64 (K : Int), .int .i64 0, .int .i64 0, .int .i64 0, .slice none 0 0, .slice none 0 0, .slice none 0 0] 26)
  have r2 := heap_alloc_new w1 (.cells #[.int .i64 (K : Int), .int .i64 0, .int .i64 0, .int .i64 0, .slice none 0 0, .slice none 0 0, .slice none 0 0] 26)
  have zz2 := size_alloc w1 (.cells #[.int .i64 (K : Int), .int .i64 0, .int .i64 0, .int .i64 0, .slice none 0 0, .slice none 0 0, .slice none 0 0] 26)
  have D0 : Hid (Dr (w1.alloc (.cells #[.int .i64 (K : Int), .int .i64 0, .int .i64 0, .int .i64 0, .slice none 0 0, .slice none 0 0, .slice none 0 0] 26)) (w1.heap.size + 1) b w1.heap.size s (Ask.of (K : Int), st1) (.slice none 0 0) (.slice none 0 0) (.slice none 0 0)) := ⟨g1.below b2, r2, by omega, by omega, by omega, nilI _, Nw.nil _ _, nilT _, Nw.nil _ _⟩
  have R2 := hid ((b2.block _ z1).trans r1)
  have K2 : Hid (Keep (fun k => k = b) w (w1.alloc (.cells #[.int .i64 (K : Int), .int .i64 0, .int .i64 0, .int .i64 0, .slice none 0 0, .slice none 0 0, .slice none 0 0] 26))) := k1.trans (T := fun _ => False) (Keep.ofBelow b2) (fun _ _ e => e.elim)
  have c0 : (w1.alloc (.cells #[.int .i64 (K : Int), .int .i64 0, .int .i64 0, .int .i64 0, .slice none 0 0, .slice none 0 0, .slice none 0 0] 26)).cell? ⟨w1.heap.size, 0, none⟩ = some (.int .i64 (K : Int)) := by rw [cell_of_row _ _ _ _ _ _ r2]; rfl
  have hz2 : w1.heap.size + 1 = (w1.alloc (.cells #[.int .i64 (K : Int), .int .i64 0, .int .i64 0, .int .i64 0, .slice none 0 0, .slice none 0 0, .slice none 0 0] 26)).heap.size := zz2.symm
  have HZ2 := hid hz2
  clear g1 g2 k1 r1 b2 r2 i1 zz2 hz2
  cases wn with
  | false =>
    go_wp2_with (go_at_call 32; refine (i2 _).mono ?_; rintro e w' ⟨rfl, hw'⟩; rw [hw']; clear hw' w')
    clear c0
    obtain ⟨W2, hW2⟩ : ∃ W2, Hid (w1.alloc (.cells #[.int .i64 (K : Int), .int .i64 0, .int .i64 0, .int .i64 0, .slice none 0 0, .slice none 0 0, .slice none 0 0] 26) = W2) := ⟨_, rfl⟩
    rw [hW2.out] at D0 R2 K2 HZ2 ⊢
    generalize w1.heap.size = d at *
    go_loopw [7] (fun i w' => ∃ k : Nat, k ≤ P.size ∧ i = .int .i64 k ∧ Hid (DPo W2 (d + 1) b d s (dFs ((flds K).take k) (Ask.of (K : Int), st1)) (.slice none 0 0) w')) (fun i _ => P.size - (intOf i).toNat)
    case atStart => exact ⟨0, by omega, rfl, hid ⟨_, _, D0.out, Keep.refl _ _⟩⟩
    case round =>
      obtain ⟨k, hk, rfl, hD⟩ := hrel
      by_cases hlt : k < P.size
      · have b0 : (k : Int) < (P.size : Int) := by omega
        obtain ⟨xb, hxb, hx2, hi1, hi2⟩ := index_any P (k : Int) k rfl hlt
        obtain ⟨vl, ve, D1, D2⟩ := hD.out
        have hsz := D2.size
        have hkl : k < (fw (K : Int)).length := by have := HPz.out; omega
        have hxe : xb = ((fw (K : Int))[k]).toNat := by
          rw [hxb.out, HPd.out, List.getD_eq_getElem?_getD, List.getElem?_eq_getElem hkl]; rfl
        rcases LC.out k hkl with ⟨hl, hc, hna⟩ | ⟨hc, hfl⟩
        · rw [hc] at hxe
          have hsn := dFs_snoc (flds K) k hl (Ask.of (K : Int), st1)
          have HS := hid hsn
          generalize dFs ((flds K).take k) (Ask.of (K : Int), st1) = p at *
          generalize (flds K)[k] = g at *
          clear hsn hc hxb hkl
          subst hxe
          have DD := hid D1
          have KK := hid D2
          have hBsz : d + 1 ≤ wr.heap.size := by have := HZ2.out; omega
          cases g with
          | a =>
            have i3 := xNum_any b s p.2 wr D1.rd
            go_wp2_with (go_at_call 84; refine i3.mono ?_; rintro e w3 ⟨rfl, g1, g2⟩; have R3 := DD.out.row2 g2; have e0 : w3.cell? ⟨d, 1, none⟩ = some (.int .i64 p.1.a) := (by rw [cell_of_row _ _ _ _ _ _ R3]; rfl); have f0 : w3.frozen? ⟨d, 1, none⟩ = false := frozen_of_row _ _ _ _ _ R3; have G1 := hid g1; have G2 := hid g2; clear g1 g2 R3)
            have HN : Hid (DPo W2 (d + 1) b d s (dFs ((flds K).take (k + 1)) (Ask.of (K : Int), st1)) (.slice none 0 0) (w3.setCell ⟨d, 1, none⟩ (.int .i64 ((p.2.val 0 (rdNum p.2.rest) : Nat) : Int)))) := by
              rw [HS.out]
              exact DPo.step KK.out (DD.out.put G2.out G1.out 1 _ rfl (DD.out.o1 G2.out) (DD.out.o2 G2.out))
            exact ⟨⟨k + 1, by omega, by go_num, HN⟩, by simp [intOf]; omega⟩
          | b =>
            have i3 := xNum_any b s p.2 wr D1.rd
            go_wp2_with (go_at_call 84; refine i3.mono ?_; rintro e w3 ⟨rfl, g1, g2⟩; have R3 := DD.out.row2 g2; have e0 : w3.cell? ⟨d, 2, none⟩ = some (.int .i64 p.1.b) := (by rw [cell_of_row _ _ _ _ _ _ R3]; rfl); have f0 : w3.frozen? ⟨d, 2, none⟩ = false := frozen_of_row _ _ _ _ _ R3; have G1 := hid g1; have G2 := hid g2; clear g1 g2 R3)
            have HN : Hid (DPo W2 (d + 1) b d s (dFs ((flds K).take (k + 1)) (Ask.of (K : Int), st1)) (.slice none 0 0) (w3.setCell ⟨d, 2, none⟩ (.int .i64 ((p.2.val 0 (rdNum p.2.rest) : Nat) : Int)))) := by
              rw [HS.out]
              exact DPo.step KK.out (DD.out.put G2.out G1.out 2 _ rfl (DD.out.o1 G2.out) (DD.out.o2 G2.out))
            exact ⟨⟨k + 1, by omega, by go_num, HN⟩, by simp [intOf]; omega⟩
          | size =>
            have i3 := xNum_any b s p.2 wr D1.rd
            go_wp2_with (go_at_call 84; refine i3.mono ?_; rintro e w3 ⟨rfl, g1, g2⟩; have R3 := DD.out.row2 g2; have e0 : w3.cell? ⟨d, 3, none⟩ = some (.int .i64 p.1.size) := (by rw [cell_of_row _ _ _ _ _ _ R3]; rfl); have f0 : w3.frozen? ⟨d, 3, none⟩ = false := frozen_of_row _ _ _ _ _ R3; have G1 := hid g1; have G2 := hid g2; clear g1 g2 R3)
            have HN : Hid (DPo W2 (d + 1) b d s (dFs ((flds K).take (k + 1)) (Ask.of (K : Int), st1)) (.slice none 0 0) (w3.setCell ⟨d, 3, none⟩ (.int .i64 ((p.2.val 0 (rdNum p.2.rest) : Nat) : Int)))) := by
              rw [HS.out]
              exact DPo.step KK.out (DD.out.put G2.out G1.out 3 _ rfl (DD.out.o1 G2.out) (DD.out.o2 G2.out))
            exact ⟨⟨k + 1, by omega, by go_num, HN⟩, by simp [intOf]; omega⟩
          | indices =>
            have i3 := xRising_any b s p.2 256 wr D1.rd
            go_wp2_with (go_at_call 85; fail)
            go_at_call 85
            refine i3.mono ?_
            rintro e w3 ⟨v, rfl, g0, g1, g2⟩
            have R3 := DD.out.row2 g2
            have e0 : w3.cell? ⟨d, 4, none⟩ = some vl := by rw [cell_of_row _ _ _ _ _ _ R3]; rfl
            have f0 : w3.frozen? ⟨d, 4, none⟩ = false := frozen_of_row _ _ _ _ _ R3
            have hs := own_slcI g0
            have hn := (nw_of g0).mono (lo' := d + 1) (hi' := w3.heap.size) hBsz (Nat.le_refl _)
            obtain ⟨v1, v2, hv, _⟩ := id hs
            subst hv
            have HSs := hid hs
            have HNn := hid hn
            have G1 := hid g1
            have G2 := hid g2
            clear g0 g1 g2 R3 hs hn
            go_wp2
            have HN : Hid (DPo W2 (d + 1) b d s (dFs ((flds K).take (k + 1)) (Ask.of (K : Int), st1)) (.slice none 0 0) (w3.setCell ⟨d, 4, none⟩ (.slice v1 (ints (p.2.val [] (rdRising p.2.rest 256))).length v2))) := by
              rw [HS.out]
              exact DPo.step KK.out (DD.out.put G2.out G1.out 4 _ rfl ⟨HSs.out, HNn.out⟩ (DD.out.o2 G2.out))
            exact ⟨⟨k + 1, by omega, by go_num, HN⟩, by simp [intOf]; omega⟩
          | heads =>
            have i3 := xRising_any b s p.2 64 wr D1.rd
            go_wp2_with (go_at_call 85; fail)
            go_at_call 85
            refine i3.mono ?_
            rintro e w3 ⟨v, rfl, g0, g1, g2⟩
            have R3 := DD.out.row2 g2
            have e0 : w3.cell? ⟨d, 4, none⟩ = some vl := by rw [cell_of_row _ _ _ _ _ _ R3]; rfl
            have f0 : w3.frozen? ⟨d, 4, none⟩ = false := frozen_of_row _ _ _ _ _ R3
            have hs := own_slcI g0
            have hn := (nw_of g0).mono (lo' := d + 1) (hi' := w3.heap.size) hBsz (Nat.le_refl _)
            obtain ⟨v1, v2, hv, _⟩ := id hs
            subst hv
            have HSs := hid hs
            have HNn := hid hn
            have G1 := hid g1
            have G2 := hid g2
            clear g0 g1 g2 R3 hs hn
            go_wp2
            have HN : Hid (DPo W2 (d + 1) b d s (dFs ((flds K).take (k + 1)) (Ask.of (K : Int), st1)) (.slice none 0 0) (w3.setCell ⟨d, 4, none⟩ (.slice v1 (ints (p.2.val [] (rdRising p.2.rest 64))).length v2))) := by
              rw [HS.out]
              exact DPo.step KK.out (DD.out.put G2.out G1.out 4 _ rfl ⟨HSs.out, HNn.out⟩ (DD.out.o2 G2.out))
            exact ⟨⟨k + 1, by omega, by go_num, HN⟩, by simp [intOf]; omega⟩
          | entries =>
            have i3 := xTexts_any b s p.2 32 4096 wr D1.rd
            go_wp2_with (go_at_call 83; fail)
            go_at_call 83
            refine i3.mono ?_
            rintro e w3 ⟨v, rfl, g0, g1, g2⟩
            have R3 := DD.out.row2 g2
            have e0 : w3.cell? ⟨d, 5, none⟩ = some ve := by rw [cell_of_row _ _ _ _ _ _ R3]; rfl
            have f0 : w3.frozen? ⟨d, 5, none⟩ = false := frozen_of_row _ _ _ _ _ R3
            have hs := own_slc g0
            have hn := (nw_of g0).mono (lo' := d + 1) (hi' := w3.heap.size) hBsz (Nat.le_refl _)
            obtain ⟨v1, v2, hv, _⟩ := id hs
            subst hv
            have HSs := hid hs
            have HNn := hid hn
            have G1 := hid g1
            have G2 := hid g2
            clear g0 g1 g2 R3 hs hn
            go_wp2
            have HN : Hid (DPo W2 (d + 1) b d s (dFs ((flds K).take (k + 1)) (Ask.of (K : Int), st1)) (.slice none 0 0) (w3.setCell ⟨d, 5, none⟩ (.slice v1 (p.2.val [] (rdTexts p.2.rest 32 4096)).length v2))) := by
              rw [HS.out]
              exact DPo.step KK.out (DD.out.put G2.out G1.out 5 _ rfl (DD.out.o1 G2.out) ⟨HSs.out, HNn.out⟩)
            exact ⟨⟨k + 1, by omega, by go_num, HN⟩, by simp [intOf]; omega⟩
          | asks => exact absurd rfl hna
        · rw [hc] at hxe
          subst hxe
          have HN : Hid (DPo W2 (d + 1) b d s (dFs ((flds K).take (k + 1)) (Ask.of (K : Int), st1)) (.slice none 0 0) wr) := by
            have := hD.out
            rw [hfl] at this ⊢
            rw [List.take_nil] at this ⊢
            exact this
          clear hc hxb hkl D1 D2
          go_wp2
          exact ⟨⟨k + 1, by omega, by go_num, HN⟩, by simp [intOf]; omega⟩
      · have b0 : ¬ (k : Int) < (P.size : Int) := by omega
        obtain rfl : k = P.size := by omega
        have hfl : (flds K).take P.size = flds K := List.take_of_length_le (by rw [HPz.out]; exact flds_le K)
        obtain ⟨vl, ve, D1, D2⟩ := hD.out
        rw [hfl] at D1
        have hn0 := dFs_n (flds K) (Ask.of (K : Int), st1)
        generalize dFs (flds K) (Ask.of (K : Int), st1) = p at *
        obtain ⟨p1, n1, e1, _⟩ := id D1.s1
        obtain ⟨p2, n2, e2, _⟩ := id D1.s2
        subst e1 e2
        obtain ⟨d0, d1, d2, d3, d4, d5, d6⟩ := rq_cells D1.row
        have hsz := D2.size
        have R3 := hid ((D2.block w.heap.size (by have := HZ2.out; omega) (by omega)).trans R2.out)
        have DD := hid D1
        have KK := hid D2
        have HN0 := hid hn0
        clear D1 D2 hfl hn0 hD
        go_wp2_with ((with_reducible show wpList _ _ _ (Oper.mk _ (Op.store 26 _ _) _ _ _ _ :: _) _ _); go_must (refine wpList_store_row rfl 26 _ _ rfl w.heap.size _ rfl rfl 26 _ R3.out (sizeRq' _ _ _ _ _ _ _) rfl (oneRq _ _ _ _ _ _ _ _ _ _ _ _ _) ?_))
        refine bodyPost_ret (results_cell_row rfl _ _ w.heap.size 26 _ (0, 0) _ rfl (setRow_heap _ _ _ _ _ _ R3.out) Tryz.underlying26 rfl sizeRq) rfl ?_
        generalize hcs : #[Value.int .i64 p.1.kind, .int .i64 p.1.a, .int .i64 p.1.b, .int .i64 p.1.size, .slice p1 p.1.list.length n1, .slice p2 p.1.ent.length n2, .slice none 0 0] = cs
        have k1 : Keep (fun k => k = w.heap.size) wr (wr.setRow w.heap.size cs) := ⟨rfl, rfl, rfl, by rw [setRow_size]; exact Nat.le_refl _, fun k _ hk => setRow_other wr _ k _ hk⟩
        have hS : ∀ k, d + 1 ≤ k → k < wr.heap.size → ¬ k = w.heap.size := fun k k1 _ e => by omega
        have hle : wr.heap.size ≤ (wr.setRow w.heap.size cs).heap.size := k1.size
        refine ⟨.slice p1 p.1.list.length n1, .slice p2 p.1.ent.length n2, by rw [akV, hcs], DD.out.n1.slcI DD.out.s1 k1 hS, DD.out.n1.mono (by omega) hle, DD.out.n2.slc DD.out.s2 k1 hS, DD.out.n2.mono (by omega) hle, HN0.out, DD.out.rd.keep k1 (by omega), ?_⟩
        refine (K2.out.trans KK.out fun j hj e => ?_).trans k1 fun j hj e => ?_
        · rcases e with e | e
          · exact e
          · omega
        · omega
  | true =>
    go_wp2_with (go_at_call 32; refine (i2 _).mono ?_; rintro e w' ⟨rfl, hw'⟩; rw [hw']; clear hw' w')
    clear c0
    obtain ⟨W2, hW2⟩ : ∃ W2, Hid (w1.alloc (.cells #[.int .i64 (K : Int), .int .i64 0, .int .i64 0, .int .i64 0, .slice none 0 0, .slice none 0 0, .slice none 0 0] 26) = W2) := ⟨_, rfl⟩
    rw [hW2.out] at D0 R2 K2 HZ2 ⊢
    generalize w1.heap.size = d at *
    go_loopw [7] (fun i w' => ∃ k : Nat, k ≤ P.size ∧ i = .int .i64 k ∧ Hid (DPo W2 (d + 1) b d s (dFs ((flds K).take k) (Ask.of (K : Int), st1)) (.slice none 0 0) w')) (fun i _ => P.size - (intOf i).toNat)
    case atStart => exact ⟨0, by omega, rfl, hid ⟨_, _, D0.out, Keep.refl _ _⟩⟩
    case round =>
      obtain ⟨k, hk, rfl, hD⟩ := hrel
      by_cases hlt : k < P.size
      · have b0 : (k : Int) < (P.size : Int) := by omega
        obtain ⟨xb, hxb, hx2, hi1, hi2⟩ := index_any P (k : Int) k rfl hlt
        obtain ⟨vl, ve, D1, D2⟩ := hD.out
        have hsz := D2.size
        have hkl : k < (fw (K : Int)).length := by have := HPz.out; omega
        have hxe : xb = ((fw (K : Int))[k]).toNat := by
          rw [hxb.out, HPd.out, List.getD_eq_getElem?_getD, List.getElem?_eq_getElem hkl]; rfl
        rcases LC.out k hkl with ⟨hl, hc, hna⟩ | ⟨hc, hfl⟩
        · rw [hc] at hxe
          have hsn := dFs_snoc (flds K) k hl (Ask.of (K : Int), st1)
          have HS := hid hsn
          generalize dFs ((flds K).take k) (Ask.of (K : Int), st1) = p at *
          generalize (flds K)[k] = g at *
          clear hsn hc hxb hkl
          subst hxe
          have DD := hid D1
          have KK := hid D2
          have hBsz : d + 1 ≤ wr.heap.size := by have := HZ2.out; omega
          cases g with
          | a =>
            have i3 := xNum_any b s p.2 wr D1.rd
            go_wp2_with (go_at_call 84; refine i3.mono ?_; rintro e w3 ⟨rfl, g1, g2⟩; have R3 := DD.out.row2 g2; have e0 : w3.cell? ⟨d, 1, none⟩ = some (.int .i64 p.1.a) := (by rw [cell_of_row _ _ _ _ _ _ R3]; rfl); have f0 : w3.frozen? ⟨d, 1, none⟩ = false := frozen_of_row _ _ _ _ _ R3; have G1 := hid g1; have G2 := hid g2; clear g1 g2 R3)
            have HN : Hid (DPo W2 (d + 1) b d s (dFs ((flds K).take (k + 1)) (Ask.of (K : Int), st1)) (.slice none 0 0) (w3.setCell ⟨d, 1, none⟩ (.int .i64 ((p.2.val 0 (rdNum p.2.rest) : Nat) : Int)))) := by
              rw [HS.out]
              exact DPo.step KK.out (DD.out.put G2.out G1.out 1 _ rfl (DD.out.o1 G2.out) (DD.out.o2 G2.out))
            exact ⟨⟨k + 1, by omega, by go_num, HN⟩, by simp [intOf]; omega⟩
          | b =>
            have i3 := xNum_any b s p.2 wr D1.rd
            go_wp2_with (go_at_call 84; refine i3.mono ?_; rintro e w3 ⟨rfl, g1, g2⟩; have R3 := DD.out.row2 g2; have e0 : w3.cell? ⟨d, 2, none⟩ = some (.int .i64 p.1.b) := (by rw [cell_of_row _ _ _ _ _ _ R3]; rfl); have f0 : w3.frozen? ⟨d, 2, none⟩ = false := frozen_of_row _ _ _ _ _ R3; have G1 := hid g1; have G2 := hid g2; clear g1 g2 R3)
            have HN : Hid (DPo W2 (d + 1) b d s (dFs ((flds K).take (k + 1)) (Ask.of (K : Int), st1)) (.slice none 0 0) (w3.setCell ⟨d, 2, none⟩ (.int .i64 ((p.2.val 0 (rdNum p.2.rest) : Nat) : Int)))) := by
              rw [HS.out]
              exact DPo.step KK.out (DD.out.put G2.out G1.out 2 _ rfl (DD.out.o1 G2.out) (DD.out.o2 G2.out))
            exact ⟨⟨k + 1, by omega, by go_num, HN⟩, by simp [intOf]; omega⟩
          | size =>
            have i3 := xNum_any b s p.2 wr D1.rd
            go_wp2_with (go_at_call 84; refine i3.mono ?_; rintro e w3 ⟨rfl, g1, g2⟩; have R3 := DD.out.row2 g2; have e0 : w3.cell? ⟨d, 3, none⟩ = some (.int .i64 p.1.size) := (by rw [cell_of_row _ _ _ _ _ _ R3]; rfl); have f0 : w3.frozen? ⟨d, 3, none⟩ = false := frozen_of_row _ _ _ _ _ R3; have G1 := hid g1; have G2 := hid g2; clear g1 g2 R3)
            have HN : Hid (DPo W2 (d + 1) b d s (dFs ((flds K).take (k + 1)) (Ask.of (K : Int), st1)) (.slice none 0 0) (w3.setCell ⟨d, 3, none⟩ (.int .i64 ((p.2.val 0 (rdNum p.2.rest) : Nat) : Int)))) := by
              rw [HS.out]
              exact DPo.step KK.out (DD.out.put G2.out G1.out 3 _ rfl (DD.out.o1 G2.out) (DD.out.o2 G2.out))
            exact ⟨⟨k + 1, by omega, by go_num, HN⟩, by simp [intOf]; omega⟩
          | indices =>
            have i3 := xRising_any b s p.2 256 wr D1.rd
            go_wp2_with (go_at_call 85; fail)
            go_at_call 85
            refine i3.mono ?_
            rintro e w3 ⟨v, rfl, g0, g1, g2⟩
            have R3 := DD.out.row2 g2
            have e0 : w3.cell? ⟨d, 4, none⟩ = some vl := by rw [cell_of_row _ _ _ _ _ _ R3]; rfl
            have f0 : w3.frozen? ⟨d, 4, none⟩ = false := frozen_of_row _ _ _ _ _ R3
            have hs := own_slcI g0
            have hn := (nw_of g0).mono (lo' := d + 1) (hi' := w3.heap.size) hBsz (Nat.le_refl _)
            obtain ⟨v1, v2, hv, _⟩ := id hs
            subst hv
            have HSs := hid hs
            have HNn := hid hn
            have G1 := hid g1
            have G2 := hid g2
            clear g0 g1 g2 R3 hs hn
            go_wp2
            have HN : Hid (DPo W2 (d + 1) b d s (dFs ((flds K).take (k + 1)) (Ask.of (K : Int), st1)) (.slice none 0 0) (w3.setCell ⟨d, 4, none⟩ (.slice v1 (ints (p.2.val [] (rdRising p.2.rest 256))).length v2))) := by
              rw [HS.out]
              exact DPo.step KK.out (DD.out.put G2.out G1.out 4 _ rfl ⟨HSs.out, HNn.out⟩ (DD.out.o2 G2.out))
            exact ⟨⟨k + 1, by omega, by go_num, HN⟩, by simp [intOf]; omega⟩
          | heads =>
            have i3 := xRising_any b s p.2 64 wr D1.rd
            go_wp2_with (go_at_call 85; fail)
            go_at_call 85
            refine i3.mono ?_
            rintro e w3 ⟨v, rfl, g0, g1, g2⟩
            have R3 := DD.out.row2 g2
            have e0 : w3.cell? ⟨d, 4, none⟩ = some vl := by rw [cell_of_row _ _ _ _ _ _ R3]; rfl
            have f0 : w3.frozen? ⟨d, 4, none⟩ = false := frozen_of_row _ _ _ _ _ R3
            have hs := own_slcI g0
            have hn := (nw_of g0).mono (lo' := d + 1) (hi' := w3.heap.size) hBsz (Nat.le_refl _)
            obtain ⟨v1, v2, hv, _⟩ := id hs
            subst hv
            have HSs := hid hs
            have HNn := hid hn
            have G1 := hid g1
            have G2 := hid g2
            clear g0 g1 g2 R3 hs hn
            go_wp2
            have HN : Hid (DPo W2 (d + 1) b d s (dFs ((flds K).take (k + 1)) (Ask.of (K : Int), st1)) (.slice none 0 0) (w3.setCell ⟨d, 4, none⟩ (.slice v1 (ints (p.2.val [] (rdRising p.2.rest 64))).length v2))) := by
              rw [HS.out]
              exact DPo.step KK.out (DD.out.put G2.out G1.out 4 _ rfl ⟨HSs.out, HNn.out⟩ (DD.out.o2 G2.out))
            exact ⟨⟨k + 1, by omega, by go_num, HN⟩, by simp [intOf]; omega⟩
          | entries =>
            have i3 := xTexts_any b s p.2 32 4096 wr D1.rd
            go_wp2_with (go_at_call 83; fail)
            go_at_call 83
            refine i3.mono ?_
            rintro e w3 ⟨v, rfl, g0, g1, g2⟩
            have R3 := DD.out.row2 g2
            have e0 : w3.cell? ⟨d, 5, none⟩ = some ve := by rw [cell_of_row _ _ _ _ _ _ R3]; rfl
            have f0 : w3.frozen? ⟨d, 5, none⟩ = false := frozen_of_row _ _ _ _ _ R3
            have hs := own_slc g0
            have hn := (nw_of g0).mono (lo' := d + 1) (hi' := w3.heap.size) hBsz (Nat.le_refl _)
            obtain ⟨v1, v2, hv, _⟩ := id hs
            subst hv
            have HSs := hid hs
            have HNn := hid hn
            have G1 := hid g1
            have G2 := hid g2
            clear g0 g1 g2 R3 hs hn
            go_wp2
            have HN : Hid (DPo W2 (d + 1) b d s (dFs ((flds K).take (k + 1)) (Ask.of (K : Int), st1)) (.slice none 0 0) (w3.setCell ⟨d, 5, none⟩ (.slice v1 (p.2.val [] (rdTexts p.2.rest 32 4096)).length v2))) := by
              rw [HS.out]
              exact DPo.step KK.out (DD.out.put G2.out G1.out 5 _ rfl (DD.out.o1 G2.out) ⟨HSs.out, HNn.out⟩)
            exact ⟨⟨k + 1, by omega, by go_num, HN⟩, by simp [intOf]; omega⟩
          | asks => exact absurd rfl hna
        · rw [hc] at hxe
          subst hxe
          have HN : Hid (DPo W2 (d + 1) b d s (dFs ((flds K).take (k + 1)) (Ask.of (K : Int), st1)) (.slice none 0 0) wr) := by
            have := hD.out
            rw [hfl] at this ⊢
            rw [List.take_nil] at this ⊢
            exact this
          clear hc hxb hkl D1 D2
          go_wp2
          exact ⟨⟨k + 1, by omega, by go_num, HN⟩, by simp [intOf]; omega⟩
      · have b0 : ¬ (k : Int) < (P.size : Int) := by omega
        obtain rfl : k = P.size := by omega
        have hfl : (flds K).take P.size = flds K := List.take_of_length_le (by rw [HPz.out]; exact flds_le K)
        obtain ⟨vl, ve, D1, D2⟩ := hD.out
        rw [hfl] at D1
        have hn0 := dFs_n (flds K) (Ask.of (K : Int), st1)
        generalize dFs (flds K) (Ask.of (K : Int), st1) = p at *
        obtain ⟨p1, n1, e1, _⟩ := id D1.s1
        obtain ⟨p2, n2, e2, _⟩ := id D1.s2
        subst e1 e2
        obtain ⟨d0, d1, d2, d3, d4, d5, d6⟩ := rq_cells D1.row
        have hsz := D2.size
        have R3 := hid ((D2.block w.heap.size (by have := HZ2.out; omega) (by omega)).trans R2.out)
        have DD := hid D1
        have KK := hid D2
        have HN0 := hid hn0
        clear D1 D2 hfl hn0 hD
        go_wp2_with ((with_reducible show wpList _ _ _ (Oper.mk _ (Op.store 26 _ _) _ _ _ _ :: _) _ _); go_must (refine wpList_store_row rfl 26 _ _ rfl w.heap.size _ rfl rfl 26 _ R3.out (sizeRq' _ _ _ _ _ _ _) rfl (oneRq _ _ _ _ _ _ _ _ _ _ _ _ _) ?_))
        refine bodyPost_ret (results_cell_row rfl _ _ w.heap.size 26 _ (0, 0) _ rfl (setRow_heap _ _ _ _ _ _ R3.out) Tryz.underlying26 rfl sizeRq) rfl ?_
        generalize hcs : #[Value.int .i64 p.1.kind, .int .i64 p.1.a, .int .i64 p.1.b, .int .i64 p.1.size, .slice p1 p.1.list.length n1, .slice p2 p.1.ent.length n2, .slice none 0 0] = cs
        have k1 : Keep (fun k => k = w.heap.size) wr (wr.setRow w.heap.size cs) := ⟨rfl, rfl, rfl, by rw [setRow_size]; exact Nat.le_refl _, fun k _ hk => setRow_other wr _ k _ hk⟩
        have hS : ∀ k, d + 1 ≤ k → k < wr.heap.size → ¬ k = w.heap.size := fun k k1 _ e => by omega
        have hle : wr.heap.size ≤ (wr.setRow w.heap.size cs).heap.size := k1.size
        refine ⟨.slice p1 p.1.list.length n1, .slice p2 p.1.ent.length n2, by rw [akV, hcs], DD.out.n1.slcI DD.out.s1 k1 hS, DD.out.n1.mono (by omega) hle, DD.out.n2.slc DD.out.s2 k1 hS, DD.out.n2.mono (by omega) hle, HN0.out, DD.out.rd.keep k1 (by omega), ?_⟩
        refine (K2.out.trans KK.out fun j hj e => ?_).trans k1 fun j hj e => ?_
        · rcases e with e | e
          · exact e
          · omega
        · omega
end Msg
end Go.Proofs.YtmhgdcfmfcjagaaGreatDoor
