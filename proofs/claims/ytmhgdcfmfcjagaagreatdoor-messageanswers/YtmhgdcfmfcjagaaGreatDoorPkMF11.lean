import Derived.Test.YtmhgdcfmfcjagaaGreatDoorPkMV8
import Derived.Test.YtmhgdcfmfcjagaaGreatDoorPkMU4
import Derived.Test.YtmhgdcfmfcjagaaGreatDoorPkMF2b
namespace Go.Proofs.YtmhgdcfmfcjagaaGreatDoor
open Go.RowKit Cod
namespace Msg
def dManyP : Nat → List Part → RS → List Part × RS
  | 0, l, st => (l, st)
  | n + 1, l, st => dManyP n (l ++ [(dPrt st).1]) (dPrt st).2
theorem dPrt_n (st : RS) : (dPrt st).1.n = 0 := by
  rw [dPrt]
  split
  · split <;> rfl
  · rfl
structure Mp (W wr : World) (b d : Nat) (s : ByteArray) (N : Nat) (R : List Part × RS) (va : Value) (j : Nat) (E : List Ep) (st : RS) : Prop where
  rd : XRd wr b s st
  row : wr.heap[d]? = some (.cells #[.int .i64 0, .int .i64 0, .int .i64 0, .int .i64 0, .string ⟨#[]⟩, .slice none 0 0, .slice none 0 0, va] 45 (0, 0))
  gl : Hl wr (d + 1) va E
  ln : E.length = j
  n0 : ∀ m ∈ E, m.x.n = 0
  eq : dManyP (N - j) (E.map (·.x)) st = R
  kp : Keep (fun k => k = b ∨ k = d) W wr
def GPp (w : World) (b : Nat) (s : ByteArray) (p : List Part × RS) (e : Ending) (w' : World) : Prop :=
  ∃ va, e = .returned (rpV ⟨0, 0, 0, 0, [], [], [], p.1.length⟩ (.slice none 0 0) (.slice none 0 0) va) ∧ Ps w' w.heap.size w'.heap.size va p.1 ∧ (∀ y ∈ p.1, y.n = 0) ∧ XRd w' b s p.2 ∧ Keep (fun k => k = b) w w'
theorem Ps.lower {w : World} {lo lo' hi : Nat} {u : Value} {l : List Part} (h : Ps w lo hi u l) (hb : lo' ≤ lo) : Ps w lo' hi u l := h.mono hb (Nat.le_refl _)
set_option maxRecDepth 100000 in
set_option maxHeartbeats 8000000 in
theorem takeReply17_group {w : World} {b : Nat} {s : ByteArray} {st : RS} (h : XRd w b s st) (hS : st.val 0 (rdByte st.rest) = 0) :
    Calls Tryz.prog 57 #[.pointer (some ⟨b, 0, none⟩), .int .i64 12] w (GPp w b s (dManyP (min ((st.step (rdByte st.rest)).val 0 (rdNum (st.step (rdByte st.rest)).rest)) 65) [] ((st.step (rdByte st.rest)).step (rdNum (st.step (rdByte st.rest)).rest)))) := by
  have hbl := h.lt
  have bA := (Below.refl w.heap.size w).alloc (Nat.le_refl _) (.cells #[.int .i64 0, .int .i64 0, .int .i64 0, .int .i64 0, .string ⟨#[]⟩, .slice none 0 0, .slice none 0 0, .slice none 0 0] 45)
  have rA := heap_alloc_new w (.cells #[.int .i64 0, .int .i64 0, .int .i64 0, .int .i64 0, .string ⟨#[]⟩, .slice none 0 0, .slice none 0 0, .slice none 0 0] 45)
  have zA := size_alloc w (.cells #[.int .i64 0, .int .i64 0, .int .i64 0, .int .i64 0, .string ⟨#[]⟩, .slice none 0 0, .slice none 0 0, .slice none 0 0] 45)
  have i1 := xByte_any b s st _ (h.below bA)
  have BA := hid bA
  have RA := hid rA
  obtain ⟨st1, hst⟩ : ∃ st1, Hid (st.step (rdByte st.rest) = st1) := ⟨_, rfl⟩
  rw [hS, hst.out, show ((0 : Nat) : Int) = 0 from rfl] at i1
  rw [hst.out]
  have i2 := fun w => told17_any 12 w
  rw [show sv (tw 12) = .string ⟨#[103]⟩ from rfl] at i2
  obtain ⟨n, hn⟩ : ∃ n, Hid (st1.val 0 (rdNum st1.rest) = n) := ⟨_, rfl⟩
  obtain ⟨st2, hst2⟩ : ∃ st2, Hid (st1.step (rdNum st1.rest) = st2) := ⟨_, rfl⟩
  rw [hn.out, hst2.out]
  obtain ⟨N, hN⟩ : ∃ N, min n 65 = N := ⟨_, rfl⟩
  rw [hN]
  obtain ⟨R, hR⟩ : ∃ R, Hid (dManyP N [] st2 = R) := ⟨_, rfl⟩
  rw [hR.out]
  clear h bA rA hS
  go_enter Tryz.func57, Tryz.ntmps57
  go_wp2_with (go_at_call 56; fail)
  go_at_call 56
  refine i1.mono ?_
  rintro e w1 ⟨rfl, g1, g2⟩
  have k1 : Keep (fun k => k = b) w w1 := (Keep.ofBelow BA.out : Keep (fun k => k = b) w _).trans (T := fun k => k = b) (Keep.ofBut g2 rfl) (fun _ _ e => e)
  have r1 := ((Keep.ofBut g2 rfl : Keep (fun k => k = b) _ w1).block w.heap.size (by omega) (by omega)).trans RA.out
  have z1 : w.heap.size < w1.heap.size := by have := (Keep.ofBut g2 rfl : Keep (fun k => k = b) _ w1).size; omega
  have b2 := (Below.refl w1.heap.size w1).alloc (Nat.le_refl _) (.cells #[.int .i64 0, .int .i64 0, .int .i64 0, .int .i64 0, .string ⟨#[]⟩, .slice none 0 0, .slice none 0 0, .slice none 0 0] 45)
  have r2 := heap_alloc_new w1 (.cells #[.int .i64 0, .int .i64 0, .int .i64 0, .int .i64 0, .string ⟨#[]⟩, .slice none 0 0, .slice none 0 0, .slice none 0 0] 45)
  have zz2 := size_alloc w1 (.cells #[.int .i64 0, .int .i64 0, .int .i64 0, .int .i64 0, .string ⟨#[]⟩, .slice none 0 0, .slice none 0 0, .slice none 0 0] 45)
  have D0 : Hid (Dq (w1.alloc (.cells #[.int .i64 0, .int .i64 0, .int .i64 0, .int .i64 0, .string ⟨#[]⟩, .slice none 0 0, .slice none 0 0, .slice none 0 0] 45)) (w1.heap.size + 1) b w1.heap.size s (Part.of 0, st1) (.slice none 0 0) (.slice none 0 0) (.slice none 0 0)) := ⟨g1.below b2, r2, by omega, by omega, by omega, nilT _, Nw.nil _ _, nilT _, Nw.nil _ _⟩
  have R2 := hid ((b2.block _ z1).trans r1)
  have K2 : Hid (Keep (fun k => k = b) w (w1.alloc (.cells #[.int .i64 0, .int .i64 0, .int .i64 0, .int .i64 0, .string ⟨#[]⟩, .slice none 0 0, .slice none 0 0, .slice none 0 0] 45))) := k1.trans (T := fun _ => False) (Keep.ofBelow b2) (fun _ _ e => e.elim)
  obtain ⟨c0, c1, c2, c3, c4, c5, c6, c7⟩ := rp_cells (x := Part.of (0)) (P := ⟨#[]⟩) r2
  simp only [Part.of] at c0 c1 c2 c3
  have HZ2 := hid zz2
  clear g1 g2 k1 r1 b2 r2 i1 zz2
  go_wp2_with (go_at_call 42; refine (i2 _).mono ?_; rintro e w' ⟨rfl, hw'⟩; rw [hw']; clear hw' w')
  clear c0 c1 c2 c3 c4 c5 c6 c7
  obtain ⟨W2, hW2⟩ : ∃ W2, Hid (w1.alloc (.cells #[.int .i64 0, .int .i64 0, .int .i64 0, .int .i64 0, .string ⟨#[]⟩, .slice none 0 0, .slice none 0 0, .slice none 0 0] 45) = W2) := ⟨_, rfl⟩
  rw [hW2.out] at D0 R2 K2 HZ2 ⊢
  generalize w1.heap.size = d at *
  have hz2 := HZ2.out
  go_loopw [7] (fun i w' => ∃ k : Nat, i = .int .i64 k ∧ ((k = 0 ∧ W2 = w') ∨ (k = 1 ∧ ∃ va E, Hid (Mp W2 w' b d s N R va N E R.2)))) (fun i _ => 1 - (intOf i).toNat)
  case atStart => exact ⟨0, rfl, .inl ⟨rfl, rfl⟩⟩
  case round =>
    obtain ⟨k, rfl, ⟨rfl, rfl⟩ | ⟨rfl, va, E, hM⟩⟩ := hrel
    · have i3 := xNum_any b s st1 W2 D0.out.rd
      rw [hn.out, hst2.out] at i3
      have d0 : W2.cell? ⟨d, 0, none⟩ = some (.int .i64 0) := by rw [cell_of_row _ _ _ _ _ _ D0.out.row]; rfl
      go_wp2_with (go_at_call 84; refine i3.mono ?_; rintro e w3 ⟨rfl, g1, g2⟩; have G3 := hid g1; have B3 := hid g2; clear g1 g2)
      have kb : Keep (fun k => k = b) W2 w3 := Keep.ofBut B3.out rfl
      have M0 : Hid (Mp W2 w3 b d s N R (.slice none 0 0) 0 [] st2) := ⟨G3.out, (kb.block d (by omega) (by omega)).trans D0.out.row, Hl.nil _ _, rfl, fun m hm => (by cases hm), hR.out, kb.mono (T := fun k => k = b ∨ k = d) fun _ _ e => .inl e⟩
      clear i3 kb d0
      go_loopw [9] (fun i w' => ∃ (j : Nat) (E : List Ep) (st' : RS) (va : Value), j ≤ N ∧ i = .int .i64 j ∧ Hid (Mp W2 w' b d s N R va j E st')) (fun i _ => N - (intOf i).toNat)
      case atStart => exact ⟨0, [], st2, _, by omega, rfl, M0⟩
      case round =>
        obtain ⟨j, E, st', va, hj, rfl, hM⟩ := hrel
        obtain ⟨pa, pc, hva, _⟩ := hM.out.gl.own.shape
        subst hva
        by_cases hlt : j < N
        · have b0 : (j : Int) < (n : Int) := by omega
          have b1 : (j : Int) ≤ 64 := by omega
          have i4 := takePart17_any hM.out.rd
          go_wp2_with (go_at_call 91; fail)
          go_at_call 91
          refine i4.mono ?_
          rintro e w4 ⟨vl, ve, rfl, g1, g2, g3, g4, g5, g6, g7⟩
          have hsn := hM.out.eq
          rw [show N - j = (N - (j + 1)) + 1 from by omega, dManyP] at hsn
          obtain ⟨x, hx⟩ : ∃ x, (dPrt st').1 = x := ⟨_, rfl⟩
          obtain ⟨st3, hst3⟩ : ∃ st3, (dPrt st').2 = st3 := ⟨_, rfl⟩
          rw [hx] at g1 g3 g5 hsn ⊢
          rw [hst3] at g6 hsn
          obtain ⟨p1, q1, e1, _⟩ := id g1
          obtain ⟨p2, q2, e2, _⟩ := id g3
          subst e1 e2
          rw [rpV]
          obtain ⟨PX, hPX⟩ := pstr x.root
          rw [hPX.out.1]
          have b5 := (Below.refl w4.heap.size w4).alloc (Nat.le_refl _) (.cells #[.int .i64 x.status, .int .i64 x.size, .int .i64 x.a, .int .i64 x.b, .string PX, .slice p1 x.hs.length q1, .slice p2 x.ent.length q2, .slice none 0 0] 45)
          have r5 := heap_alloc_new w4 (.cells #[.int .i64 x.status, .int .i64 x.size, .int .i64 x.a, .int .i64 x.b, .string PX, .slice p1 x.hs.length q1, .slice p2 x.ent.length q2, .slice none 0 0] 45)
          have z5 := size_alloc w4 (.cells #[.int .i64 x.status, .int .i64 x.size, .int .i64 x.a, .int .i64 x.b, .string PX, .slice p1 x.hs.length q1, .slice p2 x.ent.length q2, .slice none 0 0] 45)
          have hdl := lt_of_heap hM.out.row
          have hbw := hM.out.rd.lt
          have k5 : Keep (fun k => k = b) wr (w4.alloc (.cells #[.int .i64 x.status, .int .i64 x.size, .int .i64 x.a, .int .i64 x.b, .string PX, .slice p1 x.hs.length q1, .slice p2 x.ent.length q2, .slice none 0 0] 45)) := g7.trans (T := fun _ => False) (Keep.ofBelow b5) (fun _ _ e => e.elim)
          have hGl := hM.out.gl.keep k5 (fun k hk _ e => by omega)
          have hvl := hM.out.gl.own.lt
          have hvg := hM.out.gl.ge
          have hln := hM.out.ln
          have hs4 := g7.size
          have nn1 : Nw wr.heap.size (w4.alloc (.cells #[.int .i64 x.status, .int .i64 x.size, .int .i64 x.a, .int .i64 x.b, .string PX, .slice p1 x.hs.length q1, .slice p2 x.ent.length q2, .slice none 0 0] 45)).heap.size (.slice p1 x.hs.length q1) := g2.mono (Nat.le_refl _) (by omega)
          have nn2 : Nw wr.heap.size (w4.alloc (.cells #[.int .i64 x.status, .int .i64 x.size, .int .i64 x.a, .int .i64 x.b, .string PX, .slice p1 x.hs.length q1, .slice p2 x.ent.length q2, .slice none 0 0] 45)).heap.size (.slice p2 x.ent.length q2) := g4.mono (Nat.le_refl _) (by omega)
          have ss1 := g1.below b5 (Nat.le_refl _)
          have ss2 := g3.below b5 (Nat.le_refl _)
          have ap : ∀ u hi', Nw wr.heap.size hi' u → Apart u (OwnS (.slice pa E.length pc)) := fun u hi' hn y m cc e _ hk => by
            have := hvl _ hk
            have := (hn y m cc e).1
            omega
          obtain ⟨v', w6, t1, t2, t3⟩ := hGl.push (by omega) (by omega) ⟨x, .slice p1 x.hs.length q1, .slice p2 x.ent.length q2, .slice none 0 0⟩ ⟨ss1, ss2, ⟨none, 0, by rw [g5]⟩, nn1.mono (by omega) (Nat.le_refl _), nn2.mono (by omega) (Nat.le_refl _)⟩ (ap _ _ nn1) (ap _ _ nn2)
          obtain ⟨pa', pc', hv', _⟩ := t2.own.shape
          obtain ⟨nl, hnl⟩ : ∃ nl, (E ++ [(⟨x, .slice p1 x.hs.length q1, .slice p2 x.ent.length q2, .slice none 0 0⟩ : Ep)]).length = nl := ⟨_, rfl⟩
          rw [hnl] at hv'
          subst hv'
          clear hnl
          rw [z5] at t1
          have t1 : (Builtin.append_ #[43, 43] 43 #[.slice pa E.length pc, .slice (some ⟨w4.heap.size + 1, 0, none⟩) 1 1]).run Tryz.prog ((w4.alloc (.cells #[.int .i64 x.status, .int .i64 x.size, .int .i64 x.a, .int .i64 x.b, .string PX, .slice p1 x.hs.length q1, .slice p2 x.ent.length q2, .slice none 0 0] 45)).alloc (.cells #[.int .i64 x.status, .int .i64 x.size, .int .i64 x.a, .int .i64 x.b, sv x.root, .slice p1 x.hs.length q1, .slice p2 x.ent.length q2, .slice none 0 0] 45)) = .ok (.slice pa' nl pc') w6 := t1
          rw [hPX.out.1] at t1
          have hc := t1
          have row5 := (k5.block d hdl (by omega)).trans hM.out.row
          have row6 := (t3.block d (by omega) (fun e => by have := hvg _ e; omega)).trans row5
          have d6 : (w4.alloc (.cells #[.int .i64 x.status, .int .i64 x.size, .int .i64 x.a, .int .i64 x.b, .string PX, .slice p1 x.hs.length q1, .slice p2 x.ent.length q2, .slice none 0 0] 45)).cell? ⟨d, 7, none⟩ = some (.slice pa E.length pc) := by rw [cell_of_row _ _ _ _ _ _ row5]; rfl
          obtain ⟨f0, f1, f2, f3, f4, f5, f6, f7⟩ := rp_cells r5
          have e6 : w6.cell? ⟨d, 7, none⟩ = some (.slice pa E.length pc) := by rw [cell_of_row _ _ _ _ _ _ row6]; rfl
          have z6 : w6.frozen? ⟨d, 7, none⟩ = false := frozen_of_row _ _ _ _ _ row6
          have k6 : Keep (fun k => k = b ∨ k = d) W2 (w6.setCell ⟨d, 7, none⟩ (.slice pa' nl pc')) := by
            refine ((hM.out.kp.trans k5 (fun k hk e => .inl e)).trans t3 (fun k hk e => ?_)).setCell d 7 (.slice pa' nl pc') (.inr rfl)
            have := hvg k e
            exact absurd hk (by omega)
          have N1 : Hid (Mp W2 (w6.setCell ⟨d, 7, none⟩ (.slice pa' nl pc')) b d s N R (.slice pa' nl pc') (j + 1) (E ++ [⟨x, .slice p1 x.hs.length q1, .slice p2 x.ent.length q2, .slice none 0 0⟩]) st3) := by
            have ks : Keep (fun k => k = d) w6 (w6.setCell ⟨d, 7, none⟩ (.slice pa' nl pc')) := Keep.ofBut ((But.refl d w6).setCell 7 (.slice pa' nl pc')) rfl
            refine ⟨?_, row_set 7 (.slice pa' nl pc') row6 rfl, t2.keep ks (fun k hk _ e => by omega), by rw [List.length_append, hln]; rfl, fun m hm => ?_, by rw [List.map_append]; exact hsn, k6⟩
            · exact ((g6.below b5).keep t3 (fun e => by have := hvg _ e; omega)).keep ks (by omega)
            · rcases List.mem_append.1 hm with hm | hm
              · exact hM.out.n0 m hm
              · rw [List.mem_singleton] at hm
                subst hm
                exact g5
          clear g1 g2 g3 g4 g5 g6 g7 b5 r5 k5 hGl nn1 nn2 ss1 ss2 ap t1 t2 t3 row5 row6 k6 hsn i4 hvl hvg hx hst3 z5 hln hPX
          go_wp2_with (at_builtin; go_must (refine Lib.wpList_append_run _ rfl _ _ 43 43 rfl _ _ rfl rfl _ _ hc ?_))
          exact ⟨⟨j + 1, _, st3, _, by omega, by go_num, N1⟩, by simp [intOf]; omega⟩
        · obtain rfl : j = N := by omega
          have hq := hM.out.eq
          rw [Nat.sub_self, dManyP] at hq
          have HM : Hid (Mp W2 wr b d s j R (.slice pa E.length pc) j E R.2) := by
            have h9 := hM.out
            rw [← hq]
            rw [← hq] at h9
            exact h9
          clear hq
          by_cases hn2 : ¬ (j : Int) < (n : Int)
          · go_wp2
            exact ⟨⟨1, by go_num, .inr ⟨rfl, _, E, HM⟩⟩, by simp [intOf]⟩
          · have b0 : (j : Int) < (n : Int) := by omega
            have b1 : ¬ (j : Int) ≤ 64 := by omega
            clear hn2
            go_wp2
            exact ⟨⟨1, by go_num, .inr ⟨rfl, _, E, HM⟩⟩, by simp [intOf]⟩
    · obtain ⟨pa, pc, hva, _⟩ := hM.out.gl.own.shape
      subst hva
      obtain ⟨d0, d1, d2, d3, d4, d5, d6, d7⟩ := rp_cells (x := ⟨0, 0, 0, 0, [], [], [], 0⟩) (P := ⟨#[]⟩) hM.out.row
      have hsz := hM.out.kp.size
      have R3 := hid ((hM.out.kp.block w.heap.size (by omega) (by omega)).trans R2.out)
      have hq := hM.out.eq
      rw [Nat.sub_self, dManyP] at hq
      have hq1 : E.map (·.x) = R.1 := congrArg Prod.fst hq
      have HQ1 := hid hq1
      clear hq hq1
      go_wp2_with ((with_reducible show wpList _ _ _ (Oper.mk _ (Op.store 45 _ _) _ _ _ _ :: _) _ _); go_must (refine wpList_store_row rfl 45 _ _ rfl w.heap.size _ rfl rfl 45 _ R3.out (sizeRp' _ _ _ _ _ _ _ _) rfl (oneRp _ _ _ _ _ _ _ _ _ _ _ _ _ _) ?_))
      refine bodyPost_ret (results_cell_row rfl _ _ w.heap.size 45 _ (0, 0) _ rfl (setRow_heap _ _ _ _ _ _ R3.out) Tryz.underlying45 rfl sizeRp) rfl ?_
      have hEl : R.1.length = E.length := by rw [← HQ1.out, List.length_map]
      generalize hcs : #[Value.int .i64 0, .int .i64 0, .int .i64 0, .int .i64 0, .string ⟨#[]⟩, .slice none 0 0, .slice none 0 0, .slice pa E.length pc] = cs
      have k1 : Keep (fun k => k = w.heap.size) wr (wr.setRow w.heap.size cs) := ⟨rfl, rfl, rfl, by rw [setRow_size]; exact Nat.le_refl _, fun k _ hk => setRow_other wr _ k _ hk⟩
      have hle : wr.heap.size ≤ (wr.setRow w.heap.size cs).heap.size := k1.size
      refine ⟨.slice pa E.length pc, by (rw [rpV, ← hcs]; try rfl), ?_, fun y hy => ?_, hM.out.rd.keep k1 (by omega), ?_⟩
      · have := (hM.out.gl.keep k1 (fun k hk _ e => by omega)).ps
        rw [HQ1.out] at this
        exact this.lower (by omega)
      · rw [← HQ1.out] at hy
        obtain ⟨m, hm, rfl⟩ := List.mem_map.1 hy
        exact hM.out.n0 m hm
      · refine (K2.out.trans hM.out.kp fun j hj e => ?_).trans k1 fun j hj e => ?_
        · rcases e with e | e
          · exact e
          · omega
        · omega
end Msg
end Go.Proofs.YtmhgdcfmfcjagaaGreatDoor

namespace Go.Proofs.YtmhgdcfmfcjagaaGreatDoor
open Go.RowKit Cod
namespace Msg
def fnB (x : Part) (wd : List UInt8) : Bool := isSz x.size && (isSz x.a && (hhB x.hs && (txB x.ent 0 4096 1000 && (wi x.b 0 1 && (!hasB wd 114 || decide (x.root.length = 32))))))
set_option maxRecDepth 100000 in
set_option maxHeartbeats 2000000 in
theorem fine17_out (k : Int) (x : Part) (h : wi x.status 0 8 = false) (p1 p2 p3 : Option Addr) (q1 q2 q3 : Nat) (w : World) :
    Calls Tryz.prog 43 #[.int .i64 k, .agg #[.int .i64 x.status, .int .i64 x.size, .int .i64 x.a, .int .i64 x.b, sv x.root, .slice p1 x.hs.length q1, .slice p2 x.ent.length q2, .slice p3 x.n q3]] w fun e w' => e = .returned (.bool false) ∧ Below w.heap.size w w' := by
  have i0 := fun w => told17_any k w
  obtain ⟨W, hW⟩ := pstr (tw k)
  rw [hW.out.1] at i0
  obtain ⟨P, hP⟩ := pstr x.root
  rw [hP.out.1]
  have bA := hid ((Below.refl w.heap.size w).alloc (Nat.le_refl _) (.cells #[.int .i64 x.status, .int .i64 x.size, .int .i64 x.a, .int .i64 x.b, .string P, .slice p1 x.hs.length q1, .slice p2 x.ent.length q2, .slice p3 x.n q3] 45))
  by_cases h1 : x.status < 0
  · generalize x.status = st at *
    go_enter Tryz.func43, Tryz.ntmps43
    go_wp2_with (go_at_call 42; refine (i0 _).mono ?_; rintro e w' ⟨rfl, hw'⟩; rw [hw']; clear hw' w')
    go_ret
    exact ⟨rfl, bA.out⟩
  · have h2 : 8 < x.status := by
      have := of_decide_eq_false h
      omega
    generalize x.status = st at *
    go_enter Tryz.func43, Tryz.ntmps43
    go_wp2_with (go_at_call 42; refine (i0 _).mono ?_; rintro e w' ⟨rfl, hw'⟩; rw [hw']; clear hw' w')
    go_ret
    exact ⟨rfl, bA.out⟩
set_option maxRecDepth 100000 in
set_option maxHeartbeats 2000000 in
theorem fine17_zero (k : Int) (hk : tw k = [33]) (x : Part) (h : x.status = 0) (p1 p2 p3 : Option Addr) (q1 q2 q3 : Nat) (w : World) :
    Calls Tryz.prog 43 #[.int .i64 k, .agg #[.int .i64 x.status, .int .i64 x.size, .int .i64 x.a, .int .i64 x.b, sv x.root, .slice p1 x.hs.length q1, .slice p2 x.ent.length q2, .slice p3 x.n q3]] w fun e w' => e = .returned (.bool false) ∧ Below w.heap.size w w' := by
  have i0 : ∀ w, Calls Tryz.prog 42 #[.int .i64 k] w fun e w' => e = .returned (.string ⟨#[33]⟩) ∧ w' = w := fun w => by
    have := told17_any k w
    rw [hk] at this
    exact this
  obtain ⟨P, hP⟩ := pstr x.root
  rw [hP.out.1]
  have bA := hid ((Below.refl w.heap.size w).alloc (Nat.le_refl _) (.cells #[.int .i64 x.status, .int .i64 x.size, .int .i64 x.a, .int .i64 x.b, .string P, .slice p1 x.hs.length q1, .slice p2 x.ent.length q2, .slice p3 x.n q3] 45))
  rw [h] at bA ⊢
  go_enter Tryz.func43, Tryz.ntmps43
  go_wp2_with (go_at_call 42; refine (i0 _).mono ?_; rintro e w' ⟨rfl, hw'⟩; rw [hw']; clear hw' w')
  go_ret
  exact ⟨rfl, bA.out⟩
end Msg
end Go.Proofs.YtmhgdcfmfcjagaaGreatDoor
