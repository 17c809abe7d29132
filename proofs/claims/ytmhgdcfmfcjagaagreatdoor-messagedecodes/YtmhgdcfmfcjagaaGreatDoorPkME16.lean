import Derived.Test.YtmhgdcfmfcjagaaGreatDoorPkME15
import Derived.Test.YtmhgdcfmfcjagaaGreatDoorPkMT6
import Derived.Test.YtmhgdcfmfcjagaaGreatDoorPkMW10
import Derived.Test.YtmhgdcfmfcjagaaGreatDoorPkMW2
namespace Go.Proofs.YtmhgdcfmfcjagaaGreatDoor
open Go.RowKit Cod
namespace Msg

set_option maxRecDepth 100000 in
set_option maxHeartbeats 4000000 in
/-- a group within a group: the request is nothing -/
theorem take17_zero {w : World} {b : Nat} {s : ByteArray} {st : RS} (h : XRd w b s st) (hK : st.val 0 (rdByte st.rest) = 12) :
    Calls Tryz.prog 47 #[.pointer (some ⟨b, 0, none⟩), .bool true] w (TPo w b s (Ask.zero, st.step (rdByte st.rest))) := by
  have hbl := h.lt
  have bA := (Below.refl w.heap.size w).alloc (Nat.le_refl _) (.cells #[.int .i64 0, .int .i64 0, .int .i64 0, .int .i64 0, .slice none 0 0, .slice none 0 0, .slice none 0 0] 26)
  have rA := heap_alloc_new w (.cells #[.int .i64 0, .int .i64 0, .int .i64 0, .int .i64 0, .slice none 0 0, .slice none 0 0, .slice none 0 0] 26)
  have zA := size_alloc w (.cells #[.int .i64 0, .int .i64 0, .int .i64 0, .int .i64 0, .slice none 0 0, .slice none 0 0, .slice none 0 0] 26)
  have i1 := xByte_any b s st _ (h.below bA)
  rw [hK] at i1
  have i2 := fun w => fields17_any 12 w
  rw [show sv (fw 12) = .string ⟨#[103]⟩ from rfl] at i2
  have BA := hid bA
  have RA := hid rA
  obtain ⟨st1, hst⟩ : ∃ st1, Hid (st.step (rdByte st.rest) = st1) := ⟨_, rfl⟩
  rw [hst.out] at i1 ⊢
  clear h bA rA
  go_enter Tryz.func47, Tryz.ntmps47
  go_wp2_with (go_at_call 56; fail)
  go_at_call 56
  refine i1.mono ?_
  rintro e w1 ⟨rfl, g1, g2⟩
  have k1 : Keep (fun k => k = b) w w1 := (Keep.ofBelow BA.out : Keep (fun k => k = b) w _).trans (T := fun k => k = b) (Keep.ofBut g2 rfl) (fun _ _ e => e)
  have r1 := ((Keep.ofBut g2 rfl : Keep (fun k => k = b) _ w1).block w.heap.size (by omega) (by omega)).trans RA.out
  have z1 : w.heap.size < w1.heap.size := by have := (Keep.ofBut g2 rfl : Keep (fun k => k = b) _ w1).size; omega
  have b2 := (Below.refl w1.heap.size w1).alloc (Nat.le_refl _) (.cells #[.int .i64 12, .int .i64 0, .int .i64 0, .int .i64 0, .slice none 0 0, .slice none 0 0, .slice none 0 0] 26)
  have r2 := heap_alloc_new w1 (.cells #[.int .i64 12, .int .i64 0, .int .i64 0, .int .i64 0, .slice none 0 0, .slice none 0 0, .slice none 0 0] 26)
  have R2 := hid ((b2.block _ z1).trans r1)
  have G2 := hid (g1.below b2)
  have K2 : Hid (Keep (fun k => k = b) w (w1.alloc (.cells #[.int .i64 12, .int .i64 0, .int .i64 0, .int .i64 0, .slice none 0 0, .slice none 0 0, .slice none 0 0] 26))) := k1.trans (T := fun _ => False) (Keep.ofBelow b2) (fun _ _ e => e.elim)
  have c0 : (w1.alloc (.cells #[.int .i64 12, .int .i64 0, .int .i64 0, .int .i64 0, .slice none 0 0, .slice none 0 0, .slice none 0 0] 26)).cell? ⟨w1.heap.size, 0, none⟩ = some (.int .i64 12) := by rw [cell_of_row _ _ _ _ _ _ r2]; rfl
  clear g1 g2 k1 r1 b2 r2 i1
  go_wp2_with (go_at_call 32; fail)
  go_at_call 32
  refine (i2 _).mono ?_
  rintro e w' ⟨rfl, hw'⟩
  rw [hw']
  clear hw' w'
  go_wp2_with ((with_reducible show wpList _ _ _ (Oper.mk _ (Op.store 26 _ _) _ _ _ _ :: _) _ _); go_must (refine wpList_store_row rfl 26 _ _ rfl w.heap.size _ rfl rfl 26 _ R2.out (sizeRq' _ _ _ _ _ _ _) rfl (oneRq _ _ _ _ _ _ _ _ _ _ _ _ _) ?_))
  refine bodyPost_ret (results_cell_row rfl _ _ w.heap.size 26 _ (0, 0) _ rfl (setRow_heap _ _ _ _ _ _ R2.out) Tryz.underlying26 rfl sizeRq) rfl ?_
  generalize hcs : #[Value.int .i64 0, .int .i64 0, .int .i64 0, .int .i64 0, .slice none 0 0, .slice none 0 0, .slice none 0 0] = cs
  obtain ⟨W2, hW2⟩ : ∃ W2, Hid (w1.alloc (.cells #[.int .i64 12, .int .i64 0, .int .i64 0, .int .i64 0, .slice none 0 0, .slice none 0 0, .slice none 0 0] 26) = W2) := ⟨_, rfl⟩
  rw [hW2.out] at R2 G2 K2 ⊢
  have k1 : Keep (fun k => k = w.heap.size) W2 (W2.setRow w.heap.size cs) := ⟨rfl, rfl, rfl, by rw [setRow_size]; exact Nat.le_refl _, fun k _ hk => setRow_other W2 _ k _ hk⟩
  refine ⟨.slice none 0 0, .slice none 0 0, by rw [akV, ← hcs]; rfl, nilI _, Nw.nil _ _, nilT _, Nw.nil _ _, rfl, G2.out.keep k1 (by omega), ?_⟩
  exact K2.out.trans k1 (fun j hj e => by omega)
/-- a request within a group -/
def dTak (st : RS) : DS := if st.val 0 (rdByte st.rest) = 12 then (Ask.zero, st.step (rdByte st.rest)) else dFs (flds (st.val 0 (rdByte st.rest))) (Ask.of ((st.val 0 (rdByte st.rest) : Nat) : Int), st.step (rdByte st.rest))
theorem take17_leaf {w : World} {b : Nat} {s : ByteArray} {st : RS} (h : XRd w b s st) : Calls Tryz.prog 47 #[.pointer (some ⟨b, 0, none⟩), .bool true] w (TPo w b s (dTak st)) := by
  rw [dTak]
  split
  · rename_i hk
    exact take17_zero h hk
  · rename_i hk
    exact take17_flat true h _ rfl hk
end Msg
end Go.Proofs.YtmhgdcfmfcjagaaGreatDoor

namespace Go.Proofs.YtmhgdcfmfcjagaaGreatDoor
open Go.RowKit Cod
namespace Msg

/-- the requests of a group, as the document takes them -/
def dMany : Nat → List Ask → RS → List Ask × RS
  | 0, l, st => (l, st)
  | n + 1, l, st => dMany n (l ++ [(dTak st).1]) (dTak st).2
/-- while they are taken -/
structure Mq (W wr : World) (b d : Nat) (s : ByteArray) (N : Nat) (R : List Ask × RS) (va : Value) (j : Nat) (E : List Em) (st : RS) : Prop where
  rd : XRd wr b s st
  row : wr.heap[d]? = some (.cells #[.int .i64 12, .int .i64 0, .int .i64 0, .int .i64 0, .slice none 0 0, .slice none 0 0, va] 26 (0, 0))
  gl : Gl wr (d + 1) va E
  ln : E.length = j
  n0 : ∀ m ∈ E, m.x.n = 0
  eq : dMany (N - j) (E.map (·.x)) st = R
  kp : Keep (fun k => k = b ∨ k = d) W wr
theorem dTak_n (st : RS) : (dTak st).1.n = 0 := by
  rw [dTak]
  split
  · rfl
  · rw [dFs_n]; rfl
/-- what take answers of a group -/
def GPo (w : World) (b : Nat) (s : ByteArray) (p : List Ask × RS) (e : Ending) (w' : World) : Prop :=
  ∃ va, e = .returned (akV ⟨12, 0, 0, 0, [], [], p.1.length⟩ (.slice none 0 0) (.slice none 0 0) va) ∧ As w' w.heap.size w'.heap.size va p.1 ∧ (∀ y ∈ p.1, y.n = 0) ∧ XRd w' b s p.2 ∧ Keep (fun k => k = b) w w'
set_option maxRecDepth 100000 in
set_option maxHeartbeats 8000000 in
theorem take17_group {w : World} {b : Nat} {s : ByteArray} {st : RS} (h : XRd w b s st) (hK : st.val 0 (rdByte st.rest) = 12) :
    Calls Tryz.prog 47 #[.pointer (some ⟨b, 0, none⟩), .bool false] w (GPo w b s (dMany (min ((st.step (rdByte st.rest)).val 0 (rdNum (st.step (rdByte st.rest)).rest)) 65) [] ((st.step (rdByte st.rest)).step (rdNum (st.step (rdByte st.rest)).rest)))) := by
  have hbl := h.lt
  have bA := (Below.refl w.heap.size w).alloc (Nat.le_refl _) (.cells #[.int .i64 0, .int .i64 0, .int .i64 0, .int .i64 0, .slice none 0 0, .slice none 0 0, .slice none 0 0] 26)
  have rA := heap_alloc_new w (.cells #[.int .i64 0, .int .i64 0, .int .i64 0, .int .i64 0, .slice none 0 0, .slice none 0 0, .slice none 0 0] 26)
  have zA := size_alloc w (.cells #[.int .i64 0, .int .i64 0, .int .i64 0, .int .i64 0, .slice none 0 0, .slice none 0 0, .slice none 0 0] 26)
  have i1 := xByte_any b s st _ (h.below bA)
  rw [hK] at i1
  have i2 := fun w => fields17_any 12 w
  rw [show sv (fw 12) = .string ⟨#[103]⟩ from rfl] at i2
  have BA := hid bA
  have RA := hid rA
  obtain ⟨st1, hst⟩ : ∃ st1, Hid (st.step (rdByte st.rest) = st1) := ⟨_, rfl⟩
  rw [hst.out] at i1 ⊢
  obtain ⟨n, hn⟩ : ∃ n, Hid (st1.val 0 (rdNum st1.rest) = n) := ⟨_, rfl⟩
  obtain ⟨st2, hst2⟩ : ∃ st2, Hid (st1.step (rdNum st1.rest) = st2) := ⟨_, rfl⟩
  rw [hn.out, hst2.out]
  obtain ⟨N, hN⟩ : ∃ N, min n 65 = N := ⟨_, rfl⟩
  rw [hN]
  obtain ⟨R, hR⟩ : ∃ R, Hid (dMany N [] st2 = R) := ⟨_, rfl⟩
  rw [hR.out]
  clear h bA rA
  go_enter Tryz.func47, Tryz.ntmps47
  go_wp2_with (go_at_call 56; fail)
  go_at_call 56
  refine i1.mono ?_
  rintro e w1 ⟨rfl, g1, g2⟩
  have k1 : Keep (fun k => k = b) w w1 := (Keep.ofBelow BA.out : Keep (fun k => k = b) w _).trans (T := fun k => k = b) (Keep.ofBut g2 rfl) (fun _ _ e => e)
  have r1 := ((Keep.ofBut g2 rfl : Keep (fun k => k = b) _ w1).block w.heap.size (by omega) (by omega)).trans RA.out
  have z1 : w.heap.size < w1.heap.size := by have := (Keep.ofBut g2 rfl : Keep (fun k => k = b) _ w1).size; omega
  have b2 := (Below.refl w1.heap.size w1).alloc (Nat.le_refl _) (.cells #[.int .i64 12, .int .i64 0, .int .i64 0, .int .i64 0, .slice none 0 0, .slice none 0 0, .slice none 0 0] 26)
  have r2 := heap_alloc_new w1 (.cells #[.int .i64 12, .int .i64 0, .int .i64 0, .int .i64 0, .slice none 0 0, .slice none 0 0, .slice none 0 0] 26)
  have zz2 := size_alloc w1 (.cells #[.int .i64 12, .int .i64 0, .int .i64 0, .int .i64 0, .slice none 0 0, .slice none 0 0, .slice none 0 0] 26)
  have R2 := hid ((b2.block _ z1).trans r1)
  have RR := hid r2
  have G2 := hid (g1.below b2)
  have K2 : Hid (Keep (fun k => k = b) w (w1.alloc (.cells #[.int .i64 12, .int .i64 0, .int .i64 0, .int .i64 0, .slice none 0 0, .slice none 0 0, .slice none 0 0] 26))) := k1.trans (T := fun _ => False) (Keep.ofBelow b2) (fun _ _ e => e.elim)
  have c0 : (w1.alloc (.cells #[.int .i64 12, .int .i64 0, .int .i64 0, .int .i64 0, .slice none 0 0, .slice none 0 0, .slice none 0 0] 26)).cell? ⟨w1.heap.size, 0, none⟩ = some (.int .i64 12) := by rw [cell_of_row _ _ _ _ _ _ r2]; rfl
  have HZ2 := hid zz2
  clear g1 g2 k1 r1 b2 r2 i1 zz2
  go_wp2_with (go_at_call 32; refine (i2 _).mono ?_; rintro e w' ⟨rfl, hw'⟩; rw [hw']; clear hw' w')
  clear c0
  obtain ⟨W2, hW2⟩ : ∃ W2, Hid (w1.alloc (.cells #[.int .i64 12, .int .i64 0, .int .i64 0, .int .i64 0, .slice none 0 0, .slice none 0 0, .slice none 0 0] 26) = W2) := ⟨_, rfl⟩
  rw [hW2.out] at R2 RR G2 K2 HZ2 ⊢
  generalize w1.heap.size = d at *
  have hz2 := HZ2.out
  go_loopw [7] (fun i w' => ∃ k : Nat, i = .int .i64 k ∧ ((k = 0 ∧ W2 = w') ∨ (k = 1 ∧ ∃ va E, Hid (Mq W2 w' b d s N R va N E R.2)))) (fun i _ => 1 - (intOf i).toNat)
  case atStart => exact ⟨0, rfl, .inl ⟨rfl, rfl⟩⟩
  case round =>
    obtain ⟨k, rfl, ⟨rfl, rfl⟩ | ⟨rfl, va, E, hM⟩⟩ := hrel
    · have i3 := xNum_any b s st1 W2 G2.out
      rw [hn.out, hst2.out] at i3
      go_wp2_with (go_at_call 84; refine i3.mono ?_; rintro e w3 ⟨rfl, g1, g2⟩; have G3 := hid g1; have B3 := hid g2; clear g1 g2)
      have kb : Keep (fun k => k = b) W2 w3 := Keep.ofBut B3.out rfl
      have M0 : Hid (Mq W2 w3 b d s N R (.slice none 0 0) 0 [] st2) := ⟨G3.out, (kb.block d (by omega) (by omega)).trans RR.out, Gl.nil _ _, rfl, fun m hm => (by cases hm), hR.out, kb.mono (T := fun k => k = b ∨ k = d) fun _ _ e => .inl e⟩
      clear i3 kb
      go_loopw [9] (fun i w' => ∃ (j : Nat) (E : List Em) (st' : RS) (va : Value), j ≤ N ∧ i = .int .i64 j ∧ Hid (Mq W2 w' b d s N R va j E st')) (fun i _ => N - (intOf i).toNat)
      case atStart => exact ⟨0, [], st2, _, by omega, rfl, M0⟩
      case round =>
        obtain ⟨j, E, st', va, hj, rfl, hM⟩ := hrel
        obtain ⟨pa, pc, hva, _⟩ := hM.out.gl.own.shape
        subst hva
        by_cases hlt : j < N
        · have b0 : (j : Int) < (n : Int) := by omega
          have b1 : (j : Int) ≤ 64 := by omega
          have i4 := take17_leaf hM.out.rd
          go_wp2_with (go_at_call 47; fail)
          go_at_call 47
          refine i4.mono ?_
          rintro e w4 ⟨vl, ve, rfl, g1, g2, g3, g4, g5, g6, g7⟩
          have hsn := hM.out.eq
          rw [show N - j = (N - (j + 1)) + 1 from by omega, dMany] at hsn
          obtain ⟨x, hx⟩ : ∃ x, (dTak st').1 = x := ⟨_, rfl⟩
          obtain ⟨st3, hst3⟩ : ∃ st3, (dTak st').2 = st3 := ⟨_, rfl⟩
          rw [hx] at g1 g3 g5 hsn ⊢
          rw [hst3] at g6 hsn
          obtain ⟨p1, q1, e1, _⟩ := id g1
          obtain ⟨p2, q2, e2, _⟩ := id g3
          subst e1 e2
          rw [akV]
          have b5 := (Below.refl w4.heap.size w4).alloc (Nat.le_refl _) (.cells #[.int .i64 x.kind, .int .i64 x.a, .int .i64 x.b, .int .i64 x.size, .slice p1 x.list.length q1, .slice p2 x.ent.length q2, .slice none 0 0] 26)
          have r5 := heap_alloc_new w4 (.cells #[.int .i64 x.kind, .int .i64 x.a, .int .i64 x.b, .int .i64 x.size, .slice p1 x.list.length q1, .slice p2 x.ent.length q2, .slice none 0 0] 26)
          have z5 := size_alloc w4 (.cells #[.int .i64 x.kind, .int .i64 x.a, .int .i64 x.b, .int .i64 x.size, .slice p1 x.list.length q1, .slice p2 x.ent.length q2, .slice none 0 0] 26)
          have hdl := lt_of_heap hM.out.row
          have hbw := hM.out.rd.lt
          have k5 : Keep (fun k => k = b) wr (w4.alloc (.cells #[.int .i64 x.kind, .int .i64 x.a, .int .i64 x.b, .int .i64 x.size, .slice p1 x.list.length q1, .slice p2 x.ent.length q2, .slice none 0 0] 26)) := g7.trans (T := fun _ => False) (Keep.ofBelow b5) (fun _ _ e => e.elim)
          have hGl := hM.out.gl.keep k5 (fun k hk e => by omega)
          have hvl := hM.out.gl.own.lt
          have hvg := hM.out.gl.ge
          have hln := hM.out.ln
          have hs4 := g7.size
          have nn1 : Nw wr.heap.size (w4.alloc (.cells #[.int .i64 x.kind, .int .i64 x.a, .int .i64 x.b, .int .i64 x.size, .slice p1 x.list.length q1, .slice p2 x.ent.length q2, .slice none 0 0] 26)).heap.size (.slice p1 x.list.length q1) := g2.mono (Nat.le_refl _) (by omega)
          have nn2 : Nw wr.heap.size (w4.alloc (.cells #[.int .i64 x.kind, .int .i64 x.a, .int .i64 x.b, .int .i64 x.size, .slice p1 x.list.length q1, .slice p2 x.ent.length q2, .slice none 0 0] 26)).heap.size (.slice p2 x.ent.length q2) := g4.mono (Nat.le_refl _) (by omega)
          have ss1 := SlcI.bl18 g1 b5
          have ss2 := g3.below b5 (Nat.le_refl _)
          have ap : ∀ u hi', Nw wr.heap.size hi' u → Apart u (OwnS (.slice pa E.length pc)) := fun u hi' hn y m cc e _ hk => by
            have := hvl _ hk
            have := (hn y m cc e).1
            omega
          obtain ⟨v', w6, t1, t2, t3⟩ := hGl.push (by omega) (by omega) ⟨x, .slice p1 x.list.length q1, .slice p2 x.ent.length q2, .slice none 0 0⟩ ⟨ss1, ss2, ⟨none, 0, by rw [g5]⟩, nn1.mono (by omega) (Nat.le_refl _), nn2.mono (by omega) (Nat.le_refl _)⟩ (ap _ _ nn1) (ap _ _ nn2)
          obtain ⟨pa', pc', hv', _⟩ := t2.own.shape
          obtain ⟨nl, hnl⟩ : ∃ nl, (E ++ [(⟨x, .slice p1 x.list.length q1, .slice p2 x.ent.length q2, .slice none 0 0⟩ : Em)]).length = nl := ⟨_, rfl⟩
          rw [hnl] at hv'
          subst hv'
          clear hnl
          rw [z5] at t1
          have hc : (Builtin.append_ #[24, 24] 24 #[.slice pa E.length pc, .slice (some ⟨w4.heap.size + 1, 0, none⟩) 1 1]).run Tryz.prog ((w4.alloc (.cells #[.int .i64 x.kind, .int .i64 x.a, .int .i64 x.b, .int .i64 x.size, .slice p1 x.list.length q1, .slice p2 x.ent.length q2, .slice none 0 0] 26)).alloc (.cells #[.int .i64 x.kind, .int .i64 x.a, .int .i64 x.b, .int .i64 x.size, .slice p1 x.list.length q1, .slice p2 x.ent.length q2, .slice none 0 0] 26)) = .ok (.slice pa' nl pc') w6 := t1
          have row5 := (k5.block d hdl (by omega)).trans hM.out.row
          have row6 := (t3.block d (by omega) (fun e => by have := hvg _ e; omega)).trans row5
          have d6 : (w4.alloc (.cells #[.int .i64 x.kind, .int .i64 x.a, .int .i64 x.b, .int .i64 x.size, .slice p1 x.list.length q1, .slice p2 x.ent.length q2, .slice none 0 0] 26)).cell? ⟨d, 6, none⟩ = some (.slice pa E.length pc) := by rw [cell_of_row _ _ _ _ _ _ row5]; rfl
          obtain ⟨f0, f1, f2, f3, f4, f5, f6⟩ := rq_cells r5
          have e6 : w6.cell? ⟨d, 6, none⟩ = some (.slice pa E.length pc) := by rw [cell_of_row _ _ _ _ _ _ row6]; rfl
          have z6 : w6.frozen? ⟨d, 6, none⟩ = false := frozen_of_row _ _ _ _ _ row6
          have k6 : Keep (fun k => k = b ∨ k = d) W2 (w6.setCell ⟨d, 6, none⟩ (.slice pa' nl pc')) := by
            refine ((hM.out.kp.trans k5 (fun k hk e => .inl e)).trans t3 (fun k hk e => ?_)).setCell d 6 (.slice pa' nl pc') (.inr rfl)
            have := hvg k e
            exact absurd hk (by omega)
          have N1 : Hid (Mq W2 (w6.setCell ⟨d, 6, none⟩ (.slice pa' nl pc')) b d s N R (.slice pa' nl pc') (j + 1) (E ++ [⟨x, .slice p1 x.list.length q1, .slice p2 x.ent.length q2, .slice none 0 0⟩]) st3) := by
            have ks : Keep (fun k => k = d) w6 (w6.setCell ⟨d, 6, none⟩ (.slice pa' nl pc')) := Keep.ofBut ((But.refl d w6).setCell 6 (.slice pa' nl pc')) rfl
            refine ⟨?_, row_set 6 (.slice pa' nl pc') row6 rfl, t2.keep ks (fun k hk e => by omega), by rw [List.length_append, hln]; rfl, fun m hm => ?_, by rw [List.map_append]; exact hsn, k6⟩
            · exact ((g6.below b5).keep t3 (fun e => by have := hvg _ e; omega)).keep ks (by omega)
            · rcases List.mem_append.1 hm with hm | hm
              · exact hM.out.n0 m hm
              · rw [List.mem_singleton] at hm
                subst hm
                exact g5
          clear g1 g2 g3 g4 g5 g6 g7 b5 r5 k5 hGl nn1 nn2 ss1 ss2 ap t1 t2 t3 row5 row6 k6 hsn i4 hvl hvg hx hst3 z5 hln
          go_wp2_with (at_builtin; go_must (refine Lib.wpList_append_run _ rfl _ _ 24 24 rfl _ _ rfl rfl _ _ hc ?_))
          exact ⟨⟨j + 1, _, st3, _, by omega, by go_num, N1⟩, by simp [intOf]; omega⟩
        · obtain rfl : j = N := by omega
          have hq := hM.out.eq
          rw [Nat.sub_self, dMany] at hq
          have HM : Hid (Mq W2 wr b d s j R (.slice pa E.length pc) j E R.2) := by
            have h9 := hM.out
            rw [← hq]
            rw [← hq] at h9
            exact h9
          clear hq
          by_cases hn2 : ¬ (j : Int) < (n : Int)
          · go_wp2
            exact ⟨⟨1, by go_num, .inr ⟨rfl, _, E, HM⟩⟩, by simp [intOf]⟩
          · have b0 : (j : Int) < (n : Int) := by omega
            have b1 : ¬ (j : Int) ≤ 64 := by omega
            clear hn2
            go_wp2
            exact ⟨⟨1, by go_num, .inr ⟨rfl, _, E, HM⟩⟩, by simp [intOf]⟩
    · obtain ⟨pa, pc, hva, _⟩ := hM.out.gl.own.shape
      subst hva
      obtain ⟨d0, d1, d2, d3, d4, d5, d6⟩ := rq_cells (x := ⟨12, 0, 0, 0, [], [], 0⟩) hM.out.row
      have hsz := hM.out.kp.size
      have R3 := hid ((hM.out.kp.block w.heap.size (by omega) (by omega)).trans R2.out)
      have hq := hM.out.eq
      rw [Nat.sub_self, dMany] at hq
      have hq1 : E.map (·.x) = R.1 := congrArg Prod.fst hq
      have HQ1 := hid hq1
      clear hq hq1
      go_wp2_with ((with_reducible show wpList _ _ _ (Oper.mk _ (Op.store 26 _ _) _ _ _ _ :: _) _ _); go_must (refine wpList_store_row rfl 26 _ _ rfl w.heap.size _ rfl rfl 26 _ R3.out (sizeRq' _ _ _ _ _ _ _) rfl (oneRq _ _ _ _ _ _ _ _ _ _ _ _ _) ?_))
      refine bodyPost_ret (results_cell_row rfl _ _ w.heap.size 26 _ (0, 0) _ rfl (setRow_heap _ _ _ _ _ _ R3.out) Tryz.underlying26 rfl sizeRq) rfl ?_
      have hEl : R.1.length = E.length := by rw [← HQ1.out, List.length_map]
      generalize hcs : #[Value.int .i64 12, .int .i64 0, .int .i64 0, .int .i64 0, .slice none 0 0, .slice none 0 0, .slice pa E.length pc] = cs
      have k1 : Keep (fun k => k = w.heap.size) wr (wr.setRow w.heap.size cs) := ⟨rfl, rfl, rfl, by rw [setRow_size]; exact Nat.le_refl _, fun k _ hk => setRow_other wr _ k _ hk⟩
      have hle : wr.heap.size ≤ (wr.setRow w.heap.size cs).heap.size := k1.size
      refine ⟨.slice pa E.length pc, by rw [akV, ← hcs], ?_, fun y hy => ?_, hM.out.rd.keep k1 (by omega), ?_⟩
      · have := (hM.out.gl.keep k1 (fun k hk e => by omega)).as
        rw [HQ1.out] at this
        exact this.lower (by omega)
      · rw [← HQ1.out] at hy
        obtain ⟨m, hm, rfl⟩ := List.mem_map.1 hy
        exact hM.out.n0 m hm
      · refine (K2.out.trans hM.out.kp fun j hj e => ?_).trans k1 fun j hj e => ?_
        · rcases e with e | e
          · exact e
          · omega
        · omega
end Msg
end Go.Proofs.YtmhgdcfmfcjagaaGreatDoor

namespace Go.Proofs.YtmhgdcfmfcjagaaGreatDoor
open Go.RowKit Cod
namespace Msg

/-- a reply on its way: its cells -/
def rpArr (y : Value) (x : Part) (uh ue up : Value) (t : Part) (th te tp : Value) : Array Value :=
  #[y, .int .i64 x.status, .int .i64 x.size, .int .i64 x.a, .int .i64 x.b, sv x.root, uh, ue, up, .int .i64 t.status, .int .i64 t.size, .int .i64 t.a, .int .i64 t.b, sv t.root, th, te, tp]
structure Pa (w : World) (base b c d : Nat) (v : Value) (s : LS) (x : Part) (uh ue up : Value) (t : Part) (th te tp : Value) : Prop where
  ly : Ly w base b c v s
  row : w.heap[d]? = some (.cells (rpArr (lay c) x uh ue up t th te tp) 114 (0, 0))
  dn : ¬ LSet b c v d
  ge : base ≤ d
  l1 : Lw base uh
  l2 : Lw base ue
  s1 : Slc w uh x.hs
  s2 : Slc w ue x.ent
  s3 : ∃ p q, up = .slice p x.n q
  t1 : ∃ p q, th = .slice p t.hs.length q
  t2 : ∃ p q, te = .slice p t.ent.length q
  t3 : ∃ p q, tp = .slice p t.n q
def GPost (w : World) (base b c d : Nat) (v : Value) (s : LS) (x : Part) (uh ue up : Value) (t : Part) (w' : World) : Prop :=
  ∃ v' th te tp, Pa w' base b c d v' s x uh ue up t th te tp ∧ Keep (QSet b c d v) w w' ∧ From w v v'
theorem Pa.lt {w : World} {base b c d : Nat} {v : Value} {s : LS} {x : Part} {uh ue up : Value} {t : Part} {th te tp : Value} (h : Pa w base b c d v s x uh ue up t th te tp) : d < w.heap.size := lt_of_heap h.row
theorem Pa.row2 {w w2 : World} {base b c d : Nat} {v : Value} {s s' : LS} {x : Part} {uh ue up : Value} {t : Part} {th te tp : Value} (h : Pa w base b c d v s x uh ue up t th te tp) (hl : Lo w base b c v s' w2) : w2.heap[d]? = some (.cells (rpArr (lay c) x uh ue up t th te tp) 114 (0, 0)) := by
  obtain ⟨v', h1, h2, h3⟩ := hl
  exact (h2.block d h.lt h.dn).trans h.row
theorem Pa.put {w w2 : World} {base b c d : Nat} {v : Value} {s s' : LS} {x : Part} {uh ue up : Value} {t : Part} {th te tp : Value} (h : Pa w base b c d v s x uh ue up t th te tp) (hl : Lo w base b c v s' w2)
    (o : Nat) (u : Value) (t' : Part) (th' te' tp' : Value) (hr : (rpArr (lay c) x uh ue up t th te tp).setIfInBounds o u = rpArr (lay c) x uh ue up t' th' te' tp')
    (t1 : ∃ p q, th' = .slice p t'.hs.length q) (t2 : ∃ p q, te' = .slice p t'.ent.length q) (t3 : ∃ p q, tp' = .slice p t'.n q) :
    GPost w base b c d v s' x uh ue up t' (w2.setCell ⟨d, o, none⟩ u) := by
  have hrow := h.row2 hl
  obtain ⟨v', h1, h2, h3⟩ := hl
  have hd := h.lt
  have hdn : ¬ LSet b c v' d := fun e => by
    rcases e with e | e | e
    · exact h.dn (.inl e)
    · exact h.dn (.inr (.inl e))
    · rcases h3 d e with g | g
      · exact h.dn (.inr (.inr g))
      · omega
  have k2 : Keep (fun k => k = d) w2 (w2.setCell ⟨d, o, none⟩ u) := Keep.ofBut ((But.refl d w2).setCell o u) rfl
  have kk : Keep (QSet b c d v) w (w2.setCell ⟨d, o, none⟩ u) := (h2.mono (T := QSet b c d v) fun _ _ e => .inr e).setCell d o u (.inl rfl)
  have bl : Below base w (w2.setCell ⟨d, o, none⟩ u) := kk.below h.ly.base fun k hk e => by
    rcases e with e | e
    · have := h.ge; omega
    · have := (h.ly.ge' k e).1; omega
  exact ⟨v', th', te', tp', ⟨h1.set k2 (fun k hk e => hdn (e ▸ hk)), row_set o u hrow hr, hdn, h.ge, h.l1, h.l2, h.l1.slc h.s1 bl, h.l2.slc h.s2 bl, h.s3, t1, t2, t3⟩, kk, h3⟩
/-- what may stand in a reply -/
structure PFit (x : Part) : Prop where
  k2 : -9223372036854775808 ≤ x.size ∧ x.size ≤ 9223372036854775807
  k3 : -9223372036854775808 ≤ x.a ∧ x.a ≤ 9223372036854775807
  hl : x.hs.length ≤ maxLen
  el : x.ent.length ≤ maxLen
set_option maxRecDepth 100000 in
set_option maxHeartbeats 2000000 in
theorem g_size {w : World} {base b c d : Nat} {v : Value} {s : LS} {x : Part} {uh ue up : Value} {t : Part} {th te tp : Value} (h : Pa w base b c d v s x uh ue up t th te tp) (hf : PFit x) (hm : Sm s 140600000000000) (da : LS → LS) :
    Calls Tryz.prog 117 #[.pointer (some ⟨d, 0, none⟩)] w fun e w' => e = .returned (.tuple #[]) ∧ GPost w base b c d v (lFr x da .size s) x uh ue up (setR x .size t) w' := by
  have c0 : w.cell? ⟨d, 0, none⟩ = some (lay c) := by rw [cell_of_row _ _ _ _ _ _ h.row]; rfl
  have c4 : w.cell? ⟨d, 2, none⟩ = some (.int .i64 x.size) := by rw [cell_of_row _ _ _ _ _ _ h.row]; rfl
  have i1 := laySize_any x.size hf.k2.1 hf.k2.2 w.drew h.ly.drew (hm.mono (by omega))
  rw [lay] at c0
  have mm := m_laying_size ⟨c, 0, none⟩
  have HQ := hid h
  clear h hf hm
  go_enter Tryz.func117, Tryz.ntmps117
  go_region_held3 (fun w' => w'.cell? ⟨d, 0, none⟩ = some (.iface 96 (.pointer (some ⟨c, 0, none⟩))) ∧ w'.cell? ⟨d, 2, none⟩ = some (.int .i64 x.size)) (first | exact ⟨c0, c4⟩ | exact S2 | exact S3) (first | (go_at_call 155; (with_reducible refine i1.mono ?_); rintro e w2 ⟨rfl, hl⟩; have hl := hl.drew; have hrow := HQ.out.row2 hl; have g0 : w2.frozen? ⟨d, 10, none⟩ = false := frozen_of_row _ _ _ _ _ hrow; have e0 : w2.cell? ⟨d, 10, none⟩ = some (.int .i64 t.size) := (by rw [cell_of_row _ _ _ _ _ _ hrow]; rfl); have S2 : w2.cell? ⟨d, 0, none⟩ = some (lay c) ∧ w2.cell? ⟨d, 2, none⟩ = some (.int .i64 x.size) := ⟨by rw [cell_of_row _ _ _ _ _ _ hrow]; rfl, by rw [cell_of_row _ _ _ _ _ _ hrow]; rfl⟩; have hrow3 := row_set 10 (.int .i64 x.size) hrow rfl; have S3 : (w2.setCell ⟨d, 10, none⟩ (.int .i64 x.size)).cell? ⟨d, 0, none⟩ = some (lay c) ∧ (w2.setCell ⟨d, 10, none⟩ (.int .i64 x.size)).cell? ⟨d, 2, none⟩ = some (.int .i64 x.size) := ⟨by rw [cell_of_row _ _ _ _ _ _ hrow3]; rfl, by rw [cell_of_row _ _ _ _ _ _ hrow3]; rfl⟩; rw [lay] at S2 S3; have HL := hid hl; clear hl hrow hrow3))
  go_end0
  exact ⟨rfl, HQ.out.put HL.out 10 _ _ _ _ _ rfl HQ.out.t1 HQ.out.t2 HQ.out.t3⟩
set_option maxRecDepth 100000 in
set_option maxHeartbeats 2000000 in
theorem g_a {w : World} {base b c d : Nat} {v : Value} {s : LS} {x : Part} {uh ue up : Value} {t : Part} {th te tp : Value} (h : Pa w base b c d v s x uh ue up t th te tp) (hf : PFit x) (hm : Sm s 140600000000000) (da : LS → LS) :
    Calls Tryz.prog 118 #[.pointer (some ⟨d, 0, none⟩)] w fun e w' => e = .returned (.tuple #[]) ∧ GPost w base b c d v (lFr x da .a s) x uh ue up (setR x .a t) w' := by
  have c0 : w.cell? ⟨d, 0, none⟩ = some (lay c) := by rw [cell_of_row _ _ _ _ _ _ h.row]; rfl
  have c4 : w.cell? ⟨d, 3, none⟩ = some (.int .i64 x.a) := by rw [cell_of_row _ _ _ _ _ _ h.row]; rfl
  have i1 := laySize_any x.a hf.k3.1 hf.k3.2 w.drew h.ly.drew (hm.mono (by omega))
  rw [lay] at c0
  have mm := m_laying_size ⟨c, 0, none⟩
  have HQ := hid h
  clear h hf hm
  go_enter Tryz.func118, Tryz.ntmps118
  go_region_held3 (fun w' => w'.cell? ⟨d, 0, none⟩ = some (.iface 96 (.pointer (some ⟨c, 0, none⟩))) ∧ w'.cell? ⟨d, 3, none⟩ = some (.int .i64 x.a)) (first | exact ⟨c0, c4⟩ | exact S2 | exact S3) (first | (go_at_call 155; (with_reducible refine i1.mono ?_); rintro e w2 ⟨rfl, hl⟩; have hl := hl.drew; have hrow := HQ.out.row2 hl; have g0 : w2.frozen? ⟨d, 11, none⟩ = false := frozen_of_row _ _ _ _ _ hrow; have e0 : w2.cell? ⟨d, 11, none⟩ = some (.int .i64 t.a) := (by rw [cell_of_row _ _ _ _ _ _ hrow]; rfl); have S2 : w2.cell? ⟨d, 0, none⟩ = some (lay c) ∧ w2.cell? ⟨d, 3, none⟩ = some (.int .i64 x.a) := ⟨by rw [cell_of_row _ _ _ _ _ _ hrow]; rfl, by rw [cell_of_row _ _ _ _ _ _ hrow]; rfl⟩; have hrow3 := row_set 11 (.int .i64 x.a) hrow rfl; have S3 : (w2.setCell ⟨d, 11, none⟩ (.int .i64 x.a)).cell? ⟨d, 0, none⟩ = some (lay c) ∧ (w2.setCell ⟨d, 11, none⟩ (.int .i64 x.a)).cell? ⟨d, 3, none⟩ = some (.int .i64 x.a) := ⟨by rw [cell_of_row _ _ _ _ _ _ hrow3]; rfl, by rw [cell_of_row _ _ _ _ _ _ hrow3]; rfl⟩; rw [lay] at S2 S3; have HL := hid hl; clear hl hrow hrow3))
  go_end0
  exact ⟨rfl, HQ.out.put HL.out 11 _ _ _ _ _ rfl HQ.out.t1 HQ.out.t2 HQ.out.t3⟩
set_option maxRecDepth 100000 in
set_option maxHeartbeats 2000000 in
theorem g_over {w : World} {base b c d : Nat} {v : Value} {s : LS} {x : Part} {uh ue up : Value} {t : Part} {th te tp : Value} (h : Pa w base b c d v s x uh ue up t th te tp) (_hf : PFit x) (hm : Sm s 140600000000000) (da : LS → LS) :
    Calls Tryz.prog 119 #[.pointer (some ⟨d, 0, none⟩)] w fun e w' => e = .returned (.tuple #[]) ∧ GPost w base b c d v (lFr x da .over s) x uh ue up (setR x .over t) w' := by
  have c0 : w.cell? ⟨d, 0, none⟩ = some (lay c) := by rw [cell_of_row _ _ _ _ _ _ h.row]; rfl
  have c4 : w.cell? ⟨d, 4, none⟩ = some (.int .i64 x.b) := by rw [cell_of_row _ _ _ _ _ _ h.row]; rfl
  have i1 := layMark_any x.b 0 1 w.drew h.ly.drew (hm.mono (by omega))
  obtain ⟨z, hz⟩ : ∃ z, Hid ((if wi x.b 0 1 = true then x.b else 0) = z) := ⟨_, rfl⟩
  rw [hz.out] at i1
  rw [lay] at c0
  have mm := m_laying_mark ⟨c, 0, none⟩
  have HQ := hid h
  clear h _hf hm
  go_enter Tryz.func119, Tryz.ntmps119
  go_region_held3 (fun w' => w'.cell? ⟨d, 0, none⟩ = some (.iface 96 (.pointer (some ⟨c, 0, none⟩))) ∧ w'.cell? ⟨d, 4, none⟩ = some (.int .i64 x.b)) (first | exact ⟨c0, c4⟩ | exact S2 | exact S3) (first | (go_at_call 152; (with_reducible refine i1.mono ?_); rintro e w2 ⟨rfl, hl⟩; have hl := hl.drew; have hrow := HQ.out.row2 hl; have g0 : w2.frozen? ⟨d, 12, none⟩ = false := frozen_of_row _ _ _ _ _ hrow; have e0 : w2.cell? ⟨d, 12, none⟩ = some (.int .i64 t.b) := (by rw [cell_of_row _ _ _ _ _ _ hrow]; rfl); have S2 : w2.cell? ⟨d, 0, none⟩ = some (lay c) ∧ w2.cell? ⟨d, 4, none⟩ = some (.int .i64 x.b) := ⟨by rw [cell_of_row _ _ _ _ _ _ hrow]; rfl, by rw [cell_of_row _ _ _ _ _ _ hrow]; rfl⟩; have hrow3 := row_set 12 (.int .i64 z) hrow rfl; have S3 : (w2.setCell ⟨d, 12, none⟩ (.int .i64 z)).cell? ⟨d, 0, none⟩ = some (lay c) ∧ (w2.setCell ⟨d, 12, none⟩ (.int .i64 z)).cell? ⟨d, 4, none⟩ = some (.int .i64 x.b) := ⟨by rw [cell_of_row _ _ _ _ _ _ hrow3]; rfl, by rw [cell_of_row _ _ _ _ _ _ hrow3]; rfl⟩; rw [lay] at S2 S3; have HL := hid hl; clear hl hrow hrow3))
  go_end0
  exact ⟨rfl, HQ.out.put HL.out 12 _ _ _ _ _ (by rw [setR, hz.out]; rfl) HQ.out.t1 HQ.out.t2 HQ.out.t3⟩
set_option maxRecDepth 100000 in
set_option maxHeartbeats 2000000 in
theorem g_root {w : World} {base b c d : Nat} {v : Value} {s : LS} {x : Part} {uh ue up : Value} {t : Part} {th te tp : Value} (h : Pa w base b c d v s x uh ue up t th te tp) (_hf : PFit x) (hm : Sm s 140600000000000) (da : LS → LS) :
    Calls Tryz.prog 121 #[.pointer (some ⟨d, 0, none⟩)] w fun e w' => e = .returned (.tuple #[]) ∧ GPost w base b c d v (lFr x da .root s) x uh ue up (setR x .root t) w' := by
  have c0 : w.cell? ⟨d, 0, none⟩ = some (lay c) := by rw [cell_of_row _ _ _ _ _ _ h.row]; rfl
  have c4 : w.cell? ⟨d, 5, none⟩ = some (.string ⟨x.root.toArray⟩) := by rw [cell_of_row _ _ _ _ _ _ h.row]; rfl
  have i1 := layRoot_any ⟨x.root.toArray⟩ w.drew h.ly.drew (hm.mono (by omega))
  rw [lay] at c0
  have mm := m_laying_root ⟨c, 0, none⟩
  have HQ := hid h
  clear h _hf hm
  go_enter Tryz.func121, Tryz.ntmps121
  go_region_held3 (fun w' => w'.cell? ⟨d, 0, none⟩ = some (.iface 96 (.pointer (some ⟨c, 0, none⟩))) ∧ w'.cell? ⟨d, 5, none⟩ = some (.string ⟨x.root.toArray⟩)) (first | exact ⟨c0, c4⟩ | exact S2 | exact S3) (first | (go_at_call 154; (with_reducible refine i1.mono ?_); rintro e w2 ⟨rfl, hl⟩; rw [sv_data] at hl; have hl := hl.drew; have hrow := HQ.out.row2 hl; have g0 : w2.frozen? ⟨d, 13, none⟩ = false := frozen_of_row _ _ _ _ _ hrow; have e0 : w2.cell? ⟨d, 13, none⟩ = some (sv t.root) := (by rw [cell_of_row _ _ _ _ _ _ hrow]; rfl); have S2 : w2.cell? ⟨d, 0, none⟩ = some (lay c) ∧ w2.cell? ⟨d, 5, none⟩ = some (.string ⟨x.root.toArray⟩) := ⟨by rw [cell_of_row _ _ _ _ _ _ hrow]; rfl, by rw [cell_of_row _ _ _ _ _ _ hrow]; rfl⟩; have hrow3 := row_set 13 (.string ⟨x.root.toArray⟩) hrow rfl; have S3 : (w2.setCell ⟨d, 13, none⟩ (.string ⟨x.root.toArray⟩)).cell? ⟨d, 0, none⟩ = some (lay c) ∧ (w2.setCell ⟨d, 13, none⟩ (.string ⟨x.root.toArray⟩)).cell? ⟨d, 5, none⟩ = some (.string ⟨x.root.toArray⟩) := ⟨by rw [cell_of_row _ _ _ _ _ _ hrow3]; rfl, by rw [cell_of_row _ _ _ _ _ _ hrow3]; rfl⟩; rw [lay] at S2 S3; have HL := hid hl; clear hl hrow hrow3))
  go_end0
  exact ⟨rfl, HQ.out.put HL.out 13 _ _ _ _ _ rfl HQ.out.t1 HQ.out.t2 HQ.out.t3⟩
set_option maxRecDepth 100000 in
set_option maxHeartbeats 2000000 in
theorem g_hashes {w : World} {base b c d : Nat} {v : Value} {s : LS} {x : Part} {uh ue up : Value} {t : Part} {th te tp : Value} (h : Pa w base b c d v s x uh ue up t th te tp) (hf : PFit x) (hm : Sm s 140600000000000) (da : LS → LS) :
    Calls Tryz.prog 123 #[.pointer (some ⟨d, 0, none⟩)] w fun e w' => e = .returned (.tuple #[]) ∧ GPost w base b c d v (lFr x da .hashes s) x uh ue up (setR x .hashes t) w' := by
  obtain ⟨p1, q1, rfl, _⟩ := id h.s1
  have c0 : w.cell? ⟨d, 0, none⟩ = some (lay c) := by rw [cell_of_row _ _ _ _ _ _ h.row]; rfl
  have c4 : w.cell? ⟨d, 6, none⟩ = some (.slice p1 x.hs.length q1) := by rw [cell_of_row _ _ _ _ _ _ h.row]; rfl
  have i1 := layHashes_all _ x.hs hf.hl w.drew (Slc.drew h.s1) h.l1 h.ly.drew (fun e0 bs e => by have := hm bs e; have := hashes_fit e0; omega)
  rw [lay] at c0
  have mm := m_laying_hashes ⟨c, 0, none⟩
  have HQ := hid h
  clear h hf hm
  go_enter Tryz.func123, Tryz.ntmps123
  go_region_held3 (fun w' => w'.cell? ⟨d, 0, none⟩ = some (.iface 96 (.pointer (some ⟨c, 0, none⟩))) ∧ w'.cell? ⟨d, 6, none⟩ = some (.slice p1 x.hs.length q1)) (first | exact ⟨c0, c4⟩ | exact S2 | exact S3) (first | (go_at_call 151; (with_reducible refine i1.mono ?_); rintro e w2 ⟨rfl, hl⟩; have hl := hl.drew; have hrow := HQ.out.row2 hl; have g0 : w2.frozen? ⟨d, 14, none⟩ = false := frozen_of_row _ _ _ _ _ hrow; have e0 : w2.cell? ⟨d, 14, none⟩ = some (th) := (by rw [cell_of_row _ _ _ _ _ _ hrow]; rfl); have S2 : w2.cell? ⟨d, 0, none⟩ = some (lay c) ∧ w2.cell? ⟨d, 6, none⟩ = some (.slice p1 x.hs.length q1) := ⟨by rw [cell_of_row _ _ _ _ _ _ hrow]; rfl, by rw [cell_of_row _ _ _ _ _ _ hrow]; rfl⟩; have hrow3 := row_set 14 (.slice p1 x.hs.length q1) hrow rfl; have S3 : (w2.setCell ⟨d, 14, none⟩ (.slice p1 x.hs.length q1)).cell? ⟨d, 0, none⟩ = some (lay c) ∧ (w2.setCell ⟨d, 14, none⟩ (.slice p1 x.hs.length q1)).cell? ⟨d, 6, none⟩ = some (.slice p1 x.hs.length q1) := ⟨by rw [cell_of_row _ _ _ _ _ _ hrow3]; rfl, by rw [cell_of_row _ _ _ _ _ _ hrow3]; rfl⟩; rw [lay] at S2 S3; have HL := hid hl; clear hl hrow hrow3))
  go_end0
  exact ⟨rfl, HQ.out.put HL.out 14 _ _ _ _ _ rfl ⟨_, _, rfl⟩ HQ.out.t2 HQ.out.t3⟩
set_option maxRecDepth 100000 in
set_option maxHeartbeats 2000000 in
theorem g_entries {w : World} {base b c d : Nat} {v : Value} {s : LS} {x : Part} {uh ue up : Value} {t : Part} {th te tp : Value} (h : Pa w base b c d v s x uh ue up t th te tp) (hf : PFit x) (hm : Sm s 140600000000000) (da : LS → LS) :
    Calls Tryz.prog 122 #[.pointer (some ⟨d, 0, none⟩)] w fun e w' => e = .returned (.tuple #[]) ∧ GPost w base b c d v (lFr x da .entries s) x uh ue up (setR x .entries t) w' := by
  obtain ⟨p1, q1, rfl, _⟩ := id h.s2
  have c0 : w.cell? ⟨d, 0, none⟩ = some (lay c) := by rw [cell_of_row _ _ _ _ _ _ h.row]; rfl
  have c4 : w.cell? ⟨d, 7, none⟩ = some (.slice p1 x.ent.length q1) := by rw [cell_of_row _ _ _ _ _ _ h.row]; rfl
  have i1 := layTexts_all _ x.ent 0 4096 1000 hf.el w.drew (Slc.drew h.s2) h.l2 h.ly.drew (fun e0 bs e => by have := hm bs e; have := texts_fit e0 (by omega) (by omega); omega)
  rw [lay] at c0
  have mm := m_laying_texts ⟨c, 0, none⟩
  have HQ := hid h
  clear h hf hm
  go_enter Tryz.func122, Tryz.ntmps122
  go_region_held3 (fun w' => w'.cell? ⟨d, 0, none⟩ = some (.iface 96 (.pointer (some ⟨c, 0, none⟩))) ∧ w'.cell? ⟨d, 7, none⟩ = some (.slice p1 x.ent.length q1)) (first | exact ⟨c0, c4⟩ | exact S2 | exact S3) (first | (go_at_call 157; (with_reducible refine i1.mono ?_); rintro e w2 ⟨rfl, hl⟩; have hl := hl.drew; have hrow := HQ.out.row2 hl; have g0 : w2.frozen? ⟨d, 15, none⟩ = false := frozen_of_row _ _ _ _ _ hrow; have e0 : w2.cell? ⟨d, 15, none⟩ = some (te) := (by rw [cell_of_row _ _ _ _ _ _ hrow]; rfl); have S2 : w2.cell? ⟨d, 0, none⟩ = some (lay c) ∧ w2.cell? ⟨d, 7, none⟩ = some (.slice p1 x.ent.length q1) := ⟨by rw [cell_of_row _ _ _ _ _ _ hrow]; rfl, by rw [cell_of_row _ _ _ _ _ _ hrow]; rfl⟩; have hrow3 := row_set 15 (.slice p1 x.ent.length q1) hrow rfl; have S3 : (w2.setCell ⟨d, 15, none⟩ (.slice p1 x.ent.length q1)).cell? ⟨d, 0, none⟩ = some (lay c) ∧ (w2.setCell ⟨d, 15, none⟩ (.slice p1 x.ent.length q1)).cell? ⟨d, 7, none⟩ = some (.slice p1 x.ent.length q1) := ⟨by rw [cell_of_row _ _ _ _ _ _ hrow3]; rfl, by rw [cell_of_row _ _ _ _ _ _ hrow3]; rfl⟩; rw [lay] at S2 S3; have HL := hid hl; clear hl hrow hrow3))
  go_end0
  exact ⟨rfl, HQ.out.put HL.out 15 _ _ _ _ _ rfl HQ.out.t1 ⟨_, _, rfl⟩ HQ.out.t3⟩
end Msg
end Go.Proofs.YtmhgdcfmfcjagaaGreatDoor
