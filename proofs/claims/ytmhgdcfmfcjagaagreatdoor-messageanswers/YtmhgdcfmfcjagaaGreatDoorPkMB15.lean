import Derived.Test.YtmhgdcfmfcjagaaGreatDoorPkMB13
import Derived.Test.YtmhgdcfmfcjagaaGreatDoorCards
import Derived.Test.YtmhgdcfmfcjagaaGreatDoorTie
import Derived.WalkKit
import Derived.ProofKit
import Derived.OpenShut
import Derived.Deep.DeepHandedRow
import Derived.Carry
import Derived.ChangeOld
import Derived.Stop.LaidErr
import Derived.LaidLaws
import Derived.LaidHandle
import Derived.Stop.Joined
import Derived.SliceStrings
import Derived.Deep.SlicePairs
import Derived.Test.YtmhgdcfmfcjagaaGreatDoorPkE1
namespace Go.Proofs.YtmhgdcfmfcjagaaGreatDoor
open Go.RowKit Cod
namespace Msg
theorem below_rowR {w w' : World} {g : Nat} {cs : Array Value} {t : TypeId} (r : w.heap[g]? = some (.cells cs t (0, 0))) (hb : Below w.heap.size w w') : w'.heap[g]? = some (.cells cs t (0, 0)) := (hb.block g (lt_of_heap r)).trans r
theorem row8R {w : World} {g : Nat} {x : Part} {a b c : Value} {t : TypeId} (r : w.heap[g]? = some (.cells (rpO x a b c) t (0, 0))) : w.cell? ⟨g, 0, none⟩ = some (.int .i64 x.status) ∧ w.cell? ⟨g, 1, none⟩ = some (.int .i64 x.size) ∧ w.cell? ⟨g, 2, none⟩ = some (.int .i64 x.a) ∧ w.cell? ⟨g, 3, none⟩ = some (.int .i64 x.b) ∧ w.cell? ⟨g, 4, none⟩ = some (.string ⟨x.root.toArray⟩) ∧ w.cell? ⟨g, 5, none⟩ = some (a) ∧ w.cell? ⟨g, 6, none⟩ = some (b) ∧ w.cell? ⟨g, 7, none⟩ = some (c) :=
  ⟨by rw [cell_of_row _ _ _ _ _ _ r]; rfl, by rw [cell_of_row _ _ _ _ _ _ r]; rfl, by rw [cell_of_row _ _ _ _ _ _ r]; rfl, by rw [cell_of_row _ _ _ _ _ _ r]; rfl, by rw [cell_of_row _ _ _ _ _ _ r]; rfl, by rw [cell_of_row _ _ _ _ _ _ r]; rfl, by rw [cell_of_row _ _ _ _ _ _ r]; rfl, by rw [cell_of_row _ _ _ _ _ _ r]; rfl⟩
theorem Lp.cells {w0 w : World} {k0 : Int} {X A : Nat} {S : List ByteArray} {B : Nat} {pa : Option Addr} {j pc : Nat} {T : List Ku} (h : Lp w0 w k0 X A S B (.slice pa j pc) T) {p : Nat} {t : Ku} (ht : T[p]? = some t) :
    ∃ g, pa = some ⟨g, 0, none⟩ ∧ g < w.heap.size ∧ w.cell? ⟨g, p * 8, none⟩ = some (.int .i64 t.x.status) ∧ w.cell? ⟨g, p * 8 + 1, none⟩ = some (.int .i64 t.x.size) ∧ w.cell? ⟨g, p * 8 + 2, none⟩ = some (.int .i64 t.x.a) ∧ w.cell? ⟨g, p * 8 + 3, none⟩ = some (.int .i64 t.x.b) ∧ w.cell? ⟨g, p * 8 + 4, none⟩ = some (.string ⟨t.x.root.toArray⟩) ∧ w.cell? ⟨g, p * 8 + 5, none⟩ = some (t.m.h) ∧ w.cell? ⟨g, p * 8 + 6, none⟩ = some (t.m.e) ∧ w.cell? ⟨g, p * 8 + 7, none⟩ = some (t.m.p) := by
  have ho := h.own
  obtain ⟨a, c, e, _, _⟩ := ho.shape
  injection e with e1 e2 e3
  subst e1 e3
  rw [e2] at ho
  rw [← List.length_map (f := fun t : Ku => t.m)] at ho
  have hm : (T.map (·.m))[p]? = some t.m := by rw [List.getElem?_map, ht]; rfl
  obtain ⟨g, e, hc⟩ := epcs_cells ho hm
  have c0 := hc 0 _ (by omega) rfl
  have mx := (h.trs.el t (List.mem_of_getElem? ht)).1.mx
  refine ⟨g, e, h.own.lt g (by rw [e]; rfl), ?_⟩
  rw [mx] at c0
  have c1 := hc 1 _ (by omega) rfl
  have c2 := hc 2 _ (by omega) rfl
  have c3 := hc 3 _ (by omega) rfl
  rw [mx] at c1 c2 c3
  have c4 := hc 4 _ (by omega) rfl
  rw [mx] at c4
  exact ⟨c0, c1, c2, c3, c4, hc 5 _ (by omega) rfl, hc 6 _ (by omega) rfl, hc 7 _ (by omega) rfl⟩
set_option maxRecDepth 100000 in
set_option maxHeartbeats 8000000 in
theorem answers17_any (k : Int) (s o : ByteArray) (hs : s.size ≤ 4611686018427380000) (ho : o.size ≤ 4611686018427380000) (w : World) (T : Lay w) :
    Calls Tryz.prog 6 #[.int .i64 k, .string s, .string o] w fun e w' => e = .returned (.bool true) ∧ Below w.heap.size w w' := by
  have i0 := known17_any w T
  have hT := T.lt
  have HT := hid T
  go_enter Tryz.func6, Tryz.ntmps6
  go_wp2_with (go_at_call 7; fail)
  go_at_call 7
  refine i0.mono ?_
  rintro e w1 ⟨rfl, h1⟩
  obtain ⟨S, hS⟩ : ∃ S : List ByteArray, Hid (S = [s, s, o, s]) := ⟨_, rfl⟩
  have hz : Hid (∀ (j : Nat) b, S[j]? = some b → b.size ≤ 4611686018427380000) := fun j b hb => by
    rw [hS.out] at hb
    have := List.mem_of_getElem? hb
    simp only [List.mem_cons, List.not_mem_nil, or_false] at this
    rcases this with rfl | rfl | rfl | rfl <;> assumption
  have h4 : Hid (∀ j, j < 4 → ∃ b, S[j]? = some b) := fun j hj => ⟨S[j]'(by rw [hS.out]; exact hj), List.getElem?_eq_getElem _⟩
  obtain ⟨wA, hwA⟩ : ∃ wA, Hid (w1.alloc (.cells #[.string s, .string s, .string o, .string s] 9) = wA) := ⟨_, rfl⟩
  have ra : wA.heap[w1.heap.size]? = some (.cells #[.string s, .string s, .string o, .string s] 9 (0, 0)) := by rw [← hwA.out]; exact heap_alloc_new _ _
  have bA : Below w1.heap.size w1 wA := by rw [← hwA.out]; exact (Below.refl _ _).alloc (Nat.le_refl _) _
  have zA : wA.heap.size = w1.heap.size + 1 := by rw [← hwA.out]; exact size_alloc _ _
  obtain ⟨wX, hwX⟩ : ∃ wX, Hid (wA.alloc (.cells #[.slice none 0 0, .slice none 0 0, .slice none 0 0, .slice none 0 0] 34) = wX) := ⟨_, rfl⟩
  have rX : wX.heap[wA.heap.size]? = some (.cells #[.slice none 0 0, .slice none 0 0, .slice none 0 0, .slice none 0 0] 34 (0, 0)) := by rw [← hwX.out]; exact heap_alloc_new _ _
  have bX : Below wA.heap.size wA wX := by rw [← hwX.out]; exact (Below.refl _ _).alloc (Nat.le_refl _) _
  have zX : wX.heap.size = wA.heap.size + 1 := by rw [← hwX.out]; exact size_alloc _ _
  have ra' := (bX.block _ (by omega)).trans ra
  have L0 : Lp w wX k wA.heap.size w1.heap.size S wX.heap.size (.slice none 0 0) [] := Lp.nil ((h1.trans (bA.mono h1.size)).trans (bX.mono (Nat.le_trans h1.size bA.size))) (fun j b hb => by
    rw [hS.out] at hb
    match j, hb with
    | 0, hb => rw [cell_of_row _ _ _ _ _ _ ra']; obtain rfl := Option.some.inj hb; rfl
    | 1, hb => rw [cell_of_row _ _ _ _ _ _ ra']; obtain rfl := Option.some.inj hb; rfl
    | 2, hb => rw [cell_of_row _ _ _ _ _ _ ra']; obtain rfl := Option.some.inj hb; rfl
    | 3, hb => rw [cell_of_row _ _ _ _ _ _ ra']; obtain rfl := Option.some.inj hb; rfl
    | n + 4, hb => simp at hb) (by omega) (by omega) (Nat.le_refl _) h1.size
  have I0 : Hid (Lp w wX k wA.heap.size w1.heap.size S wX.heap.size (.slice none 0 0) [] ∧ wX.heap[wA.heap.size]? = some (.cells #[.slice none 0 0, .slice none 0 0, .slice none 0 0, .slice none 0 0] 34 (0, 0))) := ⟨L0, rX⟩
  have hX1 : wA.heap.size = w1.heap.size + 1 := zA
  clear i0 T L0 ra ra' bA rX bX zX h1
  go_wp2
  rw [hwA.out]
  try rw [hwX.out]
  rw [zA] at I0
  generalize hA : w1.heap.size = A at *
  generalize hB : wX.heap.size = B at *
  clear hX1 zA hwA hwX hA
  go_loopw [10, 11] (fun l i w' => ∃ (j : Nat) (T : List Ku) (pa : Option Addr) (pc : Nat), j ≤ 4 ∧ i = .int .i64 (j : Int) ∧ l = .slice pa j pc ∧ Hid (T.length = j) ∧ Hid (Lp w w' k (A + 1) A S B (.slice pa j pc) T ∧ w'.heap[A + 1]? = some (.cells #[.slice none 0 0, .slice none 0 0, .slice none 0 0, .slice none 0 0] 34 (0, 0)))) (fun _ i _ => 4 - (intOf i).toNat)
  case atStart => exact ⟨0, [], none, 0, by omega, rfl, rfl, rfl, I0⟩
  case round =>
    obtain ⟨j, T, pa, pc, hj, rfl, rfl, hTl, I⟩ := hrel
    by_cases hj4 : j < 4
    · obtain ⟨b, hb⟩ := h4.out j hj4
      have c0 := I.out.1.ask j b hb
      have zb := hz.out j b hb
      have i1 := decR_doc k b wr zb
      have HB := hid hb
      have y1 : (j : Int) < 4 := by omega
      have y3 : (0 : Int) ≤ (j : Int) := by omega
      obtain ⟨Q, hQ⟩ : ∃ Q, Hid (rQ k b.data.toList = Q) := ⟨_, rfl⟩
      have qk := hid (qrp k b.data.toList)
      rw [hQ.out] at qk
      obtain ⟨x, l⟩ := Q
      obtain ⟨R, hR⟩ : ∃ R, Hid (sv (rR k b.data.toList) = .string R) := ⟨_, hid rfl⟩
      obtain ⟨z, hZ⟩ : ∃ z, Hid (rE k b.data.toList = z) := ⟨_, rfl⟩
      have DP : Hid (∀ w e w', DAny k b.data.toList w e w' → Below w.heap.size w w' ∧ ∃ ul ue ua, e = .returned (.tuple #[rpV x ul ue ua, .string R, .int .i64 z]) ∧ GotR w' w.heap.size x l ul ue ua) := fun w e w' h => by
        unfold DAny at h
        rw [hQ.out, hR.out, hZ.out] at h
        exact h
      have Hln : Hid (x.n = l.length) := qk.out.n
      have yR : (R.toList != R.toList) = false := by simp
      have yR2 : (R.toList == R.toList) = true := by simp
      have yz : (z != z) = false := by simp
      clear hb hR hZ
      go_wp2_with (go_at_call 23; fail)
      go_at_call 23
      refine i1.mono ?_
      rintro e w2 d1
      obtain ⟨b2, vl, ve, va, rfl, G1⟩ := DP.out _ _ _ d1
      obtain ⟨s1, t1, e1, _⟩ := id G1.1
      obtain ⟨s2, t2, e2, _⟩ := id G1.2.2.1
      obtain ⟨s3, t3, e3⟩ := id G1.2.2.2.2.1.shape
      subst e1 e2 e3
      rw [← Hln.out] at G1 ⊢
      rw [rpV, show sv x.root = .string ⟨x.root.toArray⟩ from rfl]
      have r2 := heap_alloc_new w2 (.cells (rpO x (.slice s1 x.hs.length t1) (.slice s2 x.ent.length t2) (.slice s3 x.n t3)) 45)
      have b3 := (Below.refl w2.heap.size w2).alloc (Nat.le_refl _) (.cells (rpO x (.slice s1 x.hs.length t1) (.slice s2 x.ent.length t2) (.slice s3 x.n t3)) 45)
      have z2 := size_alloc w2 (.cells (rpO x (.slice s1 x.hs.length t1) (.slice s2 x.ent.length t2) (.slice s3 x.n t3)) 45)
      have B3 := b2.trans (b3.mono b2.size)
      have c1 : (w2.alloc (.cells (rpO x (.slice s1 x.hs.length t1) (.slice s2 x.ent.length t2) (.slice s3 x.n t3)) 45)).cell? ⟨A, j, none⟩ = some (.string b) := (I.out.1.up B3).ask j b HB.out
      have i2 := decR_own k b _ (HT.out.below (I.out.1.up B3).bl hT) (by unfold maxLen; omega)
      have G3 := hid (G1.blw b3)
      have HB3 := hid B3
      have R2 := hid r2
      clear d1 G1 b2 b3 r2 i1 c0 B3
      go_wp2_with (go_at_call 24; fail)
      go_at_call 24
      refine i2.mono ?_
      rintro e w3 ⟨d2, ow⟩
      obtain ⟨b4, vl, ve, va, rfl, G4⟩ := DP.out _ _ _ d2
      obtain ⟨x', l', ra⟩ := owdR_got ow
      obtain ⟨E, K⟩ := kp_of qk.out G4 ra
      obtain ⟨r1, z1, e1, _⟩ := id G4.1
      obtain ⟨r2, zz2, e2, _⟩ := id G4.2.2.1
      obtain ⟨r3, z3, e3⟩ := id G4.2.2.2.2.1.shape
      subst e1 e2 e3
      rw [← Hln.out] at G4 K ⊢
      rw [rpV, show sv x.root = .string ⟨x.root.toArray⟩ from rfl]
      have n4 := heap_alloc_new w3 (.cells (rpO x (.slice r1 x.hs.length z1) (.slice r2 x.ent.length zz2) (.slice r3 x.n z3)) 45)
      have b5 := (Below.refl w3.heap.size w3).alloc (Nat.le_refl _) (.cells (rpO x (.slice r1 x.hs.length z1) (.slice r2 x.ent.length zz2) (.slice r3 x.n z3)) 45)
      have z5 := size_alloc w3 (.cells (rpO x (.slice r1 x.hs.length z1) (.slice r2 x.ent.length zz2) (.slice r3 x.n z3)) 45)
      have m5 := below_rowR (below_rowR R2.out b4) b5
      have B5 := HB3.out.trans ((b4.trans (b5.mono b4.size)).mono HB3.out.size)
      have G3' := (G3.out.blw b4).blw b5
      have G4' := G4.blw b5
      have i7 := sameReply_yes (w := w3.alloc (.cells (rpO x (.slice r1 x.hs.length z1) (.slice r2 x.ent.length zz2) (.slice r3 x.n z3)) 45)) (hi := (w3.alloc (.cells (rpO x (.slice r1 x.hs.length z1) (.slice r2 x.ent.length zz2) (.slice r3 x.n z3)) 45)).heap.size) (p3 := r3) (q3 := z3) (p4 := s3) (q4 := t3) Hln.out G4'.2.2.2.2.1.pq G3'.2.2.2.2.1.pq (Nat.le_refl _) (fun y hy => ⟨(qk.out.el y hy).2, (qk.out.el y hy).1.fit.hl, (qk.out.el y hy).1.fit.el⟩) (by have := qk.out.len; unfold maxLen; omega) G4'.1 G4'.2.2.1 G3'.1 G3'.2.2.1 qk.out.few.fit.hl qk.out.few.fit.el
      obtain ⟨u0, u1, u2, u3, u4, u5, u6, u7⟩ := row8R n4
      obtain ⟨v0, v1, v2, v3, v4, v5, v6, v7⟩ := row8R m5
      have N4 := hid n4
      have HB5 := hid B5
      have K5 := hid K
      have W2 := hid (show wr.heap.size ≤ (w2.alloc (.cells (rpO x (.slice s1 x.hs.length t1) (.slice s2 x.ent.length t2) (.slice s3 x.n t3)) 45)).heap.size from HB3.out.size)
      clear d2 ow ra G4 G4' G3' b4 b5 n4 m5 B5 z5 z2 K i2 c1
      go_wp2_with (go_at_call 17; fail)
      go_at_call 17
      refine i7.mono ?_
      rintro e w5 ⟨rfl, b7⟩
      have B7 := HB5.out.trans (b7.mono HB5.out.size)
      have b37 : Below w3.heap.size w3 w5 := ((Below.refl w3.heap.size w3).alloc (Nat.le_refl _) (.cells (rpO x (.slice r1 x.hs.length z1) (.slice r2 x.ent.length zz2) (.slice r3 x.n z3)) 45)).trans (b7.mono (by rw [size_alloc]; omega))
      have K7 := K5.out.keep (S := fun _ => False) (Keep.ofBelow b37) (fun _ _ _ e => e)
      obtain ⟨v', w6, hc, L6, gr⟩ := I.out.1.push B7 ⟨_, _, x, l, ⟨x, .slice r1 x.hs.length z1, .slice r2 x.ent.length zz2, .slice r3 x.n z3⟩, E⟩ K7 qk.out W2.out b37.size (b := b) (by rw [hTl.out]; exact HB.out) hQ.out.symm (by rw [hTl.out]; omega)
      obtain ⟨pa', pc', ev, _, _⟩ := L6.own.shape
      rw [List.length_append, hTl.out] at ev
      have ev : v' = .slice pa' (j + 1) pc' := ev
      subst ev
      have RX : w6.heap[A + 1]? = some (.cells #[.slice none 0 0, .slice none 0 0, .slice none 0 0, .slice none 0 0] 34 (0, 0)) := by
        have hX := I.out.1.hX
        have hB := I.out.1.hB
        have s7 := B7.size
        exact (gr.old (A + 1) (by omega) (fun e => by have := (I.out.1.vb _ e).1; omega)).trans ((B7.block _ (by omega)).trans I.out.2)
      have HL6 : Hid (∃ T' : List Ku, Hid (T'.length = j + 1) ∧ Hid (Lp w w6 k (A + 1) A S B (.slice pa' (j + 1) pc') T' ∧ w6.heap[A + 1]? = some (.cells #[.slice none 0 0, .slice none 0 0, .slice none 0 0, .slice none 0 0] 34 (0, 0)))) := ⟨_, by show _ = _; rw [List.length_append, hTl.out]; rfl, L6, RX⟩
      obtain ⟨u0, u1, u2, u3, u4, u5, u6, u7⟩ := row8R (below_rowR N4.out b7)
      have hj4' := hid hj4
      clear B7 b37 K7 L6 gr RX b7 i7 v0 v1 v2 v3 v4 v5 v6 v7
      go_wp2_with (at_builtin; go_must (refine Lib.wpList_append_run _ rfl _ _ 43 43 rfl _ _ rfl rfl _ _ hc ?_))
      obtain ⟨T', hl1, HL⟩ := HL6.out
      exact ⟨⟨j + 1, T', pa', pc', hj4'.out, by go_num, rfl, hl1, HL⟩, by have := hj4'.out; simp [intOf]; omega⟩
    · obtain rfl : j = 4 := by omega
      have y1 : ¬ ((4 : Nat) : Int) < 4 := by omega
      have J0 : Hid (∃ W vt va, Lq w wr k W (A + 1) A S B (.slice pa 4 pc) T 0 vt va) := ⟨_, _, _, Lq.start I.out.1 I.out.2⟩
      clear I
      go_wp2
      go_loopw [19] (fun i w' => ∃ p : Nat, p ≤ 4 ∧ i = .int .i64 (p : Int) ∧ Hid (∃ W vt va, Lq w w' k W (A + 1) A S B (.slice pa 4 pc) T p vt va)) (fun i _ => 4 - (intOf i).toNat)
      case atStart => exact ⟨0, by omega, rfl, J0⟩
      case round =>
        obtain ⟨p, hp, rfl, ⟨W, vt, va, I⟩⟩ := hrel
        by_cases hp4 : p < 4
        · obtain ⟨b, hb⟩ := h4.out p hp4
          obtain ⟨t, ht⟩ : ∃ t, T[p]? = some t := ⟨T[p]'(by rw [hTl.out]; exact hp4), List.getElem?_eq_getElem _⟩
          have c0 := I.c.ask p b hb
          have zb := hz.out p b hb
          have i1 := decR_doc k b wr zb
          have HB := hid hb
          have y1 : (p : Int) < 4 := by omega
          have y3 : (0 : Int) ≤ (p : Int) := by omega
          have hQ : rQ k b.data.toList = (t.x, t.l) := by
            obtain ⟨b', hb', e⟩ := I.c.eq p t ht
            obtain rfl := Option.some.inj (hb.symm.trans hb')
            exact e.symm
          have qk := hid (qrp k b.data.toList)
          rw [hQ] at qk
          have DP : Hid (∀ w e w', DAny k b.data.toList w e w' → Below w.heap.size w w' ∧ ∃ ul ue ua r z, e = .returned (.tuple #[rpV t.x ul ue ua, .string r, .int .i64 z]) ∧ GotR w' w.heap.size t.x t.l ul ue ua) := fun w e w' h => by
            obtain ⟨h1, ul, ue, ua, h2, h3⟩ := h
            rw [hQ] at h2 h3
            exact ⟨h1, ul, ue, ua, _, _, h2, h3⟩
          have Hln : Hid (t.x.n = t.l.length) := qk.out.n
          have HI := hid I
          have Ht := hid ht
          have KT := hid (I.c.trs.el t (List.mem_of_getElem? ht)).1
          have NX : Hid (∀ w', Below wr.heap.size wr w' → Calls Tryz.prog 25 #[.pointer (some ⟨A + 1, 0, none⟩), rpV t.x t.m.h t.m.e t.m.p] w' fun e w' => e = .returned (.tuple #[]) ∧ ∃ vt' va', Lq w w' k W (A + 1) A S B (.slice pa 4 pc) T (p + 1) vt' va') := fun w' hb => (HI.out.up hb).next (by rw [hTl.out]; omega) Ht.out
          have CL : Hid (∀ w', Below wr.heap.size wr w' → ∃ g, pa = some ⟨g, 0, none⟩ ∧ g < w'.heap.size ∧ w'.cell? ⟨g, p * 8, none⟩ = some (.int .i64 t.x.status) ∧ w'.cell? ⟨g, p * 8 + 1, none⟩ = some (.int .i64 t.x.size) ∧ w'.cell? ⟨g, p * 8 + 2, none⟩ = some (.int .i64 t.x.a) ∧ w'.cell? ⟨g, p * 8 + 3, none⟩ = some (.int .i64 t.x.b) ∧ w'.cell? ⟨g, p * 8 + 4, none⟩ = some (.string ⟨t.x.root.toArray⟩) ∧ w'.cell? ⟨g, p * 8 + 5, none⟩ = some (t.m.h) ∧ w'.cell? ⟨g, p * 8 + 6, none⟩ = some (t.m.e) ∧ w'.cell? ⟨g, p * 8 + 7, none⟩ = some (t.m.p)) := fun w' hb => (HI.out.up hb).c.cells Ht.out
          obtain ⟨lo, hi, x, l, ⟨mx, ml, me, ma⟩, E⟩ := t
          simp only at hQ qk DP Hln KT NX CL
          obtain rfl : mx = x := KT.out.mx
          obtain ⟨s1, t1, e1, _⟩ := id KT.out.s1
          obtain ⟨s2, t2, e2, _⟩ := id KT.out.s2
          obtain ⟨s3, t3, e3⟩ := id KT.out.psq.shape
          simp only at e1 e2 e3
          subst e1 e2 e3
          rw [← Hln.out] at NX CL KT
          rw [rpV, show sv mx.root = .string ⟨mx.root.toArray⟩ from rfl] at NX
          obtain ⟨g, rfl, _, _⟩ := CL.out wr (Below.refl _ _)
          clear hb I ht hQ
          go_wp2_with (go_at_call 23; fail)
          go_at_call 23
          refine i1.mono ?_
          rintro e w2 d1
          obtain ⟨b2, vl, ve, va', R, z, rfl, G1⟩ := DP.out _ _ _ d1
          obtain ⟨r1, z1, e1, _⟩ := id G1.1
          obtain ⟨r2, zz2, e2, _⟩ := id G1.2.2.1
          obtain ⟨r3, z3, e3⟩ := id G1.2.2.2.2.1.shape
          subst e1 e2 e3
          rw [← Hln.out] at G1 ⊢
          rw [rpV, show sv mx.root = .string ⟨mx.root.toArray⟩ from rfl]
          have n2 := heap_alloc_new w2 (.cells (rpO mx (.slice r1 mx.hs.length z1) (.slice r2 mx.ent.length zz2) (.slice r3 mx.n z3)) 45)
          have b3 := (Below.refl w2.heap.size w2).alloc (Nat.le_refl _) (.cells (rpO mx (.slice r1 mx.hs.length z1) (.slice r2 mx.ent.length zz2) (.slice r3 mx.n z3)) 45)
          have z2 := size_alloc w2 (.cells (rpO mx (.slice r1 mx.hs.length z1) (.slice r2 mx.ent.length zz2) (.slice r3 mx.n z3)) 45)
          have B3 := b2.trans (b3.mono b2.size)
          have KB := KT.out.keep (S := fun _ => False) (Keep.ofBelow B3) (fun _ _ _ e => e)
          have hhi : hi ≤ (w2.alloc (.cells (rpO mx (.slice r1 mx.hs.length z1) (.slice r2 mx.ent.length zz2) (.slice r3 mx.n z3)) 45)).heap.size := Nat.le_trans (HI.out.c.trs.el _ (List.mem_of_getElem? Ht.out)).2.2.2 B3.size
          have G3 := G1.blw b3
          have i7 := sameReply_yes (w := (w2.alloc (.cells (rpO mx (.slice r1 mx.hs.length z1) (.slice r2 mx.ent.length zz2) (.slice r3 mx.n z3)) 45)).drew) (hi := (w2.alloc (.cells (rpO mx (.slice r1 mx.hs.length z1) (.slice r2 mx.ent.length zz2) (.slice r3 mx.n z3)) 45)).heap.size) (p3 := s3) (q3 := t3) (p4 := r3) (q4 := z3) Hln.out ((KB.psq.mono (Nat.le_refl _) hhi).pq.bl (Below.refl _ _).drew) (G3.2.2.2.2.1.pq.bl (Below.refl _ _).drew) (Nat.le_refl _) (fun y hy => ⟨(qk.out.el y hy).2, (qk.out.el y hy).1.fit.hl, (qk.out.el y hy).1.fit.el⟩) (by have := qk.out.len; unfold maxLen; omega) (KB.s1.below (Below.refl _ _).drew (Nat.le_refl _)) (KB.s2.below (Below.refl _ _).drew (Nat.le_refl _)) (G3.1.below (Below.refl _ _).drew (Nat.le_refl _)) (G3.2.2.1.below (Below.refl _ _).drew (Nat.le_refl _)) qk.out.few.fit.hl qk.out.few.fit.el
          have S0 : (w2.alloc (.cells (rpO mx (.slice r1 mx.hs.length z1) (.slice r2 mx.ent.length zz2) (.slice r3 mx.n z3)) 45)).cell? ⟨g, p * 8, none⟩ = some (.int .i64 mx.status) ∧ (w2.alloc (.cells (rpO mx (.slice r1 mx.hs.length z1) (.slice r2 mx.ent.length zz2) (.slice r3 mx.n z3)) 45)).cell? ⟨g, p * 8 + 1, none⟩ = some (.int .i64 mx.size) ∧ (w2.alloc (.cells (rpO mx (.slice r1 mx.hs.length z1) (.slice r2 mx.ent.length zz2) (.slice r3 mx.n z3)) 45)).cell? ⟨g, p * 8 + 2, none⟩ = some (.int .i64 mx.a) ∧ (w2.alloc (.cells (rpO mx (.slice r1 mx.hs.length z1) (.slice r2 mx.ent.length zz2) (.slice r3 mx.n z3)) 45)).cell? ⟨g, p * 8 + 3, none⟩ = some (.int .i64 mx.b) ∧ (w2.alloc (.cells (rpO mx (.slice r1 mx.hs.length z1) (.slice r2 mx.ent.length zz2) (.slice r3 mx.n z3)) 45)).cell? ⟨g, p * 8 + 4, none⟩ = some (.string ⟨mx.root.toArray⟩) ∧ (w2.alloc (.cells (rpO mx (.slice r1 mx.hs.length z1) (.slice r2 mx.ent.length zz2) (.slice r3 mx.n z3)) 45)).cell? ⟨g, p * 8 + 5, none⟩ = some (.slice s1 mx.hs.length t1) ∧ (w2.alloc (.cells (rpO mx (.slice r1 mx.hs.length z1) (.slice r2 mx.ent.length zz2) (.slice r3 mx.n z3)) 45)).cell? ⟨g, p * 8 + 6, none⟩ = some (.slice s2 mx.ent.length t2) ∧ (w2.alloc (.cells (rpO mx (.slice r1 mx.hs.length z1) (.slice r2 mx.ent.length zz2) (.slice r3 mx.n z3)) 45)).cell? ⟨g, p * 8 + 7, none⟩ = some (.slice s3 mx.n t3) ∧ (w2.alloc (.cells (rpO mx (.slice r1 mx.hs.length z1) (.slice r2 mx.ent.length zz2) (.slice r3 mx.n z3)) 45)).cell? ⟨w2.heap.size, 0, none⟩ = some (.int .i64 mx.status) ∧ (w2.alloc (.cells (rpO mx (.slice r1 mx.hs.length z1) (.slice r2 mx.ent.length zz2) (.slice r3 mx.n z3)) 45)).cell? ⟨w2.heap.size, 1, none⟩ = some (.int .i64 mx.size) ∧ (w2.alloc (.cells (rpO mx (.slice r1 mx.hs.length z1) (.slice r2 mx.ent.length zz2) (.slice r3 mx.n z3)) 45)).cell? ⟨w2.heap.size, 2, none⟩ = some (.int .i64 mx.a) ∧ (w2.alloc (.cells (rpO mx (.slice r1 mx.hs.length z1) (.slice r2 mx.ent.length zz2) (.slice r3 mx.n z3)) 45)).cell? ⟨w2.heap.size, 3, none⟩ = some (.int .i64 mx.b) ∧ (w2.alloc (.cells (rpO mx (.slice r1 mx.hs.length z1) (.slice r2 mx.ent.length zz2) (.slice r3 mx.n z3)) 45)).cell? ⟨w2.heap.size, 4, none⟩ = some (.string ⟨mx.root.toArray⟩) ∧ (w2.alloc (.cells (rpO mx (.slice r1 mx.hs.length z1) (.slice r2 mx.ent.length zz2) (.slice r3 mx.n z3)) 45)).cell? ⟨w2.heap.size, 5, none⟩ = some (.slice r1 mx.hs.length z1) ∧ (w2.alloc (.cells (rpO mx (.slice r1 mx.hs.length z1) (.slice r2 mx.ent.length zz2) (.slice r3 mx.n z3)) 45)).cell? ⟨w2.heap.size, 6, none⟩ = some (.slice r2 mx.ent.length zz2) ∧ (w2.alloc (.cells (rpO mx (.slice r1 mx.hs.length z1) (.slice r2 mx.ent.length zz2) (.slice r3 mx.n z3)) 45)).cell? ⟨w2.heap.size, 7, none⟩ = some (.slice r3 mx.n z3) := by
            obtain ⟨g', eg, hg, o0, o1, o2, o3, o4, o5, o6, o7⟩ := CL.out _ B3
            injection eg with eg
            injection eg with eg
            subst eg
            obtain ⟨q0, q1, q2, q3, q4, q5, q6, q7⟩ := row8R n2
            exact ⟨o0, o1, o2, o3, o4, o5, o6, o7, q0, q1, q2, q3, q4, q5, q6, q7⟩
          have SA : Hid (∀ w', Below (w2.alloc (.cells (rpO mx (.slice r1 mx.hs.length z1) (.slice r2 mx.ent.length zz2) (.slice r3 mx.n z3)) 45)).heap.size (w2.alloc (.cells (rpO mx (.slice r1 mx.hs.length z1) (.slice r2 mx.ent.length zz2) (.slice r3 mx.n z3)) 45)) w' → w'.cell? ⟨g, p * 8, none⟩ = some (.int .i64 mx.status) ∧ w'.cell? ⟨g, p * 8 + 1, none⟩ = some (.int .i64 mx.size) ∧ w'.cell? ⟨g, p * 8 + 2, none⟩ = some (.int .i64 mx.a) ∧ w'.cell? ⟨g, p * 8 + 3, none⟩ = some (.int .i64 mx.b) ∧ w'.cell? ⟨g, p * 8 + 4, none⟩ = some (.string ⟨mx.root.toArray⟩) ∧ w'.cell? ⟨g, p * 8 + 5, none⟩ = some (.slice s1 mx.hs.length t1) ∧ w'.cell? ⟨g, p * 8 + 6, none⟩ = some (.slice s2 mx.ent.length t2) ∧ w'.cell? ⟨g, p * 8 + 7, none⟩ = some (.slice s3 mx.n t3) ∧ w'.cell? ⟨w2.heap.size, 0, none⟩ = some (.int .i64 mx.status) ∧ w'.cell? ⟨w2.heap.size, 1, none⟩ = some (.int .i64 mx.size) ∧ w'.cell? ⟨w2.heap.size, 2, none⟩ = some (.int .i64 mx.a) ∧ w'.cell? ⟨w2.heap.size, 3, none⟩ = some (.int .i64 mx.b) ∧ w'.cell? ⟨w2.heap.size, 4, none⟩ = some (.string ⟨mx.root.toArray⟩) ∧ w'.cell? ⟨w2.heap.size, 5, none⟩ = some (.slice r1 mx.hs.length z1) ∧ w'.cell? ⟨w2.heap.size, 6, none⟩ = some (.slice r2 mx.ent.length zz2) ∧ w'.cell? ⟨w2.heap.size, 7, none⟩ = some (.slice r3 mx.n z3)) := fun w' hb => by
            obtain ⟨g', eg, hg, o0, o1, o2, o3, o4, o5, o6, o7⟩ := CL.out _ (B3.trans (hb.mono B3.size))
            injection eg with eg
            injection eg with eg
            subst eg
            obtain ⟨q0, q1, q2, q3, q4, q5, q6, q7⟩ := row8R (below_rowR n2 hb)
            exact ⟨o0, o1, o2, o3, o4, o5, o6, o7, q0, q1, q2, q3, q4, q5, q6, q7⟩
          have HB3 := hid B3
          clear d1 G1 G3 b2 b3 n2 z2 i1 c0 B3 KB hhi
          go_wp2
          go_region_held3 (fun w' => w'.cell? ⟨g, p * 8, none⟩ = some (.int .i64 mx.status) ∧ w'.cell? ⟨g, p * 8 + 1, none⟩ = some (.int .i64 mx.size) ∧ w'.cell? ⟨g, p * 8 + 2, none⟩ = some (.int .i64 mx.a) ∧ w'.cell? ⟨g, p * 8 + 3, none⟩ = some (.int .i64 mx.b) ∧ w'.cell? ⟨g, p * 8 + 4, none⟩ = some (.string ⟨mx.root.toArray⟩) ∧ w'.cell? ⟨g, p * 8 + 5, none⟩ = some (.slice s1 mx.hs.length t1) ∧ w'.cell? ⟨g, p * 8 + 6, none⟩ = some (.slice s2 mx.ent.length t2) ∧ w'.cell? ⟨g, p * 8 + 7, none⟩ = some (.slice s3 mx.n t3) ∧ w'.cell? ⟨w2.heap.size, 0, none⟩ = some (.int .i64 mx.status) ∧ w'.cell? ⟨w2.heap.size, 1, none⟩ = some (.int .i64 mx.size) ∧ w'.cell? ⟨w2.heap.size, 2, none⟩ = some (.int .i64 mx.a) ∧ w'.cell? ⟨w2.heap.size, 3, none⟩ = some (.int .i64 mx.b) ∧ w'.cell? ⟨w2.heap.size, 4, none⟩ = some (.string ⟨mx.root.toArray⟩) ∧ w'.cell? ⟨w2.heap.size, 5, none⟩ = some (.slice r1 mx.hs.length z1) ∧ w'.cell? ⟨w2.heap.size, 6, none⟩ = some (.slice r2 mx.ent.length zz2) ∧ w'.cell? ⟨w2.heap.size, 7, none⟩ = some (.slice r3 mx.n z3)) (first | exact S0 | exact S1) (first | (go_at_call 17; (with_reducible refine i7.mono ?_); rintro e w5 ⟨rfl, g5⟩; have S1 := SA.out w5 (((Below.refl _ _).drew).trans g5); have B5 := hid (HB3.out.trans ((((Below.refl _ _).drew).trans g5).mono HB3.out.size)); clear g5))
          obtain ⟨o0, o1, o2, o3, o4, o5, o6, o7, q0, q1, q2, q3, q4, q5, q6, q7⟩ := S1
          have i8 := NX.out w5 B5.out
          have hp4' := hid hp4
          clear S0 SA i7 q0 q1 q2 q3 q4 q5 q6 q7 CL NX
          go_wp2_with (go_at_call 25; fail)
          go_at_call 25
          refine i8.mono ?_
          rintro e w6 ⟨rfl, vt6, va6, I6⟩
          have J6 : Hid (∃ W vt va, Lq w w6 k W (A + 1) A S B (.slice (some ⟨g, 0, none⟩) 4 pc) T (p + 1) vt va) := ⟨_, _, _, I6⟩
          clear I6
          go_wp2
          exact ⟨⟨p + 1, hp4'.out, by go_num, J6⟩, by have := hp4'.out; simp [intOf]; omega⟩
        · obtain rfl : p = 4 := by omega
          have y1 : ¬ ((4 : Nat) : Int) < 4 := by omega
          have tk : T.take 4 = T := List.take_of_length_le (by rw [hTl.out]; exact Nat.le_refl _)
          have g := I.g
          rw [tk] at g
          have i8 := ownedR17_any I.c.trs g I.c.hX I.c.hB I.hi (by rw [hTl.out]; exact Nat.le_refl _)
          have BL := hid I.c.bl
          have hwB : w.heap.size ≤ B := by have := I.c.h0; have := I.c.hX; omega
          clear I g tk
          go_wp2_with (go_at_call 22; fail)
          go_at_call 22
          refine i8.mono ?_
          rintro e w6 ⟨rfl, b6⟩
          have B6 := hid (BL.out.trans (b6.mono hwB))
          clear b6
          go_wp2
          go_ret
          exact ⟨rfl, B6.out⟩
end Msg
end Go.Proofs.YtmhgdcfmfcjagaaGreatDoor

namespace Go.Proofs.YtmhgdcfmfcjagaaGreatDoor
open Go.ChangeShapes Go.WideShapes Go.ChangeAt Go.RowKit
theorem stays_all {H : Type} {enc : TypeId × Value → H} {P : Program} (hl : laidOutB P = true) {W W' : World} (hb : Below W.heap.size W W') {sp : Nat → Bool} :
    ∀ {ts : List TypeId} {vs : List Value} {ds : List (DataW H)} {p : List MemPlace}, (ts.all fun t => P.readableRec t && decide (t < P.types.size)) = true →
      DataW.TrodAll enc P W 0 (fun _ => true) true ts vs ds p → (∀ x ∈ p, x.block < W.heap.size) → (∀ x ∈ p, sp x.block = true) → DataW.TrodAll enc P W' 0 sp true ts vs ds p
  | [], _, _, _, _, h, _, _ => by obtain ⟨rfl, rfl, rfl⟩ := trodAll_nil h; exact trodAll_mk0
  | t :: ts, _, _, _, ht, h, hlt, hs => by
    obtain ⟨v, vs1, d, ds1, a, b, rfl, rfl, rfl, h1, h2⟩ := trodAll_cons h
    simp only [List.all_cons, Bool.and_eq_true, decide_eq_true_eq] at ht
    refine trodAll_cons_mk (WideElems.Trod_stays hl ht.1.1 ht.1.2 h1 (fun x hx => hb.same (hlt x (by simp [hx]))) (fun x hx => hs x (by simp [hx]))) ?_
    exact stays_all hl hb (by simpa using ht.2) h2 (fun x hx => hlt x (by simp [hx])) (fun x hx => hs x (by simp [hx]))
theorem post_true {H : Type} {enc : TypeId × Value → H} {P : Program} {f : Func} {s : ChangeSpec} {W W' : World} {args : Array Value} {ds gs : List (DataW H)} {before : List MemPlace} {bt : TypeId} (hl : laidOutB P = true)
    (hts : (f.params.toList.all fun t => P.readableRec t && decide (t < P.types.size)) = true) (hrt : f.resultTypes = #[bt]) (hbt : P.underlying bt = some .bool)
    (hvs : s.vars = []) (hr : (s.fn H (ds ++ gs)).results = [.lit (.bool true)]) (ha : (s.fn H (ds ++ gs)).args = ds) (hv : (s.fn H (ds ++ gs)).vars = [])
    (hW : DataW.Whole enc P f.params.toList s.vars false W args.toList ds gs before) (hb : Below W.heap.size W W') :
    s.post enc P f false true false false W args (.bool true) W' := by
  have hW' := hW
  have hlt : ∀ x ∈ before, x.block < W.heap.size := fun x hx => by simpa using hW.lt x hx
  obtain ⟨p, q, hA, hV, rfl, _, _⟩ := hW
  rw [hvs] at hV
  obtain ⟨rfl, rfl⟩ := trodVars_none hV
  refine ⟨ds, [], p ++ [], [], p, [], hW', ?_, ?_, ?_, hb.frame _, fun h => by cases h⟩
  · rw [hr, hrt]
    exact trodAll_cons_mk (shut_bool hbt true) trodAll_mk0
  · rw [ha]
    exact stays_all hl hb hts hA (fun x hx => hlt x (by simp [hx])) (fun x hx => by simpa using hlt x (by simp [hx]))
  · rw [hv, hvs]; rfl
theorem own : ownKnob Tryz.prog.godebug = none := by kernel_rfl
theorem laidOut : laidOutB Tryz.prog = true := by kernel_rfl
theorem gEt : Tryz.prog.globalNamed "errors.errorType" = some 0 := by kernel_rfl
theorem gRt : (Tryz.prog.cutTypes.find? (·.1 == "internal/reflectlite.rtype")).map (·.2) = some 178 := by kernel_rfl
theorem gRow : ((List.range 242).filter fun t => Tryz.prog.rowNamed t [101, 114, 114, 111, 114]) = [93] := by kernel_rfl
theorem gSize : Tryz.prog.types.size = 242 := by kernel_rfl
def errLaid : List (String × DataW Unit) := [("errors.errorType", Rows.laid_errors_errorType)]
theorem lay_of {W : World} (h : laidMetH Tryz.prog errLaid W) : Lay W := by
  have h' : laidMet Tryz.prog [] W ∧ handlesMet Tryz.prog errLaid W := h
  obtain ⟨name, u, ty, e1, e2, e3, e4, e5⟩ := h'.2 _ (List.mem_singleton.2 rfl)
  have en : name = [101, 114, 114, 111, 114] := (Option.some.inj e1).symm
  subst en
  obtain rfl := Option.some.inj (gRt.symm.trans e2)
  have hm : ty ∈ (List.range 242).filter fun t => Tryz.prog.rowNamed t [101, 114, 114, 111, 114] := List.mem_filter.2 ⟨List.mem_range.2 (by rw [← gSize]; exact e3), e4⟩
  rw [gRow] at hm
  obtain rfl := List.mem_singleton.1 hm
  have hh : typeHandle Tryz.prog 93 = .pointer (some ⟨1, 93, none⟩) := by kernel_rfl
  rw [hh] at e5
  have h := World.var?_cell gEt e5 0
  simp at h
  exact h
noncomputable def laidWorld (os : Os) : World :=
  let w0 := World.holding Tryz.prog os ⟨#[], #[], []⟩
  { w0 with heap := w0.heap.modify 0 fun
      | .cells _ t frozen => .cells #[.iface 178 (.agg #[.pointer (some ⟨1, 93, none⟩)])] t frozen
      | o => o }
theorem laidWorld_met (os : Os) (args : Array Value) : laidMetH Tryz.prog errLaid ((laidWorld os).forCall (fun _ _ => 0) ⟨#[], args, []⟩).memory :=
  laidMetH_of_parts (laidMet_nil _ _) (by kernel_rfl)
end Go.Proofs.YtmhgdcfmfcjagaaGreatDoor
