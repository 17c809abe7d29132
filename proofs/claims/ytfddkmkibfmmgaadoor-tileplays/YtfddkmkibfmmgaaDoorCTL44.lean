import Derived.Test.YtfddkmkibfmmgaaDoorCTL42
import Derived.Deep.RegionLaw
namespace Go.Proofs.YtfddkmkibfmmgaaDoor
open Go.RowKit
def OwnS (v : Value) : Nat → Prop := fun k => v.ownBlock = some k
theorem Keep.setCell {S : Nat → Prop} {w w' : World} (h : Keep S w w') (g k : Nat) (y : Value) (hg : S g) : Keep S w (w'.setCell ⟨g, k, none⟩ y) := h.trans (Keep.ofSet (S := S) w' g k y hg) fun _ _ e => e
theorem Own.setT {w : World} {base g cap : Nat} {cs : List Value} (h : Own w base (.slice (some ⟨g, 0, none⟩) cs.length cap) cs) (k : Nat) (hk : k < cs.length) (x : Value) :
    Own (w.setCell ⟨g, k, none⟩ x) base (.slice (some ⟨g, 0, none⟩) (cs.set k x).length cap) (cs.set k x) := by
  rcases h with ⟨h, _⟩ | ⟨g', cap', h, h1, h2, h3, h4, h5, h6⟩
  · cases h
  · injection h with e1 e2 e3
    injection e1 with e1
    injection e1 with e1
    subst e1 e3
    refine .inr ⟨g, cap, rfl, h1, by rw [List.length_set]; exact h2, h3, fun j v hv => ?_, fun j hj => ?_, by simpa [World.setCell] using h6⟩
    · rw [Nat.zero_add]
      rw [List.getElem?_set] at hv
      split at hv
      · rename_i e
        subst e
        cases hv
        have := (h5 k (by omega)).1
        rw [Nat.zero_add] at this
        exact World.cell?_setCell_same' _ _ _ this
      · rename_i e
        have := h4 j v hv
        rw [Nat.zero_add] at this
        exact (World.cell?_setCell_other _ _ _ _ (by intro h; injection h; omega)).trans this
    · have := h5 j hj
      rw [Nat.zero_add] at this ⊢
      refine ⟨?_, by rw [World.frozen?_setCell]; exact this.2⟩
      by_cases e : j = k
      · subst e
        rw [World.cell?_setCell_same' _ _ _ this.1]; rfl
      · rw [World.cell?_setCell_other _ _ _ _ (by intro h; injection h; omega)]
        exact this.1
namespace Wb
theorem drop_set {α : Type} (L : List α) (k : Nat) (m : α) (hk : k < L.length) : (List.replicate k m ++ L.drop k).set k m = List.replicate (k + 1) m ++ L.drop (k + 1) := by
  rw [List.set_append_right _ _ (by simp), List.length_replicate, Nat.sub_self, List.drop_eq_getElem_cons hk, List.replicate_succ', List.append_assoc]
  rfl
theorem own_there {w : World} {base g n c : Nat} {cs : List Value} (h : Own w base (.slice (some ⟨g, 0, none⟩) n c) cs) {k : Nat} (hk : k < cs.length) : ∃ x, w.cell? ⟨g, k, none⟩ = some x ∧ w.frozen? ⟨g, k, none⟩ = false := by
  rcases h with ⟨h, _⟩ | ⟨g', c', h, h1, h2, h3, h4, h5, h6⟩
  · cases h
  · injection h with e1
    injection e1 with e1
    injection e1 with e1
    subst e1
    have a := h4 k cs[k] (List.getElem?_eq_getElem hk)
    have b := (h5 k (by omega)).2
    rw [Nat.zero_add] at a b
    exact ⟨_, a, b⟩

set_option maxRecDepth 100000 in
set_option maxHeartbeats 2000000 in
theorem owned_take (X b2 i : Nat) (ρ : Rol) (S : BS) (x : Value) (L : List Value) (w : World) (h : Bk w X ρ S) (hx : Own w b2 x L) (hb2 : X ≤ b2) (hL : L.length ≤ 1100000) (hfr : ∀ g, x.ownBlock = some g → ρ g = none) (hG : S.GT.length = 6 * i) (hi : i ≤ 250) (hkp : S.kp = false) :
    Calls Tryd.prog 73 #[.pointer (some ⟨X, 0, none⟩), x] w fun r w' => r = .returned (.tuple #[]) ∧ ∃ ρ' v' G', Bk w' X ρ' { S with vT := v', GT := G' } ∧ G'.length = 6 * (i + 1) ∧ Keep (KS ρ x) w w' ∧ Nw w ρ x ρ' := by
  obtain ⟨ia, ic, hvI⟩ := h.T.own.shape
  rw [hG] at hvI
  have c0 : w.cell? ⟨X, 4, none⟩ = some S.vT := by rw [cell_of_row _ _ _ _ _ _ h.row]; rfl
  rw [hvI] at c0
  have c7 : w.cell? ⟨X, 7, none⟩ = some (.bool false) := by rw [cell_of_row _ _ _ _ _ _ h.row, ← hkp]; rfl
  obtain ⟨xa, xc, rfl⟩ := hx.shape
  have hX := lt_of_heap h.row
  obtain ⟨z, hmv⟩ : ∃ z, Hid (mvT i = .string z) := ⟨_, (show mvT i = .string ⟨(mrk i).toArray⟩ from rfl)⟩
  have q1 : ((6 * i : Nat) : Int) / 6 = (i : Int) := by omega
  obtain ⟨n6, hn6⟩ : ∃ n6, 6 * i = n6 := ⟨_, rfl⟩
  rw [hn6] at c0 q1
  have HB := hid h
  have HX := hid hx
  obtain ⟨l, hl⟩ : ∃ l, L.length = l := ⟨_, rfl⟩
  have hll := hid hl
  rw [hl] at hL hfr ⊢
  have Hfr := hid hfr
  have ER : ∀ m : Value, List.replicate 0 m ++ L.drop 0 = L := fun m => by simp
  clear h hx hfr hl
  go_enter Tryd.func73, Tryd.ntmps73
  have hmk := fun w => show Calls Tryd.prog 57 #[.int .i64 (i : Int)] w fun e w' => e = .returned (mvT i) ∧ Below w.heap.size w w' from mark_at i (by omega) w
  rw [hmv.out] at hmk
  go_wp2_with (go_at_call 57; fail)
  refine (hmk _).mono ?_
  rintro r w0 ⟨rfl, hw0⟩
  have X0 : Hid (Own w0 b2 (.slice xa l xc) L) := by
    have := HX.out.below hw0 (Nat.le_refl _)
    rw [hll.out] at this
    exact this
  have B0 := hid (HB.out.below hw0)
  have BB0 : Hid (Keep (KS ρ (.slice xa l xc)) w w0) := Keep.ofBelow hw0
  clear HB HX hmk c0 c7
  go_wp2
  go_loopw [5] (fun ii w' => ∃ k : Nat, k ≤ l ∧ ii = .int .i64 (k : Int) ∧ Hid (Own w' b2 (.slice xa l xc) (List.replicate k (mvT i) ++ L.drop k)) ∧ Hid (Keep (OwnS (.slice xa l xc)) w0 w')) (fun ii _ => l - (intOf ii).toNat)
  case atStart => exact ⟨0, by omega, rfl, hid (by rw [ER]; exact X0.out), hid (Keep.refl _ _)⟩
  case round =>
    obtain ⟨k, hk, rfl, hO, hK⟩ := hrel
    by_cases hkl : k < l
    · have b0 : (k : Int) < (l : Int) := by omega
      have hlen : (List.replicate k (mvT i) ++ L.drop k).length = l := by rw [List.length_append, List.length_replicate, List.length_drop, hll.out]; omega
      rcases own_cases hO.out with ⟨e, _⟩ | ⟨g, c, e, eg⟩
      · injection e with _ e; omega
      · rw [hlen] at e
        injection e with e1 e2 e3
        subst e1 e3
        have O1 := hO.out
        obtain ⟨y, d1, d2⟩ := own_there O1 (k := k) (by rw [hlen]; exact hkl)
        have O2 := Own.setT (by rw [hlen]; exact O1) k (by rw [hlen]; exact hkl) (mvT i)
        rw [drop_set L k _ (by rw [hll.out]; exact hkl)] at O2
        have hlen2 : (List.replicate (k + 1) (mvT i) ++ L.drop (k + 1)).length = l := by rw [List.length_append, List.length_replicate, List.length_drop, hll.out]; omega
        rw [hlen2] at O2
        have K2 := hK.out.setCell g k (mvT i) eg
        rw [hmv.out] at O2 K2
        have O3 := hid O2
        have K3 := hid K2
        clear O1 O2 K2 hO hK hlen hlen2 eg
        go_wp2
        exact ⟨⟨k + 1, by omega, by go_num, (by rw [hmv.out]; exact O3), K3⟩, by simp [intOf]; omega⟩
    · obtain rfl : k = l := by omega
      have b0 : ¬ (k : Int) < (k : Int) := by omega
      have hO1 := hO.out
      rw [List.drop_of_length_le (by rw [hll.out]; exact Nat.le_refl _), List.append_nil] at hO1
      have hB1 : Bk wr X ρ S := B0.out.same hK.out.size fun j r hr => hK.out.block j (B0.out.lt j r hr).2 fun e => by have := Hfr.out j e; rw [this] at hr; cases hr
      obtain ⟨ρ1, hB2, hX2, hR2⟩ := hB1.adopt (f := 1) (mv := mvT) (fun _ => rfl) hO1 hb2 Hfr.out
      have c1 : wr.cell? ⟨X, 4, none⟩ = some S.vT := by rw [cell_of_row _ _ _ _ _ _ hB2.row]; rfl
      have hcall := growsT_any mvT z X i k ρ1 S.vT (.slice xa k xc) S.GT wr hmv hB2.T hB2.lt hX2 (by rw [hn6]; exact hG ▸ hn6 ▸ rfl) (by omega) (by omega) (by have := lt_of_heap hB2.row; omega)
      rw [hvI, hn6] at c1 hcall
      have HB2 := hid hB2
      have hKX := hid (show Keep (KS ρ (.slice xa k xc)) w0 wr from hK.out.mono (fun j _ e => .inr e))
      have HR2 := hid hR2
      clear hO1 hB1 hB2 hX2 hO hK hR2
      go_wp2_with (go_at_call 58; fail)
      refine hcall.mono ?_
      rintro r w2 ⟨v', ρ2, G2, rfl, F2, hG2, M2⟩
      obtain ⟨e1, hB3⟩ := HB2.out.grownT F2 M2
      obtain ⟨va, vn, vc, rfl⟩ := F2.own.sl
      have r2 := e1.trans HB2.out.row
      have c2 : w2.cell? ⟨X, 4, none⟩ = some S.vT := by rw [cell_of_row _ _ _ _ _ _ r2]; rfl
      have f2 : w2.frozen? ⟨X, 4, none⟩ = false := frozen_of_row _ _ _ _ _ r2
      have hM : Keep (KS ρ (.slice xa k xc)) wr w2 := M2.keep.mono (fun j _ ⟨r, hr, _⟩ => (HR2.out j r hr).imp (fun e => ⟨r, e⟩) id)
      have res : Hid (∃ ρ' v' G', Bk (w2.setCell ⟨X, 4, none⟩ (.slice va vn vc)) X ρ' { S with vT := v', GT := G' } ∧ G'.length = 6 * (i + 1) ∧ Keep (KS ρ (.slice xa k xc)) w (w2.setCell ⟨X, 4, none⟩ (.slice va vn vc)) ∧ Nw w ρ (.slice xa k xc) ρ') :=
        ⟨ρ2, _, G2, hB3, hG2, ((((BB0.out.trans hKX.out (fun _ _ e => e)).trans hM (fun _ _ e => e)).setCell X 4 _ (.inl ⟨_, B0.out.rX⟩))), fun j r hr => by
          have s0 := hw0.size
          have s1 := hKX.out.size
          rcases M2.new j r hr with e | ⟨_, _, _, e | ⟨r0, e, _⟩⟩
          · exact .inl ((HR2.out j r e).imp (fun e => ⟨r, e⟩) id)
          · exact .inr (by omega)
          · exact .inl ((HR2.out j r0 e).imp (fun e => ⟨r0, e⟩) id)⟩
      clear hB3 F2 M2 hM e1 r2 hcall
      go_wp2
      go_end0
      exact ⟨rfl, res.out⟩
end Wb
end Go.Proofs.YtfddkmkibfmmgaaDoor

namespace Go.Proofs.YtfddkmkibfmmgaaDoor
namespace Wb
open Go.RowKit
/-- append(nil, x...) of a list that is owned -/
theorem append_copyG (t e : TypeId) (z : Value) (by_ : Nat) (hb : by_ ≤ 16) (hu : Tryd.prog.underlying t = some (.slice e)) (hinfo : (Tryd.prog.info? e).map (fun i => (i.zero, i.size, i.bytes)) = some (some z, 1, by_)) (hzs : z.cells.size = 1) (w : World) (b2 : Nat) (x : Value) (L : List Value) (hx : Own w b2 x L) (h1 : ∀ u ∈ L, u.oneCell' = true) (hlen : L.length ≤ 1100000) :
    ∃ v' w', (Builtin.append_ #[t, t] t #[.slice none 0 0, x]).run Tryd.prog w = .ok v' w' ∧ Own w' w.heap.size v' L ∧ Below w.heap.size w w' := by
  obtain ⟨i0, hi, hz0, hz1, hz2⟩ := info_parts hinfo
  have zero : ∀ y : Value, Src Tryd.prog 1 t y 0 [] w → (Builtin.append_ #[t, t] t #[.slice none 0 0, y]).run Tryd.prog w = .ok (.slice none 0 0) w := fun y hs => by
    have hc := hs.cells
    rw [← hz1] at hc
    simp [Builtin.append_, run_underlying hu, sizeOf, typeInfo, hi, hs.len, hc]
  by_cases h0 : L.length = 0
  · obtain rfl : L = [] := List.length_eq_zero_iff.1 h0
    obtain ⟨a, c, rfl⟩ := hx.shape
    have hsrc : Src Tryd.prog 1 t (.slice a 0 c) 0 [] w := by
      cases a with
      | none => exact Src.ofNil w hu c
      | some y => exact Src.ofSlice w hu y 0 c [] (by simp) (fun j u hj => by simp at hj) (fun u hu => by simp at hu)
    exact ⟨_, w, zero _ hsrc, Own.nil _ _, Below.refl _ _⟩
  · have hsrc : Src Tryd.prog 1 t x L.length L w := by
      rcases hx with ⟨rfl, h⟩ | ⟨g, cap, rfl, a1, a2, a3, a4, a5, a6⟩
      · subst h; simp at h0
      · exact Src.ofSlice w hu ⟨g, 0, none⟩ L.length cap L (by rw [Nat.mul_one]) (fun j u hj => by rw [Addr.add_mid]; exact a4 j u hj) h1
    obtain ⟨v', w', h1, h2, h3, h4⟩ := run_append_O (P := Tryd.prog) w w.heap.size t t t e i0 z hu hi hz0 hz1 hzs (.slice none 0 0) [] (Own.nil _ _) x L.length L hsrc
      (by rw [hz2]; exact Nat.le_trans (Nat.mul_le_mul (show ([] : List Value).length + L.length ≤ 1100000 by simp; omega) hb) (by decide)) (by rw [maxLen]; simp; omega) (Nat.le_refl _) (fun _ => by omega)
    exact ⟨v', w', h1, by simpa using h2, Below.ofGrown (v := .slice none 0 0) h3 (fun k hk => by cases hk) (Nat.le_refl _)⟩
set_option maxRecDepth 100000 in
set_option maxHeartbeats 2000000 in
theorem owned_free (X b2 : Nat) (ρ : Rol) (S : BS) (x : Value) (L : List Value) (w : World) (h : Bk w X ρ S) (hx : Own w b2 x L) (hb2 : X ≤ b2) (hL : L.length ≤ 1100000) (h1 : ∀ u ∈ L, u.oneCell' = true) (hfr : ∀ g, x.ownBlock = some g → ρ g = none) (h0 : S.o2 = 0) (hu : S.u2.length ≤ 1000) (hv : S.u3.length ≤ 1000) (hkp : S.kp = true) :
    Calls Tryd.prog 73 #[.pointer (some ⟨X, 0, none⟩), x] w fun r w' => r = .returned (.tuple #[]) ∧ ∃ ρ' v' u' v'' u'', Bk w' X ρ' { S with v2 := v', u2 := u', L2 := S.L2 ++ [L], v3 := v'', u3 := u'', L3 := S.L3 ++ [L] } ∧ Keep (KS ρ x) w w' ∧ Nw w ρ x ρ' := by
  have c7 : w.cell? ⟨X, 7, none⟩ = some (.bool true) := by rw [cell_of_row _ _ _ _ _ _ h.row, ← hkp]; rfl
  have hX := lt_of_heap h.row
  have c2 : w.cell? ⟨X, 5, none⟩ = some S.v2 := by rw [cell_of_row _ _ _ _ _ _ h.row]; rfl
  obtain ⟨xa, xn, xc, rfl⟩ := hx.sl
  obtain ⟨v1, w1, hap1, hO1, hG1⟩ := append_one 64 33 (.slice none 0 0) 24 (by decide) Tryd.underlying64 infoLS rfl w X S.v2 S.u2 (.slice xa xn xc) rfl h.f2.own (by omega) (by omega)
  obtain ⟨ρ1, F1, A1, N1⟩ := h.f2.push h.lt hG1 hO1 hx hb2 hL hfr
  obtain ⟨e1, B1⟩ := h.pushed2 F1 A1
  have r1 := e1.trans h.row
  have d1 : w1.cell? ⟨X, 5, none⟩ = some S.v2 := by rw [cell_of_row _ _ _ _ _ _ r1]; rfl
  have g1 : w1.frozen? ⟨X, 5, none⟩ = false := frozen_of_row _ _ _ _ _ r1
  have W1 : Keep (KS ρ (.slice xa xn xc)) w (w1.setCell ⟨X, 5, none⟩ v1) := (hG1.keep.mono (fun j _ e => .inl ⟨_, h.f2.rl j e⟩)).setCell X 5 _ (.inl ⟨_, h.rX⟩)
  have hx1 := (B1.f2.each S.u2.length (.slice xa xn xc) L (by show S.o2 ≤ _; omega) (by simp) (by rw [h.f2.len]; simp)).1
  obtain ⟨w2, hw2⟩ : ∃ w2, w1.setCell ⟨X, 5, none⟩ v1 = w2 := ⟨_, rfl⟩
  rw [hw2] at B1 W1 hx1
  have hX2 := lt_of_heap B1.row
  obtain ⟨c, w3, hap3, hO3, hb3'⟩ := append_copyG 33 9 (.string ⟨#[]⟩) 16 (by decide) Tryd.underlying33 infoS rfl w2.drew X (.slice xa xn xc) L hx1.drew h1 hL
  have hb3 : Below w2.heap.size w2 w3 := (Below.refl w2.heap.size w2).drew.trans hb3'
  have hO3' : Own w3 w2.heap.size c L := hO3
  have B3 := B1.below hb3
  obtain ⟨ca, cn, cc, rfl⟩ := hO3'.sl
  obtain ⟨v4, w4, hap4, hO4, hG4⟩ := append_one 64 33 (.slice none 0 0) 24 (by decide) Tryd.underlying64 infoLS rfl w3 X S.v3 S.u3 (.slice ca cn cc) rfl B3.f3.own (by omega) (by have := hb3.size; omega)
  obtain ⟨ρ4, F4, A4, N4⟩ := B3.f3.push B3.lt hG4 hO4 hO3' (by omega) hL (B1.fresh hO3' (Nat.le_refl _))
  obtain ⟨e4, B4⟩ := B3.pushed3 F4 A4
  have r4 := e4.trans B3.row
  have c4 : w2.cell? ⟨X, 6, none⟩ = some S.v3 := by rw [cell_of_row _ _ _ _ _ _ B1.row]; rfl
  have c5 : w3.cell? ⟨X, 6, none⟩ = some S.v3 := by rw [cell_of_row _ _ _ _ _ _ B3.row]; rfl
  have c6 : (w3.alloc (.cells #[.slice ca cn cc] 33)).cell? ⟨X, 6, none⟩ = some S.v3 := (World.cell?_of_block (w := w3) (Below.heap_alloc w3 _ X (lt_of_heap B3.row))).trans c5
  have d4 : w4.cell? ⟨X, 6, none⟩ = some S.v3 := by rw [cell_of_row _ _ _ _ _ _ r4]; rfl
  have g4 : w4.frozen? ⟨X, 6, none⟩ = false := frozen_of_row _ _ _ _ _ r4
  have hv3 : ∀ j, S.v3.ownBlock = some j → ∃ r, ρ j = some r := fun j e => ⟨_, h.f3.rl j e⟩
  have W4 : Keep (KS ρ (.slice xa xn xc)) w (w4.setCell ⟨X, 6, none⟩ v4) := (((W1.trans (Keep.ofBelow (S := fun _ => False) hb3) (fun _ _ e => e.elim)).trans hG4.keep (fun j _ e => .inl (hv3 j e))).setCell X 6 _ (.inl ⟨_, h.rX⟩))
  have N5 : Nw w ρ (.slice xa xn xc) ρ4 := fun j r hr => by
    have s1 := W1.size
    have s3 := hb3.size
    rcases N4 j r hr with (⟨r0, e⟩ | e) | e
    · exact N1 j r0 e
    · have := hO3'.ge j e
      exact .inr (by omega)
    · exact .inr (by omega)
  obtain ⟨a2, n2, k2, h2⟩ := h.f2.own.sl
  obtain ⟨a2', n2', k2', h2'⟩ := hO1.sl
  obtain ⟨a3, n3, k3, h3⟩ := B3.f3.own.sl
  obtain ⟨a3', n3', k3', h3'⟩ := hO4.sl
  subst h2' h3'
  have res : Hid (∃ ρ' v' u' v'' u'', Bk (w4.setCell ⟨X, 6, none⟩ (.slice a3' n3' k3')) X ρ' { S with v2 := v', u2 := u', L2 := S.L2 ++ [L], v3 := v'', u3 := u'', L3 := S.L3 ++ [L] } ∧ Keep (KS ρ (.slice xa xn xc)) w (w4.setCell ⟨X, 6, none⟩ (.slice a3' n3' k3')) ∧ Nw w ρ (.slice xa xn xc) ρ') := ⟨ρ4, _, _, _, _, B4, W4, N5⟩
  replace h3 : S.v3 = .slice a3 n3 k3 := h3
  rw [h2] at c2 d1 hap1
  rw [h3] at c4 c5 c6 d4 hap4
  clear N1 N4 N5 hv3 B1 B3 B4 F1 A1 F4 A4 e1 e4 r1 r4 W1 W4 hO1 hG1 hO3 hO3' hO4 hG4 hb3 hb3' hx1 hx h hfr
  go_enter Tryd.func73, Tryd.ntmps73
  go_wp2_with (at_builtin; go_must (refine Lib.wpList_append_run _ rfl _ _ 64 64 rfl _ _ rfl rfl _ _ hap1 ?_))
  try rw [hw2]
  go_region_law (first
    | (refine step_append_run rfl _ _ 33 rfl (.slice none 0 0) (.slice xa xn xc) _ w3 rfl rfl hap3 ?_)
    | (refine step_append_run rfl _ _ 64 rfl _ _ _ w4 rfl rfl hap4 ?_))
  all_goals
    go_wp2
    (try simp only [Exit.inBlock, Exit.then])
    refine bodyPost_ret (results_none rfl _ _ _) rfl ?_
    exact ⟨rfl, res.out⟩
end Wb
end Go.Proofs.YtfddkmkibfmmgaaDoor

namespace Go.Proofs.YtfddkmkibfmmgaaDoor
namespace Wb
open Go.RowKit
theorem Fam.cells {w : World} {X f : Nat} {ρ : Rol} {mv : Nat → Value} {v : Value} {GS : List Value} (h : Fam w X ρ f mv v GS) {n : Nat} {s : Value} (hs : GS[n]? = some s) :
    (s = .slice none 0 0) ∨ ∃ g m c, s = .slice (some ⟨g, 0, none⟩) m c ∧ m ≤ 2000000 ∧ (∃ r, ρ g = some r) ∧ ∀ j, j < m → w.cell? ⟨g, j, none⟩ = some (mv (n / 6)) := by
  rcases h.ent n s hs with rfl | ⟨g, m, c, l, rfl, h1, h2, h3⟩
  · exact .inl rfl
  · exact .inr ⟨g, m, c, rfl, by omega, ⟨_, h3⟩, fun j hj => h.mkd g _ l h3 j (by omega)⟩
theorem ownHead {w : World} {base : Nat} {a : Option Addr} {n c : Nat} {cs : List Value} (h : Own w base (.slice a n c) cs) {k : Nat} {x : Value} (hk : cs[k]? = some x) : ∃ g, a = some ⟨g, 0, none⟩ ∧ w.cell? ⟨g, k, none⟩ = some x ∧ g < w.heap.size := by
  rcases own_cases h with ⟨e, e2⟩ | ⟨g, c', e, eg⟩
  · subst e2; simp at hk
  · injection e with e1
    exact ⟨g, e1, own_cell h eg hk, h.lt g eg⟩
set_option maxRecDepth 100000 in
set_option maxHeartbeats 4000000 in
theorem kept_any (X : Nat) (ρ : Rol) (S : BS) (w : World) (h : Bk w X ρ S) (hT : S.GT.length ≤ 1500) :
    Calls Tryd.prog 31 #[.pointer (some ⟨X, 0, none⟩)] w fun r w' => r = .returned (.bool true) ∧ Below w.heap.size w w' := by
  obtain ⟨ta, tc, hvT⟩ := h.T.own.shape
  obtain ⟨NT, hNT⟩ : ∃ n, S.GT.length = n := ⟨_, rfl⟩
  have HNT := hid hNT
  rw [hNT] at hvT hT
  have c1 : w.cell? ⟨X, 4, none⟩ = some S.vT := by rw [cell_of_row _ _ _ _ _ _ h.row]; rfl
  rw [hvT] at c1
  have HB := hid h
  have OT := hid (by have := h.T.own; rw [hvT] at this; exact this)
  have hX := hid (lt_of_heap h.row)
  clear h hNT
  go_enter Tryd.func31, Tryd.ntmps31
  go_wp2
  go_loopw [3] (fun i w' => ∃ k : Nat, k ≤ NT ∧ i = .int .i64 (k : Int) ∧ Hid (Below w.heap.size w w')) (fun i _ => NT - (intOf i).toNat)
  case atStart => exact ⟨0, by omega, rfl, Below.refl _ _⟩
  case round =>
    obtain ⟨k2, hk2, rfl, hB⟩ := hrel
    have e1 := (hB.out.cell (p := ⟨X, 4, none⟩) hX.out).trans c1
    by_cases hkN2 : k2 < NT
    · have b1 : (k2 : Int) < (NT : Int) := by omega
      obtain ⟨s, hs⟩ : ∃ s, S.GT[k2]? = some s := ⟨_, List.getElem?_eq_getElem (by rw [HNT.out]; exact hkN2)⟩
      obtain ⟨tb, rfl, d0, htb⟩ := ownHead OT.out hs
      have Htb := hid htb
      have d1 := (hB.out.cell (p := ⟨tb, k2, none⟩) htb).trans d0
      rcases HB.out.T.cells hs with rfl | ⟨g, m, c, rfl, hm, ⟨r, hr⟩, hcell⟩
      · clear hs htb
        go_wp2
        go_loopw [4] (fun i w' => i = .int .i64 0 ∧ Hid (Below w.heap.size w w')) (fun _ _ => 0)
        case atStart => exact ⟨rfl, hB⟩
        case round =>
          clear hB e1 d1
          obtain ⟨rfl, hB⟩ := hrel
          have e1 := (hB.out.cell (p := ⟨X, 4, none⟩) hX.out).trans c1
          have d1 := (hB.out.cell (p := ⟨tb, k2, none⟩) Htb.out).trans d0
          go_wp2
          exact ⟨⟨k2 + 1, by omega, by go_num, hB⟩, by simp [intOf]; omega⟩
      · obtain ⟨q, hq⟩ : ∃ q, k2 / 6 = q := ⟨_, rfl⟩
        rw [hq] at hcell
        have q1 : (k2 : Int) / 6 = (q : Int) := by omega
        have HC := hid hcell
        have q2 : q ≤ 250 := by omega
        have q3 : IntKind.i64.wrap (q : Int) = (q : Int) := by rw [IntKind.wrap_i64]; omega
        have Hg := hid (HB.out.lt g r hr).2
        obtain ⟨MB, hMB⟩ : ∃ MB : ByteArray, Hid (mvT q = .string MB) := ⟨⟨(mrk q).toArray⟩, rfl⟩
        have hmk := fun w' => show Calls Tryd.prog 57 #[.int .i64 (q : Int)] w' fun e w'' => e = .returned (mvT q) ∧ Below w'.heap.size w' w'' from mark_at q (by omega) w'
        rw [hMB.out] at hmk
        have y1 : (MB.toList != MB.toList) = false := by simp
        have y2 : (MB.toList == MB.toList) = true := by simp
        clear hs hcell hq htb hr
        go_wp2
        go_loopw [4] (fun i w' => ∃ j : Nat, j ≤ m ∧ i = .int .i64 (j : Int) ∧ Hid (Below w.heap.size w w')) (fun i _ => m - (intOf i).toNat)
        case atStart => exact ⟨0, by omega, rfl, hB⟩
        case round =>
          clear hB e1 d1
          obtain ⟨j, hj, rfl, hB⟩ := hrel
          have e1 := (hB.out.cell (p := ⟨X, 4, none⟩) hX.out).trans c1
          have d1 := (hB.out.cell (p := ⟨tb, k2, none⟩) Htb.out).trans d0
          by_cases hjm : j < m
          · have b2 : (j : Int) < (m : Int) := by omega
            have e0 := HC.out j hjm
            rw [hMB.out] at e0
            have f1 := (hB.out.cell (p := ⟨g, j, none⟩) Hg.out).trans e0
            go_wp2
            go_region_held3 (fun w' => w'.cell? ⟨X, 4, none⟩ = some (.slice (some ⟨tb, 0, none⟩) NT tc) ∧ w'.cell? ⟨tb, k2, none⟩ = some (.slice (some ⟨g, 0, none⟩) m c) ∧ w'.cell? ⟨g, j, none⟩ = some (.string MB)) (first | exact e3 | exact ⟨e1, d1, f1⟩) (first
              | (go_at_call 57; (with_reducible refine (hmk _).mono ?_); rintro r w3 ⟨rfl, hw3'⟩; have hw3 := (Below.refl wr.heap.size wr).drew.trans hw3'; have B3 := hid (hB.out.trans (hw3.mono hB.out.size)); have e3 := And.intro ((B3.out.cell (p := ⟨X, 4, none⟩) hX.out).trans c1) (And.intro ((B3.out.cell (p := ⟨tb, k2, none⟩) Htb.out).trans d0) ((B3.out.cell (p := ⟨g, j, none⟩) Hg.out).trans e0))))
            go_wp2
            exact ⟨⟨j + 1, by omega, by go_num, B3⟩, by simp [intOf]; omega⟩
          · have b2 : ¬ (j : Int) < (m : Int) := by omega
            go_wp2
            exact ⟨⟨k2 + 1, by omega, by go_num, hB⟩, by simp [intOf]; omega⟩
    · have b1 : ¬ (k2 : Int) < (NT : Int) := by omega
      go_wp2
      go_ret
      exact ⟨rfl, hB.out⟩
end Wb
end Go.Proofs.YtfddkmkibfmmgaaDoor
