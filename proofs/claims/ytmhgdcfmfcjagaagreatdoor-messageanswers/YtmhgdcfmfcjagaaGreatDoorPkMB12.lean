import Derived.Test.YtmhgdcfmfcjagaaGreatDoorPkMB5
import Derived.Test.YtmhgdcfmfcjagaaGreatDoorPkMV4
import Derived.Test.YtmhgdcfmfcjagaaGreatDoorPkMF2b
import Derived.Deep.DeepCutAuto
namespace Go.Proofs.YtmhgdcfmfcjagaaGreatDoor
open Go.RowKit Cod
namespace Msg
def GrPost (w : World) (W X : Nat) (vt vr : Value) (Lt Lr : List Value) (e : Ending) (w' : World) : Prop :=
  e = .returned (.tuple #[]) ∧ ∃ vt' vr', Bh w' W X vt' vr' Lt Lr ∧ Gtr w w' X vt vr vt' vr'
theorem epcs_cells {w : World} {E : List Ep} {a : Option Addr} {c : Nat} (h : OwnM 8 w (.slice a E.length c) E.length (epcs E)) {j : Nat} {m : Ep} (hm : E[j]? = some m) : ∃ g, a = some ⟨g, 0, none⟩ ∧ ∀ i u, i < 8 → (epc m)[i]? = some u → w.cell? ⟨g, j * 8 + i, none⟩ = some u := by
  obtain ⟨g, c', e, _, _⟩ := h.cell (j := j * 8 + 0) (u := .int .i64 m.x.status) (by rw [epcs_at E j m 0 hm (by omega)]; rfl)
  injection e with e
  refine ⟨g, e, fun i u hi hu => ?_⟩
  obtain ⟨g', c'', e', h1, _⟩ := h.cell (j := j * 8 + i) (u := u) (by rw [epcs_at E j m i hm hi]; exact hu)
  injection e' with e'
  rw [e] at e'
  injection e' with e'
  injection e' with e'
  rw [e']; exact h1
theorem take_eps_snoc {E : List Ep} {j : Nat} {m : Ep} (h : E[j]? = some m) (L : List Value) : L ++ eps (E.take (j + 1)) = (L ++ eps (E.take j)) ++ [m.h, m.e] := by
  rw [List.take_add_one, h, List.append_assoc]
  simp [eps]
theorem take_map_snocR {E : List Ep} {j : Nat} {m : Ep} (h : E[j]? = some m) (f : Ep → Value) (L : List Value) (u : Value) : L ++ u :: (E.take (j + 1)).map f = (L ++ u :: (E.take j).map f) ++ [f m] := by
  rw [List.take_add_one, h]
  simp
set_option maxRecDepth 100000 in
set_option maxHeartbeats 4000000 in
theorem gatherR_gen {w : World} {W X : Nat} {vt vr : Value} {Lt Lr : List Value} (h : Bh w W X vt vr Lt Lr) (hW : W ≤ w.heap.size) (hl : Lt.length ≤ 2000 ∧ Lr.length ≤ 1000)
    (x : Part) (uh ue : Value) (s1 : IsSl uh) (s2 : IsSl ue) (E : List Ep) (a3 : Option Addr) (c3 : Nat) (hE : OwnM 8 w (.slice a3 E.length c3) E.length (epcs E)) (hb : ∀ k, (Value.slice a3 E.length c3).ownBlock = some k → k < W ∧ k ≠ X) (hle : E.length ≤ 100) (hs : ∀ m ∈ E, IsSl m.h ∧ IsSl m.e ∧ m.p = .slice none 0 0)
    (hrec : ∀ m ∈ E, ∀ (w1 : World) (vt1 vr1 : Value) (Lt1 Lr1 : List Value), Bh w1 W X vt1 vr1 Lt1 Lr1 → W ≤ w1.heap.size → Lt1.length ≤ 1990 - 2 ∧ Lr1.length ≤ 990 - 1 →
      Calls Tryz.prog 25 #[.pointer (some ⟨X, 0, none⟩), rpV m.x m.h m.e m.p] w1 (GrPost w1 W X vt1 vr1 (Lt1 ++ [m.h, m.e]) (Lr1 ++ [m.p])))
    (hl2 : Lt.length + 2 * E.length + 2 ≤ 1990 ∧ Lr.length + E.length + 1 ≤ 990) :
    Calls Tryz.prog 25 #[.pointer (some ⟨X, 0, none⟩), rpV x uh ue (.slice a3 E.length c3)] w (GrPost w W X vt vr (Lt ++ [uh, ue] ++ eps E) (Lr ++ .slice a3 E.length c3 :: E.map (·.p))) := by
  obtain ⟨p1, q1, r1, rfl⟩ := s1
  obtain ⟨p2, q2, r2, rfl⟩ := s2
  rw [rpV]
  obtain ⟨PS, hPS⟩ := pstr x.root
  rw [hPS.out.1]
  obtain ⟨ob, hob⟩ : ∃ ob, Hid (Obj.cells #[.int .i64 x.status, .int .i64 x.size, .int .i64 x.a, .int .i64 x.b, .string PS, .slice p1 q1 r1, .slice p2 q2 r2, .slice a3 E.length c3] 45 = ob) := ⟨_, rfl⟩
  have b0 : Below w.heap.size w (w.alloc ob) := (Below.refl _ _).alloc (Nat.le_refl _) _
  have z0 := size_alloc w ob
  have rB0 : (w.alloc ob).heap[w.heap.size]? = some (.cells #[.int .i64 x.status, .int .i64 x.size, .int .i64 x.a, .int .i64 x.b, .string PS, .slice p1 q1 r1, .slice p2 q2 r2, .slice a3 E.length c3] 45 (0, 0)) := by rw [← hob.out]; exact heap_alloc_new _ _
  have hXl := lt_of_heap h.row
  have hlt := h.lt
  have nB : w.heap.size ∉ bks [vt, vr] := fun e => by have := hlt _ e; omega
  have H0 := h.below b0
  generalize hw0 : w.alloc ob = w0 at *
  have d0 : Below w0.heap.size w0 w0.drew := (Below.refl _ w0).drew
  have H0d := H0.below d0
  have rB0d : w0.drew.heap[w.heap.size]? = _ := rB0
  -- the texts
  obtain ⟨v1, w1, hap1, ⟨b1, m1, k1, rfl⟩, cX1, fX1, old1, sz1, H1, G1⟩ := H0d.push1 (by show W ≤ w0.heap.size; omega) (by omega) (.slice p1 q1 r1) (.slice p2 q2 r2) rfl rfl
  have x1 : w0.drew.cell? ⟨X, 1, none⟩ = some vt := by rw [cell_of_row _ _ _ _ _ _ H0d.row]; rfl
  have x1a : (w0.drew.alloc (.cells #[.slice p1 q1 r1, .slice p2 q2 r2] 23)).cell? ⟨X, 1, none⟩ = some vt := (World.cell?_of_block (w := w0.drew) (Below.heap_alloc w0.drew _ X (lt_of_heap H0d.row))).trans x1
  have y1 : w0.drew.cell? ⟨w.heap.size, 5, none⟩ = some (.slice p1 q1 r1) ∧ w0.drew.cell? ⟨w.heap.size, 6, none⟩ = some (.slice p2 q2 r2) := ⟨by rw [cell_of_row _ _ _ _ _ _ rB0d]; rfl, by rw [cell_of_row _ _ _ _ _ _ rB0d]; rfl⟩
  have hBX : w.heap.size ≠ X := by omega
  have rB1 : (w1.setCell ⟨X, 1, none⟩ (.slice b1 m1 k1)).heap[w.heap.size]? = _ := (heap_setCell_other w1 ⟨X, 1, none⟩ _ _ hBX).trans ((old1 _ (by show w.heap.size < w0.heap.size; omega) nB).trans rB0d)
  have nB1 : w.heap.size ∉ bks [.slice b1 m1 k1, vr] := fun e => by
    rcases G1.fr _ e with e | e
    · exact nB e
    · have : w0.heap.size ≤ w.heap.size := e; omega
  have S1 : W ≤ (w1.setCell ⟨X, 1, none⟩ (.slice b1 m1 k1)).heap.size := by rw [World.size_setCell]; have : w0.heap.size ≤ w1.heap.size := sz1; omega
  have lt1 : w.heap.size < (w1.setCell ⟨X, 1, none⟩ (.slice b1 m1 k1)).heap.size := lt_of_heap rB1
  generalize hw1 : w1.setCell ⟨X, 1, none⟩ (.slice b1 m1 k1) = W1 at *
  have d1 : Below W1.heap.size W1 W1.drew := (Below.refl _ W1).drew
  have H1d := H1.below d1
  have rB1d : W1.drew.heap[w.heap.size]? = _ := rB1
  -- the replies
  obtain ⟨v2, w2, hap2, ⟨b2, m2, k2, rfl⟩, cX2, fX2, old2, sz2, H2, G2⟩ := H1d.push3 S1 (by omega) (.slice a3 E.length c3) rfl
  have x2 : W1.drew.cell? ⟨X, 3, none⟩ = some vr := by rw [cell_of_row _ _ _ _ _ _ H1d.row]; rfl
  have x2a : (W1.drew.alloc (.cells #[.slice a3 E.length c3] 43)).cell? ⟨X, 3, none⟩ = some vr := (World.cell?_of_block (w := W1.drew) (Below.heap_alloc W1.drew _ X (lt_of_heap H1d.row))).trans x2
  have y2 : W1.drew.cell? ⟨w.heap.size, 7, none⟩ = some (.slice a3 E.length c3) := by rw [cell_of_row _ _ _ _ _ _ rB1d]; rfl
  have GA : Gtr w0 (w2.setCell ⟨X, 3, none⟩ (.slice b2 m2 k2)) X vt vr (.slice b1 m1 k1) (.slice b2 m2 k2) :=
    (Gtr.below d0).trans (G1.trans ((Gtr.below d1).trans G2))
  have G0 : Gtr w w0 X vt vr vt vr := Gtr.below b0
  obtain ⟨P, hP⟩ : ∃ P : Ending → World → Prop, Hid (GrPost w W X vt vr (Lt ++ [Value.slice p1 q1 r1, Value.slice p2 q2 r2] ++ eps E) (Lr ++ Value.slice a3 E.length c3 :: E.map (·.p)) = P) := ⟨_, rfl⟩
  have I0 : Hid (∃ vt' vr', Bh (w2.setCell ⟨X, 3, none⟩ (.slice b2 m2 k2)) W X vt' vr' (Lt ++ [.slice p1 q1 r1, .slice p2 q2 r2] ++ eps (E.take 0)) (Lr ++ .slice a3 E.length c3 :: (E.take 0).map (·.p)) ∧ Gtr w0 (w2.setCell ⟨X, 3, none⟩ (.slice b2 m2 k2)) X vt vr vt' vr') := ⟨_, _, by simpa [eps] using H2, GA⟩
  have hy1 : ((w0.drew.alloc (.cells #[.slice p1 q1 r1, .slice p2 q2 r2] 23)).cell? ⟨w.heap.size, 5, none⟩ = some (.slice p1 q1 r1) ∧ (w0.drew.alloc (.cells #[.slice p1 q1 r1, .slice p2 q2 r2] 23)).cell? ⟨w.heap.size, 6, none⟩ = some (.slice p2 q2 r2)) ∧ (w1.cell? ⟨w.heap.size, 5, none⟩ = some (.slice p1 q1 r1) ∧ w1.cell? ⟨w.heap.size, 6, none⟩ = some (.slice p2 q2 r2)) ∧ (W1.cell? ⟨w.heap.size, 5, none⟩ = some (.slice p1 q1 r1) ∧ W1.cell? ⟨w.heap.size, 6, none⟩ = some (.slice p2 q2 r2)) :=
    ⟨⟨(World.cell?_of_block (w := w0.drew) (Below.heap_alloc w0.drew _ _ (lt_of_heap rB0d))).trans y1.1, (World.cell?_of_block (w := w0.drew) (Below.heap_alloc w0.drew _ _ (lt_of_heap rB0d))).trans y1.2⟩, ⟨(World.cell?_of_block (w := w0.drew) (old1 _ (lt_of_heap rB0d) nB)).trans y1.1, (World.cell?_of_block (w := w0.drew) (old1 _ (lt_of_heap rB0d) nB)).trans y1.2⟩, ⟨by rw [cell_of_row _ _ _ _ _ _ rB1]; rfl, by rw [cell_of_row _ _ _ _ _ _ rB1]; rfl⟩⟩
  have hy2 : (W1.drew.alloc (.cells #[.slice a3 E.length c3] 43)).cell? ⟨w.heap.size, 7, none⟩ = some (.slice a3 E.length c3) ∧ w2.cell? ⟨w.heap.size, 7, none⟩ = some (.slice a3 E.length c3) ∧ (w2.setCell ⟨X, 3, none⟩ (.slice b2 m2 k2)).cell? ⟨w.heap.size, 7, none⟩ = some (.slice a3 E.length c3) :=
    ⟨(World.cell?_of_block (w := W1.drew) (Below.heap_alloc W1.drew _ _ (lt_of_heap rB1d))).trans y2, (World.cell?_of_block (w := W1.drew) (old2 _ (lt_of_heap rB1d) nB1)).trans y2, by
      have r3 := (heap_setCell_other w2 ⟨X, 3, none⟩ _ (.slice b2 m2 k2) hBX).trans ((old2 _ (lt_of_heap rB1d) nB1).trans rB1d)
      rw [cell_of_row _ _ _ _ _ _ r3]; rfl⟩
  have HS := hid hs
  have HR := hid hrec
  have HG0 := hid G0
  have HRB : Hid (∀ w', Keep (fun k => k = X ∨ k ∈ bks [vt, vr]) w0 w' → w'.cell? ⟨w.heap.size, 7, none⟩ = some (.slice a3 E.length c3)) := fun w' kp => by
    rw [World.cell?_of_block (a := ⟨w.heap.size, 7, none⟩) (kp.block w.heap.size (by omega) (fun e => by
      rcases e with e | e
      · exact hBX e
      · exact nB e)), cell_of_row _ _ _ _ _ _ rB0]
    rfl
  have HEE : Hid (∀ w', Keep (fun k => k = X ∨ k ∈ bks [vt, vr]) w0 w' → OwnM 8 w' (.slice a3 E.length c3) E.length (epcs E)) := fun w' kp => (hE.below b0).keep kp (fun k hk e => by
    have g := hb k hk
    rcases e with e | e
    · exact g.2 e
    · have := h.ge k e; omega)
  have hW0 : W ≤ w0.heap.size := by omega
  obtain ⟨n, hn⟩ : ∃ n, Hid (E.length = n) := ⟨_, rfl⟩
  rw [hP.out]
  have HL := hid hl2
  have hlen : n ≤ 100 := by rw [← hn.out]; exact hle
  rw [hn.out] at hP hob hap2 x2a y2 hy2 I0 HRB HEE ⊢
  clear h hE hb hs hrec H0 H0d H1 H1d H2 G0 G1 G2 GA d0 d1 b0 rB0 rB0d rB1 rB1d nB nB1 old1 old2 sz1 sz2 hlt S1 lt1 hl hl2 hle hPS
  generalize hBx : w.heap.size = Bx at *
  have HY1 := hid hy1
  have HY2 := hid hy2
  clear hy1 hy2
  generalize hw2 : w2.setCell ⟨X, 3, none⟩ (.slice b2 m2 k2) = W2 at *
  have hap1' : (Builtin.append_ #[30, 30] 30 #[vt, .slice (some ⟨w0.heap.size, 0, none⟩) 2 2]).run Tryz.prog (w0.alloc (.cells #[.slice p1 q1 r1, .slice p2 q2 r2] 23)).drew = .ok (.slice b1 m1 k1) w1 := hap1
  have hap2' : (Builtin.append_ #[32, 32] 32 #[vr, .slice (some ⟨W1.heap.size, 0, none⟩) 1 1]).run Tryz.prog (W1.alloc (.cells #[.slice a3 n c3] 43)).drew = .ok (.slice b2 m2 k2) w2 := hap2
  have HZ0 := hid z0
  have x1b : (w0.alloc (.cells #[.slice p1 q1 r1, .slice p2 q2 r2] 23)).drew.cell? ⟨X, 1, none⟩ = some vt := x1a
  have x2b : (W1.alloc (.cells #[.slice a3 n c3] 43)).drew.cell? ⟨X, 3, none⟩ = some vr := x2a
  clear hap1 hap2 z0 x1a x2a
  go_enter Tryz.func25, Tryz.ntmps25
  go_upto_region 1 with fail
  try rw [hBx]
  rw [hob.out, hw0]
  generalize Value.agg _ = AG
  go_cut [] (fun w' => w' = W1)
  case first =>
    have HY := HY1
    refine wp_region_held_drew (S := (fun w' => w'.cell? ⟨Bx, 5, none⟩ = some (.slice p1 q1 r1) ∧ w'.cell? ⟨Bx, 6, none⟩ = some (.slice p2 q2 r2))) (by kernel_rfl) y1 (fun hHeld => ?_)
    refine wpAnyH_take (i := 0) (oi := ⟨some 5, _, _, _, _, _⟩) (v := .pointer (some ⟨X, 0, none⟩)) rfl (by kernel_rfl) (by kernel_rfl) (by kernel_rfl) (fun _ _ _ h => h) (Or.inl ⟨by rfl, ?_⟩) hHeld ?_
    · intro w' hw'
      simp [go_sem]
    try dsimp only [Act.put]
    refine wpAnyH_take (i := 1) (oi := ⟨some 6, _, _, _, _, _⟩) (v := .pointer (some ⟨X, 0, none⟩)) rfl (by kernel_rfl) (by kernel_rfl) (by kernel_rfl) (fun _ _ _ h => h) (Or.inl ⟨by rfl, ?_⟩) hHeld ?_
    · intro w' hw'
      simp [go_sem]
    try dsimp only [Act.put]
    refine wpAnyH_take (i := 2) (oi := ⟨some 7, _, _, _, _, _⟩) (v := .pointer (some ⟨X, 0, none⟩)) rfl (by kernel_rfl) (by kernel_rfl) (by kernel_rfl) (fun _ _ _ h => h) (Or.inl ⟨by rfl, ?_⟩) hHeld ?_
    · intro w' hw'
      simp [go_sem]
    try dsimp only [Act.put]
    refine wpAnyH_take (i := 3) (oi := ⟨some 8, _, _, _, _, _⟩) (v := .pointer (some ⟨X, 1, none⟩)) rfl (by kernel_rfl) (by kernel_rfl) (by kernel_rfl) (fun _ _ _ h => h) (Or.inl ⟨by rfl, ?_⟩) hHeld ?_
    · intro w' hw'
      simp [go_sem]
    try dsimp only [Act.put]
    refine wpAnyH_take (i := 5) (oi := ⟨some 10, _, _, _, _, _⟩) (v := .pointer (some ⟨Bx, 5, none⟩)) rfl (by kernel_rfl) (by kernel_rfl) (by kernel_rfl) (fun _ _ _ h => h) (Or.inl ⟨by rfl, ?_⟩) hHeld ?_
    · intro w' hw'
      simp [go_sem]
    try dsimp only [Act.put]
    refine wpAnyH_take (i := 6) (oi := ⟨some 11, _, _, _, _, _⟩) (v := .slice p1 q1 r1) rfl (by kernel_rfl) (by kernel_rfl) (by kernel_rfl) (fun _ _ _ h => h) (Or.inl ⟨by rfl, ?_⟩) hHeld ?_
    · intro w' hw'
      simp [go_sem, hw']
    try dsimp only [Act.put]
    refine wpAnyH_take (i := 7) (oi := ⟨some 12, _, _, _, _, _⟩) (v := .pointer (some ⟨Bx, 6, none⟩)) rfl (by kernel_rfl) (by kernel_rfl) (by kernel_rfl) (fun _ _ _ h => h) (Or.inl ⟨by rfl, ?_⟩) hHeld ?_
    · intro w' hw'
      simp [go_sem]
    try dsimp only [Act.put]
    refine wpAnyH_take (i := 8) (oi := ⟨some 13, _, _, _, _, _⟩) (v := .slice p2 q2 r2) rfl (by kernel_rfl) (by kernel_rfl) (by kernel_rfl) (fun _ _ _ h => h) (Or.inl ⟨by rfl, ?_⟩) hHeld ?_
    · intro w' hw'
      simp [go_sem, hw']
    try dsimp only [Act.put]
    refine wpAnyH_ready (rs := [4, 9]) (by kernel_rfl) (by decide) (AllReadyH.cons rfl (fun K' hK' => ?_) (AllReadyH.cons rfl (fun K' hK' => ?_) AllReadyH.nil))
    · rw [if_pos (by rfl)]
      go_wp2
      refine hK'.out _ _ y1 (fun hHeld => ?_)
      try dsimp only [Act.put]
      refine wpAnyH_ready (rs := [9]) (by kernel_rfl) (by decide) (AllReadyH.cons rfl (fun K' hK' => ?_) AllReadyH.nil)
      rw [if_pos (by rfl)]
      go_wp2
      refine hK'.out _ _ HY.out.1 (fun hHeld => ?_)
      try dsimp only [Act.put]
      refine wpAnyH_ready (rs := [10]) (by kernel_rfl) (by decide) (AllReadyH.cons rfl (fun K' hK' => ?_) AllReadyH.nil)
      refine step_append17 rfl _ _ 30 rfl vt _ (.slice b1 m1 k1) w1 rfl rfl hap1' ?_
      refine hK'.out _ _ HY.out.2.1 (fun hHeld => ?_)
      try dsimp only [Act.put]
      refine wpAnyH_take (i := 11) (oi := ⟨some 16, _, _, _, _, _⟩) (v := .pointer (some ⟨X, 0, none⟩)) rfl (by kernel_rfl) (by kernel_rfl) (by kernel_rfl) (fun _ _ _ h => h) (Or.inl ⟨by rfl, ?_⟩) hHeld ?_
      · intro w' hw'
        simp [go_sem]
      try dsimp only [Act.put]
      refine wpAnyH_take (i := 12) (oi := ⟨some 17, _, _, _, _, _⟩) (v := .pointer (some ⟨X, 1, none⟩)) rfl (by kernel_rfl) (by kernel_rfl) (by kernel_rfl) (fun _ _ _ h => h) (Or.inl ⟨by rfl, ?_⟩) hHeld ?_
      · intro w' hw'
        simp [go_sem]
      try dsimp only [Act.put]
      refine wpAnyH_ready (rs := [13]) (by kernel_rfl) (by decide) (AllReadyH.cons rfl (fun K' hK' => ?_) AllReadyH.nil)
      rw [if_pos (by rfl)]
      go_wp2
      try rw [hw1]
      refine hK'.out _ _ HY.out.2.2 (fun _ => wpAnyH_done (by kernel_rfl) ?_ _)
      go_wp2
      go_meet
      exact rfl
    · rw [if_pos (by rfl)]
      go_wp2
      refine hK'.out _ _ HY.out.1 (fun hHeld => ?_)
      try dsimp only [Act.put]
      refine wpAnyH_ready (rs := [4]) (by kernel_rfl) (by decide) (AllReadyH.cons rfl (fun K' hK' => ?_) AllReadyH.nil)
      rw [if_pos (by rfl)]
      go_wp2
      refine hK'.out _ _ HY.out.1 (fun hHeld => ?_)
      try dsimp only [Act.put]
      refine wpAnyH_ready (rs := [10]) (by kernel_rfl) (by decide) (AllReadyH.cons rfl (fun K' hK' => ?_) AllReadyH.nil)
      refine step_append17 rfl _ _ 30 rfl vt _ (.slice b1 m1 k1) w1 rfl rfl hap1' ?_
      refine hK'.out _ _ HY.out.2.1 (fun hHeld => ?_)
      try dsimp only [Act.put]
      refine wpAnyH_take (i := 11) (oi := ⟨some 16, _, _, _, _, _⟩) (v := .pointer (some ⟨X, 0, none⟩)) rfl (by kernel_rfl) (by kernel_rfl) (by kernel_rfl) (fun _ _ _ h => h) (Or.inl ⟨by rfl, ?_⟩) hHeld ?_
      · intro w' hw'
        simp [go_sem]
      try dsimp only [Act.put]
      refine wpAnyH_take (i := 12) (oi := ⟨some 17, _, _, _, _, _⟩) (v := .pointer (some ⟨X, 1, none⟩)) rfl (by kernel_rfl) (by kernel_rfl) (by kernel_rfl) (fun _ _ _ h => h) (Or.inl ⟨by rfl, ?_⟩) hHeld ?_
      · intro w' hw'
        simp [go_sem]
      try dsimp only [Act.put]
      refine wpAnyH_ready (rs := [13]) (by kernel_rfl) (by decide) (AllReadyH.cons rfl (fun K' hK' => ?_) AllReadyH.nil)
      rw [if_pos (by rfl)]
      go_wp2
      try rw [hw1]
      refine hK'.out _ _ HY.out.2.2 (fun _ => wpAnyH_done (by kernel_rfl) ?_ _)
      go_wp2
      go_meet
      exact rfl
  case rest =>
  have hcut := hcut.symm
  subst hcut
  go_upto_region 2 with fail
  go_cut [] (fun w' => w' = W2)
  case first =>
    have HY := HY2
    refine wp_region_held_drew (S := (fun w' => w'.cell? ⟨Bx, 7, none⟩ = some (.slice a3 n c3))) (by kernel_rfl) y2 (fun hHeld => ?_)
    refine wpAnyH_take (i := 0) (oi := ⟨some 18, _, _, _, _, _⟩) (v := .pointer (some ⟨X, 0, none⟩)) rfl (by kernel_rfl) (by kernel_rfl) (by kernel_rfl) (fun _ _ _ h => h) (Or.inl ⟨by rfl, ?_⟩) hHeld ?_
    · intro w' hw'
      simp [go_sem]
    try dsimp only [Act.put]
    refine wpAnyH_take (i := 1) (oi := ⟨some 19, _, _, _, _, _⟩) (v := .pointer (some ⟨X, 0, none⟩)) rfl (by kernel_rfl) (by kernel_rfl) (by kernel_rfl) (fun _ _ _ h => h) (Or.inl ⟨by rfl, ?_⟩) hHeld ?_
    · intro w' hw'
      simp [go_sem]
    try dsimp only [Act.put]
    refine wpAnyH_take (i := 2) (oi := ⟨some 20, _, _, _, _, _⟩) (v := .pointer (some ⟨X, 0, none⟩)) rfl (by kernel_rfl) (by kernel_rfl) (by kernel_rfl) (fun _ _ _ h => h) (Or.inl ⟨by rfl, ?_⟩) hHeld ?_
    · intro w' hw'
      simp [go_sem]
    try dsimp only [Act.put]
    refine wpAnyH_take (i := 3) (oi := ⟨some 21, _, _, _, _, _⟩) (v := .pointer (some ⟨X, 3, none⟩)) rfl (by kernel_rfl) (by kernel_rfl) (by kernel_rfl) (fun _ _ _ h => h) (Or.inl ⟨by rfl, ?_⟩) hHeld ?_
    · intro w' hw'
      simp [go_sem]
    try dsimp only [Act.put]
    refine wpAnyH_take (i := 5) (oi := ⟨some 23, _, _, _, _, _⟩) (v := .pointer (some ⟨Bx, 7, none⟩)) rfl (by kernel_rfl) (by kernel_rfl) (by kernel_rfl) (fun _ _ _ h => h) (Or.inl ⟨by rfl, ?_⟩) hHeld ?_
    · intro w' hw'
      simp [go_sem]
    try dsimp only [Act.put]
    refine wpAnyH_take (i := 6) (oi := ⟨some 24, _, _, _, _, _⟩) (v := .slice a3 n c3) rfl (by kernel_rfl) (by kernel_rfl) (by kernel_rfl) (fun _ _ _ h => h) (Or.inl ⟨by rfl, ?_⟩) hHeld ?_
    · intro w' hw'
      simp [go_sem, hw']
    try dsimp only [Act.put]
    refine wpAnyH_ready (rs := [4, 7]) (by kernel_rfl) (by decide) (AllReadyH.cons rfl (fun K' hK' => ?_) (AllReadyH.cons rfl (fun K' hK' => ?_) AllReadyH.nil))
    · rw [if_pos (by rfl)]
      go_wp2
      refine hK'.out _ _ y2 (fun hHeld => ?_)
      try dsimp only [Act.put]
      refine wpAnyH_ready (rs := [7]) (by kernel_rfl) (by decide) (AllReadyH.cons rfl (fun K' hK' => ?_) AllReadyH.nil)
      rw [if_pos (by rfl)]
      go_wp2
      refine hK'.out _ _ HY.out.1 (fun hHeld => ?_)
      try dsimp only [Act.put]
      refine wpAnyH_ready (rs := [8]) (by kernel_rfl) (by decide) (AllReadyH.cons rfl (fun K' hK' => ?_) AllReadyH.nil)
      refine step_append17 rfl _ _ 32 rfl vr _ (.slice b2 m2 k2) w2 rfl rfl hap2' ?_
      refine hK'.out _ _ HY.out.2.1 (fun hHeld => ?_)
      try dsimp only [Act.put]
      refine wpAnyH_take (i := 9) (oi := ⟨some 27, _, _, _, _, _⟩) (v := .pointer (some ⟨X, 0, none⟩)) rfl (by kernel_rfl) (by kernel_rfl) (by kernel_rfl) (fun _ _ _ h => h) (Or.inl ⟨by rfl, ?_⟩) hHeld ?_
      · intro w' hw'
        simp [go_sem]
      try dsimp only [Act.put]
      refine wpAnyH_take (i := 10) (oi := ⟨some 28, _, _, _, _, _⟩) (v := .pointer (some ⟨X, 3, none⟩)) rfl (by kernel_rfl) (by kernel_rfl) (by kernel_rfl) (fun _ _ _ h => h) (Or.inl ⟨by rfl, ?_⟩) hHeld ?_
      · intro w' hw'
        simp [go_sem]
      try dsimp only [Act.put]
      refine wpAnyH_ready (rs := [11]) (by kernel_rfl) (by decide) (AllReadyH.cons rfl (fun K' hK' => ?_) AllReadyH.nil)
      rw [if_pos (by rfl)]
      go_wp2
      try rw [hw2]
      refine hK'.out _ _ HY.out.2.2 (fun _ => wpAnyH_done (by kernel_rfl) ?_ _)
      go_wp2
      go_meet
      exact rfl
    · rw [if_pos (by rfl)]
      go_wp2
      refine hK'.out _ _ HY.out.1 (fun hHeld => ?_)
      try dsimp only [Act.put]
      refine wpAnyH_ready (rs := [4]) (by kernel_rfl) (by decide) (AllReadyH.cons rfl (fun K' hK' => ?_) AllReadyH.nil)
      rw [if_pos (by rfl)]
      go_wp2
      refine hK'.out _ _ HY.out.1 (fun hHeld => ?_)
      try dsimp only [Act.put]
      refine wpAnyH_ready (rs := [8]) (by kernel_rfl) (by decide) (AllReadyH.cons rfl (fun K' hK' => ?_) AllReadyH.nil)
      refine step_append17 rfl _ _ 32 rfl vr _ (.slice b2 m2 k2) w2 rfl rfl hap2' ?_
      refine hK'.out _ _ HY.out.2.1 (fun hHeld => ?_)
      try dsimp only [Act.put]
      refine wpAnyH_take (i := 9) (oi := ⟨some 27, _, _, _, _, _⟩) (v := .pointer (some ⟨X, 0, none⟩)) rfl (by kernel_rfl) (by kernel_rfl) (by kernel_rfl) (fun _ _ _ h => h) (Or.inl ⟨by rfl, ?_⟩) hHeld ?_
      · intro w' hw'
        simp [go_sem]
      try dsimp only [Act.put]
      refine wpAnyH_take (i := 10) (oi := ⟨some 28, _, _, _, _, _⟩) (v := .pointer (some ⟨X, 3, none⟩)) rfl (by kernel_rfl) (by kernel_rfl) (by kernel_rfl) (fun _ _ _ h => h) (Or.inl ⟨by rfl, ?_⟩) hHeld ?_
      · intro w' hw'
        simp [go_sem]
      try dsimp only [Act.put]
      refine wpAnyH_ready (rs := [11]) (by kernel_rfl) (by decide) (AllReadyH.cons rfl (fun K' hK' => ?_) AllReadyH.nil)
      rw [if_pos (by rfl)]
      go_wp2
      try rw [hw2]
      refine hK'.out _ _ HY.out.2.2 (fun _ => wpAnyH_done (by kernel_rfl) ?_ _)
      go_wp2
      go_meet
      exact rfl
  case rest =>
  have hcut := hcut.symm
  subst hcut
  go_wp2
  go_loopw [4] (fun i w' => ∃ j : Nat, j ≤ n ∧ i = .int .i64 (j : Int) ∧ Hid (∃ vt' vr', Bh w' W X vt' vr' (Lt ++ [.slice p1 q1 r1, .slice p2 q2 r2] ++ eps (E.take j)) (Lr ++ .slice a3 n c3 :: (E.take j).map (·.p)) ∧ Gtr w0 w' X vt vr vt' vr')) (fun i _ => n - (intOf i).toNat)
  case atStart => exact ⟨0, Nat.zero_le _, rfl, I0⟩
  case round =>
    obtain ⟨j, hj, rfl, I⟩ := hrel
    obtain ⟨vt', vr', B, G⟩ := I.out
    have z6 := HRB.out wr G.kp
    by_cases hjn : j < n
    · obtain ⟨m, hm⟩ : ∃ m, E[j]? = some m := ⟨_, List.getElem?_eq_getElem (by rw [hn.out]; exact hjn)⟩
      have hmE := List.mem_of_getElem? hm
      obtain ⟨⟨l1, l2, l3, e1⟩, ⟨f1, f2, f3, e2⟩, e3⟩ := HS.out m hmE
      have hel : (eps (E.take j)).length ≤ 2 * j := by
        have : ∀ L : List Ep, (eps L).length = 2 * L.length := fun L => by
          induction L with
          | nil => rfl
          | cons a L ih => simp [eps] at ih ⊢; omega
        rw [this, List.length_take]
        omega
      have hc := HR.out m hmE wr vt' vr' _ _ B (Nat.le_trans hW0 G.kp.size) (by
        have g := HL.out
        have hE' := hn.out
        simp only [List.length_append, List.length_cons, List.length_nil, List.length_map, List.length_take] at g ⊢
        exact ⟨by omega, by omega⟩)
      have hEE := HEE.out wr G.kp
      rw [← hn.out] at hEE
      obtain ⟨g, rfl, cl⟩ := epcs_cells hEE hm
      have c0 := cl 0 _ (by omega) rfl
      have c1 := cl 1 _ (by omega) rfl
      have c2 := cl 2 _ (by omega) rfl
      have c3' := cl 3 _ (by omega) rfl
      have c4 := cl 4 _ (by omega) rfl
      have c5 := cl 5 _ (by omega) rfl
      have c6 := cl 6 _ (by omega) rfl
      have c7 := cl 7 _ (by omega) rfl
      rw [Nat.add_zero] at c0
      rw [rpV] at hc
      obtain ⟨PM, hPM⟩ := pstr m.x.root
      rw [hPM.out.1] at hc c4
      have A1 := hid (take_eps_snoc hm (Lt ++ [.slice p1 q1 r1, .slice p2 q2 r2]))
      have A3 := hid (take_map_snocR hm (·.p) Lr (.slice (some ⟨g, 0, none⟩) n c3))
      rw [e1] at c5 hc
      rw [e2] at c6 hc
      rw [e3] at c7 hc
      rw [e1, e2] at A1
      rw [e3] at A3
      have HG := hid G
      have y1 : (j : Int) < (n : Int) := by omega
      have y3 : (0 : Int) ≤ (j : Int) := by omega
      have hjn' := hid hjn
      clear I B G hEE cl e1 e2 e3 hm hmE hel hPM
      go_wp2_with (go_at_call 25; fail)
      go_at_call 25
      refine hc.mono ?_
      rintro e w5 ⟨rfl, vt5, vr5, B5, G5⟩
      have N5 : Hid (∃ vt' vr', Bh w5 W X vt' vr' (Lt ++ [.slice p1 q1 r1, .slice p2 q2 r2] ++ eps (E.take (j + 1))) (Lr ++ .slice (some ⟨g, 0, none⟩) n c3 :: (E.take (j + 1)).map (·.p)) ∧ Gtr w0 w5 X vt vr vt' vr') := ⟨vt5, vr5, by rw [A1.out, A3.out]; exact B5, HG.out.trans G5⟩
      clear B5 G5 hc HG A1 A3
      go_wp2
      exact ⟨⟨j + 1, hjn'.out, by go_num, N5⟩, by have := hjn'.out; simp [RowKit.intOf]; omega⟩
    · obtain rfl : j = n := by omega
      have y1 : ¬ (j : Int) < (j : Int) := by omega
      have F : Hid (GrPost w W X vt vr (Lt ++ [.slice p1 q1 r1, .slice p2 q2 r2] ++ eps E) (Lr ++ .slice a3 j c3 :: E.map (·.p)) (.returned (.tuple #[])) wr) := ⟨rfl, vt', vr', by rw [← hn.out, List.take_length] at B; rw [← hn.out]; exact B, HG0.out.trans G⟩
      rw [hP.out] at F
      clear I B G
      go_wp2
      go_end0
      exact F.out
theorem gatherR_leaf {w : World} {W X : Nat} {vt vr : Value} {Lt Lr : List Value} (h : Bh w W X vt vr Lt Lr) (hW : W ≤ w.heap.size) (hl : Lt.length ≤ 1990 - 2 ∧ Lr.length ≤ 990 - 1)
    (x : Part) (uh ue : Value) (s1 : IsSl uh) (s2 : IsSl ue) : Calls Tryz.prog 25 #[.pointer (some ⟨X, 0, none⟩), rpV x uh ue (.slice none 0 0)] w (GrPost w W X vt vr (Lt ++ [uh, ue]) (Lr ++ [.slice none 0 0])) := by
  have := gatherR_gen h hW (by omega) x uh ue s1 s2 [] none 0 (OwnM.nil 8 w) (fun k hk => by cases hk) (by simp) (fun m hm => by cases hm) (fun m hm => by cases hm) (by simp only [List.length_nil, Nat.mul_zero, Nat.add_zero]; omega)
  simpa [eps] using this
theorem gatherR_any {w : World} {W X : Nat} {vt vr : Value} {Lt Lr : List Value} (h : Bh w W X vt vr Lt Lr) (hW : W ≤ w.heap.size) (hl : Lt.length ≤ 1600 ∧ Lr.length ≤ 800)
    (x : Part) (uh ue up : Value) (s1 : IsSl uh) (s2 : IsSl ue) (E : List Ep) (hE : OwnM 8 w up E.length (epcs E)) (hb : ∀ k, up.ownBlock = some k → k < W ∧ k ≠ X) (hle : E.length ≤ 100) (hs : ∀ m ∈ E, IsSl m.h ∧ IsSl m.e ∧ m.p = .slice none 0 0) :
    Calls Tryz.prog 25 #[.pointer (some ⟨X, 0, none⟩), rpV x uh ue up] w (GrPost w W X vt vr (Lt ++ [uh, ue] ++ eps E) (Lr ++ up :: E.map (·.p))) := by
  obtain ⟨a, c, rfl, _, _⟩ := hE.shape
  refine gatherR_gen h hW (by omega) x uh ue s1 s2 E a c hE hb hle hs (fun m hm w1 vt1 vr1 Lt1 Lr1 B1 hW1 hl1 => ?_) (by omega)
  have e := (hs m hm).2.2
  rw [e]
  exact gatherR_leaf B1 hW1 (by omega) m.x m.h m.e (hs m hm).1 (hs m hm).2.1
end Msg
end Go.Proofs.YtmhgdcfmfcjagaaGreatDoor
