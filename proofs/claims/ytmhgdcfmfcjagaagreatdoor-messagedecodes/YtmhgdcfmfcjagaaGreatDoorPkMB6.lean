import Derived.Test.YtmhgdcfmfcjagaaGreatDoorPkMT6
import Derived.Deep.DeepCutAuto
namespace Go.Proofs.YtmhgdcfmfcjagaaGreatDoor
open Go.RowKit Cod
namespace Msg

/-- what gather leaves -/
def GaPost (w : World) (W X : Nat) (vi vt va : Value) (Li Lt La : List Value) (e : Ending) (w' : World) : Prop :=
  e = .returned (.tuple #[]) ∧ ∃ vi' vt' va', Bg w' W X vi' vt' va' Li Lt La ∧ Gth w w' X vi vt va vi' vt' va'
/-- a list that was taken, as a value -/
def IsSl (v : Value) : Prop := ∃ a n c, v = .slice a n c
theorem emcs_cells {w : World} {E : List Em} {a : Option Addr} {c : Nat} (h : OwnM 7 w (.slice a E.length c) E.length (emcs E)) {j : Nat} {m : Em} (hm : E[j]? = some m) : ∃ g, a = some ⟨g, 0, none⟩ ∧ ∀ i u, i < 7 → (emc m)[i]? = some u → w.cell? ⟨g, j * 7 + i, none⟩ = some u := by
  obtain ⟨g, c', e, _, _⟩ := h.cell (j := j * 7 + 0) (u := .int .i64 m.x.kind) (by rw [emcs_at E j m 0 hm (by omega)]; rfl)
  injection e with e
  refine ⟨g, e, fun i u hi hu => ?_⟩
  obtain ⟨g', c'', e', h1, _⟩ := h.cell (j := j * 7 + i) (u := u) (by rw [emcs_at E j m i hm hi]; exact hu)
  injection e' with e'
  rw [e] at e'
  injection e' with e'
  injection e' with e'
  rw [e']; exact h1
theorem take_map_snoc {E : List Em} {j : Nat} {m : Em} (h : E[j]? = some m) (f : Em → Value) (L : List Value) (u : Value) : L ++ u :: (E.take (j + 1)).map f = (L ++ u :: (E.take j).map f) ++ [f m] := by
  rw [List.take_add_one, h]
  simp
set_option maxRecDepth 100000 in
set_option maxHeartbeats 4000000 in
theorem gather_gen {w : World} {W X : Nat} {vi vt va : Value} {Li Lt La : List Value} (h : Bg w W X vi vt va Li Lt La) (hW : W ≤ w.heap.size) (hl : Li.length ≤ 1000 ∧ Lt.length ≤ 1000 ∧ La.length ≤ 1000)
    (x : Ask) (ul ue : Value) (s1 : IsSl ul) (s2 : IsSl ue) (E : List Em) (a3 : Option Addr) (c3 : Nat) (hE : OwnM 7 w (.slice a3 E.length c3) E.length (emcs E)) (hb : ∀ k, (Value.slice a3 E.length c3).ownBlock = some k → k < W ∧ k ≠ X) (hle : E.length ≤ 100) (hs : ∀ m ∈ E, IsSl m.l ∧ IsSl m.e ∧ m.a = .slice none 0 0)
    (hrec : ∀ m ∈ E, ∀ (w1 : World) (vi1 vt1 va1 : Value) (Li1 Lt1 La1 : List Value), Bg w1 W X vi1 vt1 va1 Li1 Lt1 La1 → W ≤ w1.heap.size → Li1.length ≤ 990 ∧ Lt1.length ≤ 990 ∧ La1.length ≤ 990 →
      Calls Tryz.prog 21 #[.pointer (some ⟨X, 0, none⟩), akV m.x m.l m.e m.a] w1 (GaPost w1 W X vi1 vt1 va1 (Li1 ++ [m.l]) (Lt1 ++ [m.e]) (La1 ++ [m.a])))
    (hl2 : Li.length + E.length ≤ 990 ∧ Lt.length + E.length ≤ 990 ∧ La.length + E.length ≤ 990) :
    Calls Tryz.prog 21 #[.pointer (some ⟨X, 0, none⟩), akV x ul ue (.slice a3 E.length c3)] w (GaPost w W X vi vt va (Li ++ ul :: E.map (·.l)) (Lt ++ ue :: E.map (·.e)) (La ++ .slice a3 E.length c3 :: E.map (·.a))) := by
  obtain ⟨p1, q1, r1, rfl⟩ := s1
  obtain ⟨p2, q2, r2, rfl⟩ := s2
  obtain ⟨ob, hob⟩ : ∃ ob, Hid (Obj.cells #[.int .i64 x.kind, .int .i64 x.a, .int .i64 x.b, .int .i64 x.size, .slice p1 q1 r1, .slice p2 q2 r2, .slice a3 E.length c3] 26 = ob) := ⟨_, rfl⟩
  have b0 : Below w.heap.size w (w.alloc ob) := (Below.refl _ _).alloc (Nat.le_refl _) _
  have z0 := size_alloc w ob
  have rB0 : (w.alloc ob).heap[w.heap.size]? = some (.cells #[.int .i64 x.kind, .int .i64 x.a, .int .i64 x.b, .int .i64 x.size, .slice p1 q1 r1, .slice p2 q2 r2, .slice a3 E.length c3] 26 (0, 0)) := by rw [← hob.out]; exact heap_alloc_new _ _
  have hXl := lt_of_heap h.row
  have hlt := h.lt
  have nB : w.heap.size ∉ bks [vi, vt, va] := fun e => by have := hlt _ e; omega
  have H0 := h.below b0
  generalize hw0 : w.alloc ob = w0 at *
  have d0 : Below w0.heap.size w0 w0.drew := (Below.refl _ w0).drew
  have H0d := H0.below d0
  have rB0d : w0.drew.heap[w.heap.size]? = _ := rB0
  -- the first list
  obtain ⟨v1, w1, hap1, ⟨b1, m1, k1, rfl⟩, cX1, fX1, old1, sz1, H1, G1⟩ := H0d.push0 (by show W ≤ w0.heap.size; omega) (by omega) (.slice p1 q1 r1) rfl
  have x1 : w0.drew.cell? ⟨X, 0, none⟩ = some vi := by rw [cell_of_row _ _ _ _ _ _ H0d.row]; rfl
  have x1a : (w0.drew.alloc (.cells #[.slice p1 q1 r1] 22)).cell? ⟨X, 0, none⟩ = some vi := (World.cell?_of_block (w := w0.drew) (Below.heap_alloc w0.drew _ X (lt_of_heap H0d.row))).trans x1
  have y1 : w0.drew.cell? ⟨w.heap.size, 4, none⟩ = some (.slice p1 q1 r1) := by rw [cell_of_row _ _ _ _ _ _ rB0d]; rfl
  have hBX : w.heap.size ≠ X := by omega
  have rB1 : (w1.setCell ⟨X, 0, none⟩ (.slice b1 m1 k1)).heap[w.heap.size]? = _ := (heap_setCell_other w1 ⟨X, 0, none⟩ _ _ hBX).trans ((old1 _ (by show w.heap.size < w0.heap.size; omega) nB).trans rB0d)
  have nB1 : w.heap.size ∉ bks [.slice b1 m1 k1, vt, va] := fun e => by
    rcases G1.fr _ e with e | e
    · exact nB e
    · have : w0.heap.size ≤ w.heap.size := e; omega
  have S1 : W ≤ (w1.setCell ⟨X, 0, none⟩ (.slice b1 m1 k1)).heap.size := by rw [World.size_setCell]; have : w0.heap.size ≤ w1.heap.size := sz1; omega
  have lt1 : w.heap.size < (w1.setCell ⟨X, 0, none⟩ (.slice b1 m1 k1)).heap.size := lt_of_heap rB1
  generalize hw1 : w1.setCell ⟨X, 0, none⟩ (.slice b1 m1 k1) = W1 at *
  have d1 : Below W1.heap.size W1 W1.drew := (Below.refl _ W1).drew
  have H1d := H1.below d1
  have rB1d : W1.drew.heap[w.heap.size]? = _ := rB1
  -- the second
  obtain ⟨v2, w2, hap2, ⟨b2, m2, k2, rfl⟩, cX2, fX2, old2, sz2, H2, G2⟩ := H1d.push1 S1 (by omega) (.slice p2 q2 r2) rfl
  have x2 : W1.drew.cell? ⟨X, 1, none⟩ = some vt := by rw [cell_of_row _ _ _ _ _ _ H1d.row]; rfl
  have x2a : (W1.drew.alloc (.cells #[.slice p2 q2 r2] 23)).cell? ⟨X, 1, none⟩ = some vt := (World.cell?_of_block (w := W1.drew) (Below.heap_alloc W1.drew _ X (lt_of_heap H1d.row))).trans x2
  have y2 : W1.drew.cell? ⟨w.heap.size, 5, none⟩ = some (.slice p2 q2 r2) := by rw [cell_of_row _ _ _ _ _ _ rB1d]; rfl
  have rB2 : (w2.setCell ⟨X, 1, none⟩ (.slice b2 m2 k2)).heap[w.heap.size]? = _ := (heap_setCell_other w2 ⟨X, 1, none⟩ _ _ hBX).trans ((old2 _ lt1 nB1).trans rB1d)
  have nB2 : w.heap.size ∉ bks [.slice b1 m1 k1, .slice b2 m2 k2, va] := fun e => by
    rcases G2.fr _ e with e | e
    · exact nB1 e
    · have : W1.heap.size ≤ w.heap.size := e; omega
  have S2 : W ≤ (w2.setCell ⟨X, 1, none⟩ (.slice b2 m2 k2)).heap.size := by rw [World.size_setCell]; have : W1.heap.size ≤ w2.heap.size := sz2; omega
  have lt2 : w.heap.size < (w2.setCell ⟨X, 1, none⟩ (.slice b2 m2 k2)).heap.size := lt_of_heap rB2
  generalize hw2 : w2.setCell ⟨X, 1, none⟩ (.slice b2 m2 k2) = W2 at *
  have d2 : Below W2.heap.size W2 W2.drew := (Below.refl _ W2).drew
  have H2d := H2.below d2
  have rB2d : W2.drew.heap[w.heap.size]? = _ := rB2
  -- the third
  obtain ⟨v3, w3, hap3, ⟨b3, m3, k3, rfl⟩, cX3, fX3, old3, sz3, H3, G3⟩ := H2d.push2 S2 (by omega) (.slice a3 E.length c3) rfl
  have x3 : W2.drew.cell? ⟨X, 2, none⟩ = some va := by rw [cell_of_row _ _ _ _ _ _ H2d.row]; rfl
  have x3a : (W2.drew.alloc (.cells #[.slice a3 E.length c3] 24)).cell? ⟨X, 2, none⟩ = some va := (World.cell?_of_block (w := W2.drew) (Below.heap_alloc W2.drew _ X (lt_of_heap H2d.row))).trans x3
  have y3 : W2.drew.cell? ⟨w.heap.size, 6, none⟩ = some (.slice a3 E.length c3) := by rw [cell_of_row _ _ _ _ _ _ rB2d]; rfl
  have S3 : W ≤ (w3.setCell ⟨X, 2, none⟩ (.slice b3 m3 k3)).heap.size := by rw [World.size_setCell]; have : W2.heap.size ≤ w3.heap.size := sz3; omega
  have GA : Gth w0 (w3.setCell ⟨X, 2, none⟩ (.slice b3 m3 k3)) X vi vt va (.slice b1 m1 k1) (.slice b2 m2 k2) (.slice b3 m3 k3) :=
    (Gth.below d0).trans (G1.trans ((Gth.below d1).trans (G2.trans ((Gth.below d2).trans G3))))
  have G0 : Gth w w0 X vi vt va vi vt va := Gth.below b0
  obtain ⟨P, hP⟩ : ∃ P, Hid (GaPost w W X vi vt va (Li ++ .slice p1 q1 r1 :: E.map (·.l)) (Lt ++ .slice p2 q2 r2 :: E.map (·.e)) (La ++ .slice a3 E.length c3 :: E.map (·.a)) = P) := ⟨_, rfl⟩
  have I0 : Hid (∃ vi' vt' va', Bg (w3.setCell ⟨X, 2, none⟩ (.slice b3 m3 k3)) W X vi' vt' va' (Li ++ .slice p1 q1 r1 :: (E.take 0).map (·.l)) (Lt ++ .slice p2 q2 r2 :: (E.take 0).map (·.e)) (La ++ .slice a3 E.length c3 :: (E.take 0).map (·.a)) ∧ Gth w0 (w3.setCell ⟨X, 2, none⟩ (.slice b3 m3 k3)) X vi vt va vi' vt' va') := ⟨_, _, _, by simpa using H3, GA⟩
  have hy1 : (w0.drew.alloc (.cells #[.slice p1 q1 r1] 22)).cell? ⟨w.heap.size, 4, none⟩ = some (.slice p1 q1 r1) ∧ w1.cell? ⟨w.heap.size, 4, none⟩ = some (.slice p1 q1 r1) ∧ W1.cell? ⟨w.heap.size, 4, none⟩ = some (.slice p1 q1 r1) :=
    ⟨(World.cell?_of_block (w := w0.drew) (Below.heap_alloc w0.drew _ _ (lt_of_heap rB0d))).trans y1, (World.cell?_of_block (w := w0.drew) (old1 _ (lt_of_heap rB0d) nB)).trans y1, by rw [cell_of_row _ _ _ _ _ _ rB1]; rfl⟩
  have hy2 : (W1.drew.alloc (.cells #[.slice p2 q2 r2] 23)).cell? ⟨w.heap.size, 5, none⟩ = some (.slice p2 q2 r2) ∧ w2.cell? ⟨w.heap.size, 5, none⟩ = some (.slice p2 q2 r2) ∧ W2.cell? ⟨w.heap.size, 5, none⟩ = some (.slice p2 q2 r2) :=
    ⟨(World.cell?_of_block (w := W1.drew) (Below.heap_alloc W1.drew _ _ (lt_of_heap rB1d))).trans y2, (World.cell?_of_block (w := W1.drew) (old2 _ (lt_of_heap rB1d) nB1)).trans y2, by rw [cell_of_row _ _ _ _ _ _ rB2]; rfl⟩
  have hy3 : (W2.drew.alloc (.cells #[.slice a3 E.length c3] 24)).cell? ⟨w.heap.size, 6, none⟩ = some (.slice a3 E.length c3) ∧ w3.cell? ⟨w.heap.size, 6, none⟩ = some (.slice a3 E.length c3) ∧ (w3.setCell ⟨X, 2, none⟩ (.slice b3 m3 k3)).cell? ⟨w.heap.size, 6, none⟩ = some (.slice a3 E.length c3) :=
    ⟨(World.cell?_of_block (w := W2.drew) (Below.heap_alloc W2.drew _ _ (lt_of_heap rB2d))).trans y3, (World.cell?_of_block (w := W2.drew) (old3 _ (lt_of_heap rB2d) nB2)).trans y3, by
      have r3 := (heap_setCell_other w3 ⟨X, 2, none⟩ _ (.slice b3 m3 k3) hBX).trans ((old3 _ (lt_of_heap rB2d) nB2).trans rB2d)
      rw [cell_of_row _ _ _ _ _ _ r3]; rfl⟩
  have HE := hid hE
  have HB := hid hb
  have HS := hid hs
  have HR := hid hrec
  have HG0 := hid G0
  have HRB : Hid (∀ w', Keep (fun k => k = X ∨ k ∈ bks [vi, vt, va]) w0 w' → w'.cell? ⟨w.heap.size, 6, none⟩ = some (.slice a3 E.length c3)) := fun w' kp => by
    rw [World.cell?_of_block (a := ⟨w.heap.size, 6, none⟩) (kp.block w.heap.size (by omega) (fun e => by
      rcases e with e | e
      · exact hBX e
      · exact nB e)), cell_of_row _ _ _ _ _ _ rB0]
    rfl
  have HEE : Hid (∀ w', Keep (fun k => k = X ∨ k ∈ bks [vi, vt, va]) w0 w' → OwnM 7 w' (.slice a3 E.length c3) E.length (emcs E)) := fun w' kp => (hE.below b0).keep kp (fun k hk e => by
    have g := hb k hk
    rcases e with e | e
    · exact g.2 e
    · have := h.ge k e; omega)
  have hW0 : W ≤ w0.heap.size := by omega
  obtain ⟨n, hn⟩ : ∃ n, Hid (E.length = n) := ⟨_, rfl⟩
  rw [akV, hP.out]
  have HL := hid hl2
  have hlen : n ≤ 100 := by rw [← hn.out]; exact hle
  rw [hn.out] at hP hob hap3 x3a y3 hy3 I0 HRB HEE ⊢
  clear h hE hb hs hrec H0 H0d H1 H1d H2 H2d H3 G0 G1 G2 G3 GA d0 d1 d2 b0 rB0 rB0d rB1 rB1d rB2 rB2d nB nB1 nB2 old1 old2 old3 sz1 sz2 sz3 hlt S1 S2 S3 lt1 lt2 hl hl2 hle
  have AA : Hid (True) := trivial
  generalize hBx : w.heap.size = Bx at *
  have HY1 : Hid ((w0.drew.alloc (.cells #[.slice p1 q1 r1] 22)).cell? ⟨Bx, 4, none⟩ = some (.slice p1 q1 r1) ∧ w1.cell? ⟨Bx, 4, none⟩ = some (.slice p1 q1 r1) ∧ W1.cell? ⟨Bx, 4, none⟩ = some (.slice p1 q1 r1)) := hy1
  have HY2 : Hid ((W1.drew.alloc (.cells #[.slice p2 q2 r2] 23)).cell? ⟨Bx, 5, none⟩ = some (.slice p2 q2 r2) ∧ w2.cell? ⟨Bx, 5, none⟩ = some (.slice p2 q2 r2) ∧ W2.cell? ⟨Bx, 5, none⟩ = some (.slice p2 q2 r2)) := hy2
  have HY3 : Hid ((W2.drew.alloc (.cells #[.slice a3 n c3] 24)).cell? ⟨Bx, 6, none⟩ = some (.slice a3 n c3) ∧ w3.cell? ⟨Bx, 6, none⟩ = some (.slice a3 n c3) ∧ (w3.setCell ⟨X, 2, none⟩ (.slice b3 m3 k3)).cell? ⟨Bx, 6, none⟩ = some (.slice a3 n c3)) := hy3
  clear hy1 hy2 hy3
  generalize hw3 : w3.setCell ⟨X, 2, none⟩ (.slice b3 m3 k3) = W3 at *
  have hap1' : (Builtin.append_ #[29, 29] 29 #[vi, .slice (some ⟨w0.heap.size, 0, none⟩) 1 1]).run Tryz.prog (w0.alloc (.cells #[.slice p1 q1 r1] 22)).drew = .ok (.slice b1 m1 k1) w1 := hap1
  have hap2' : (Builtin.append_ #[30, 30] 30 #[vt, .slice (some ⟨W1.heap.size, 0, none⟩) 1 1]).run Tryz.prog (W1.alloc (.cells #[.slice p2 q2 r2] 23)).drew = .ok (.slice b2 m2 k2) w2 := hap2
  have hap3' : (Builtin.append_ #[31, 31] 31 #[va, .slice (some ⟨W2.heap.size, 0, none⟩) 1 1]).run Tryz.prog (W2.alloc (.cells #[.slice a3 n c3] 24)).drew = .ok (.slice b3 m3 k3) w3 := hap3
  have HZ0 := hid z0
  have x1b : (w0.alloc (.cells #[.slice p1 q1 r1] 22)).drew.cell? ⟨X, 0, none⟩ = some vi := x1a
  have x2b : (W1.alloc (.cells #[.slice p2 q2 r2] 23)).drew.cell? ⟨X, 1, none⟩ = some vt := x2a
  have x3b : (W2.alloc (.cells #[.slice a3 n c3] 24)).drew.cell? ⟨X, 2, none⟩ = some va := x3a
  clear hap1 hap2 hap3 z0 x1a x2a x3a
  go_enter Tryz.func21, Tryz.ntmps21
  go_upto_region 1 with fail
  try rw [hBx]
  rw [hob.out, hw0]
  generalize Value.agg _ = AG
  go_cut [] (fun w' => w' = W1)
  case first =>
    have HY := HY1
    refine wp_region_held_drew (S := (fun w' => w'.cell? ⟨Bx, 4, none⟩ = some (.slice p1 q1 r1))) (by kernel_rfl) y1 (fun hHeld => ?_)
    refine wpAnyH_take (i := 0) (oi := ⟨some 5, _, _, _, _, _⟩) (v := .pointer (some ⟨X, 0, none⟩)) rfl (by kernel_rfl) (by kernel_rfl) (by kernel_rfl) (fun _ _ _ h => h) (Or.inl ⟨by rfl, ?_⟩) hHeld ?_
    · intro w' hw'
      simp [go_sem]
    try dsimp only [Act.put]
    refine wpAnyH_take (i := 1) (oi := ⟨some 6, _, _, _, _, _⟩) (v := .pointer (some ⟨X, 0, none⟩)) rfl (by kernel_rfl) (by kernel_rfl) (by kernel_rfl) (fun _ _ _ h => h) (Or.inl ⟨by rfl, ?_⟩) hHeld ?_
    · intro w' hw'
      simp [go_sem]
    try dsimp only [Act.put]
    refine wpAnyH_take (i := 2) (oi := ⟨some 7, _, _, _, _, _⟩) (v := .pointer (some ⟨X, 0, none⟩)) rfl (by kernel_rfl) (by kernel_rfl) (by kernel_rfl) (fun _ _ _ h => h) (Or.inl ⟨by rfl, ?_⟩) hHeld ?_
    · intro w' hw'
      simp [go_sem]
    try dsimp only [Act.put]
    refine wpAnyH_take (i := 3) (oi := ⟨some 8, _, _, _, _, _⟩) (v := .pointer (some ⟨X, 0, none⟩)) rfl (by kernel_rfl) (by kernel_rfl) (by kernel_rfl) (fun _ _ _ h => h) (Or.inl ⟨by rfl, ?_⟩) hHeld ?_
    · intro w' hw'
      simp [go_sem]
    try dsimp only [Act.put]
    refine wpAnyH_take (i := 5) (oi := ⟨some 10, _, _, _, _, _⟩) (v := .pointer (some ⟨Bx, 4, none⟩)) rfl (by kernel_rfl) (by kernel_rfl) (by kernel_rfl) (fun _ _ _ h => h) (Or.inl ⟨by rfl, ?_⟩) hHeld ?_
    · intro w' hw'
      simp [go_sem]
    try dsimp only [Act.put]
    refine wpAnyH_take (i := 6) (oi := ⟨some 11, _, _, _, _, _⟩) (v := .slice p1 q1 r1) rfl (by kernel_rfl) (by kernel_rfl) (by kernel_rfl) (fun _ _ _ h => h) (Or.inl ⟨by rfl, ?_⟩) hHeld ?_
    · intro w' hw'
      simp [go_sem, hw']
    try dsimp only [Act.put]
    refine wpAnyH_ready (rs := [4, 7]) (by kernel_rfl) (by decide) (AllReadyH.cons rfl (fun K' hK' => ?_) (AllReadyH.cons rfl (fun K' hK' => ?_) AllReadyH.nil))
    · rw [if_pos (by rfl)]
      go_wp2
      refine hK'.out _ _ y1 (fun hHeld => ?_)
      try dsimp only [Act.put]
      refine wpAnyH_ready (rs := [7]) (by kernel_rfl) (by decide) (AllReadyH.cons rfl (fun K' hK' => ?_) AllReadyH.nil)
      rw [if_pos (by rfl)]
      go_wp2
      refine hK'.out _ _ HY.out.1 (fun hHeld => ?_)
      try dsimp only [Act.put]
      refine wpAnyH_ready (rs := [8]) (by kernel_rfl) (by decide) (AllReadyH.cons rfl (fun K' hK' => ?_) AllReadyH.nil)
      refine step_append17 rfl _ _ 29 rfl vi _ (.slice b1 m1 k1) w1 rfl rfl hap1' ?_
      refine hK'.out _ _ HY.out.2.1 (fun hHeld => ?_)
      try dsimp only [Act.put]
      refine wpAnyH_take (i := 9) (oi := ⟨some 14, _, _, _, _, _⟩) (v := .pointer (some ⟨X, 0, none⟩)) rfl (by kernel_rfl) (by kernel_rfl) (by kernel_rfl) (fun _ _ _ h => h) (Or.inl ⟨by rfl, ?_⟩) hHeld ?_
      · intro w' hw'
        simp [go_sem]
      try dsimp only [Act.put]
      refine wpAnyH_take (i := 10) (oi := ⟨some 15, _, _, _, _, _⟩) (v := .pointer (some ⟨X, 0, none⟩)) rfl (by kernel_rfl) (by kernel_rfl) (by kernel_rfl) (fun _ _ _ h => h) (Or.inl ⟨by rfl, ?_⟩) hHeld ?_
      · intro w' hw'
        simp [go_sem]
      try dsimp only [Act.put]
      refine wpAnyH_ready (rs := [11]) (by kernel_rfl) (by decide) (AllReadyH.cons rfl (fun K' hK' => ?_) AllReadyH.nil)
      rw [if_pos (by rfl)]
      go_wp2
      try rw [hw1]
      refine hK'.out _ _ HY.out.2.2 (fun _ => wpAnyH_done (by kernel_rfl) ?_ _)
      go_wp2
      go_meet
      exact rfl
    · rw [if_pos (by rfl)]
      go_wp2
      refine hK'.out _ _ HY.out.1 (fun hHeld => ?_)
      try dsimp only [Act.put]
      refine wpAnyH_ready (rs := [4]) (by kernel_rfl) (by decide) (AllReadyH.cons rfl (fun K' hK' => ?_) AllReadyH.nil)
      rw [if_pos (by rfl)]
      go_wp2
      refine hK'.out _ _ HY.out.1 (fun hHeld => ?_)
      try dsimp only [Act.put]
      refine wpAnyH_ready (rs := [8]) (by kernel_rfl) (by decide) (AllReadyH.cons rfl (fun K' hK' => ?_) AllReadyH.nil)
      refine step_append17 rfl _ _ 29 rfl vi _ (.slice b1 m1 k1) w1 rfl rfl hap1' ?_
      refine hK'.out _ _ HY.out.2.1 (fun hHeld => ?_)
      try dsimp only [Act.put]
      refine wpAnyH_take (i := 9) (oi := ⟨some 14, _, _, _, _, _⟩) (v := .pointer (some ⟨X, 0, none⟩)) rfl (by kernel_rfl) (by kernel_rfl) (by kernel_rfl) (fun _ _ _ h => h) (Or.inl ⟨by rfl, ?_⟩) hHeld ?_
      · intro w' hw'
        simp [go_sem]
      try dsimp only [Act.put]
      refine wpAnyH_take (i := 10) (oi := ⟨some 15, _, _, _, _, _⟩) (v := .pointer (some ⟨X, 0, none⟩)) rfl (by kernel_rfl) (by kernel_rfl) (by kernel_rfl) (fun _ _ _ h => h) (Or.inl ⟨by rfl, ?_⟩) hHeld ?_
      · intro w' hw'
        simp [go_sem]
      try dsimp only [Act.put]
      refine wpAnyH_ready (rs := [11]) (by kernel_rfl) (by decide) (AllReadyH.cons rfl (fun K' hK' => ?_) AllReadyH.nil)
      rw [if_pos (by rfl)]
      go_wp2
      try rw [hw1]
      refine hK'.out _ _ HY.out.2.2 (fun _ => wpAnyH_done (by kernel_rfl) ?_ _)
      go_wp2
      go_meet
      exact rfl
  case rest =>
  have hcut := hcut.symm
  subst hcut
  go_upto_region 2 with fail
  go_cut [] (fun w' => w' = W2)
  case first =>
    have HY := HY2
    refine wp_region_held_drew (S := (fun w' => w'.cell? ⟨Bx, 5, none⟩ = some (.slice p2 q2 r2))) (by kernel_rfl) y2 (fun hHeld => ?_)
    refine wpAnyH_take (i := 0) (oi := ⟨some 16, _, _, _, _, _⟩) (v := .pointer (some ⟨X, 0, none⟩)) rfl (by kernel_rfl) (by kernel_rfl) (by kernel_rfl) (fun _ _ _ h => h) (Or.inl ⟨by rfl, ?_⟩) hHeld ?_
    · intro w' hw'
      simp [go_sem]
    try dsimp only [Act.put]
    refine wpAnyH_take (i := 1) (oi := ⟨some 17, _, _, _, _, _⟩) (v := .pointer (some ⟨X, 0, none⟩)) rfl (by kernel_rfl) (by kernel_rfl) (by kernel_rfl) (fun _ _ _ h => h) (Or.inl ⟨by rfl, ?_⟩) hHeld ?_
    · intro w' hw'
      simp [go_sem]
    try dsimp only [Act.put]
    refine wpAnyH_take (i := 2) (oi := ⟨some 18, _, _, _, _, _⟩) (v := .pointer (some ⟨X, 0, none⟩)) rfl (by kernel_rfl) (by kernel_rfl) (by kernel_rfl) (fun _ _ _ h => h) (Or.inl ⟨by rfl, ?_⟩) hHeld ?_
    · intro w' hw'
      simp [go_sem]
    try dsimp only [Act.put]
    refine wpAnyH_take (i := 3) (oi := ⟨some 19, _, _, _, _, _⟩) (v := .pointer (some ⟨X, 1, none⟩)) rfl (by kernel_rfl) (by kernel_rfl) (by kernel_rfl) (fun _ _ _ h => h) (Or.inl ⟨by rfl, ?_⟩) hHeld ?_
    · intro w' hw'
      simp [go_sem]
    try dsimp only [Act.put]
    refine wpAnyH_take (i := 5) (oi := ⟨some 21, _, _, _, _, _⟩) (v := .pointer (some ⟨Bx, 5, none⟩)) rfl (by kernel_rfl) (by kernel_rfl) (by kernel_rfl) (fun _ _ _ h => h) (Or.inl ⟨by rfl, ?_⟩) hHeld ?_
    · intro w' hw'
      simp [go_sem]
    try dsimp only [Act.put]
    refine wpAnyH_take (i := 6) (oi := ⟨some 22, _, _, _, _, _⟩) (v := .slice p2 q2 r2) rfl (by kernel_rfl) (by kernel_rfl) (by kernel_rfl) (fun _ _ _ h => h) (Or.inl ⟨by rfl, ?_⟩) hHeld ?_
    · intro w' hw'
      simp [go_sem, hw']
    try dsimp only [Act.put]
    refine wpAnyH_ready (rs := [4, 7]) (by kernel_rfl) (by decide) (AllReadyH.cons rfl (fun K' hK' => ?_) (AllReadyH.cons rfl (fun K' hK' => ?_) AllReadyH.nil))
    · rw [if_pos (by rfl)]
      go_wp2
      refine hK'.out _ _ y2 (fun hHeld => ?_)
      try dsimp only [Act.put]
      refine wpAnyH_ready (rs := [7]) (by kernel_rfl) (by decide) (AllReadyH.cons rfl (fun K' hK' => ?_) AllReadyH.nil)
      rw [if_pos (by rfl)]
      go_wp2
      refine hK'.out _ _ HY.out.1 (fun hHeld => ?_)
      try dsimp only [Act.put]
      refine wpAnyH_ready (rs := [8]) (by kernel_rfl) (by decide) (AllReadyH.cons rfl (fun K' hK' => ?_) AllReadyH.nil)
      refine step_append17 rfl _ _ 30 rfl vt _ (.slice b2 m2 k2) w2 rfl rfl hap2' ?_
      refine hK'.out _ _ HY.out.2.1 (fun hHeld => ?_)
      try dsimp only [Act.put]
      refine wpAnyH_take (i := 9) (oi := ⟨some 25, _, _, _, _, _⟩) (v := .pointer (some ⟨X, 0, none⟩)) rfl (by kernel_rfl) (by kernel_rfl) (by kernel_rfl) (fun _ _ _ h => h) (Or.inl ⟨by rfl, ?_⟩) hHeld ?_
      · intro w' hw'
        simp [go_sem]
      try dsimp only [Act.put]
      refine wpAnyH_take (i := 10) (oi := ⟨some 26, _, _, _, _, _⟩) (v := .pointer (some ⟨X, 1, none⟩)) rfl (by kernel_rfl) (by kernel_rfl) (by kernel_rfl) (fun _ _ _ h => h) (Or.inl ⟨by rfl, ?_⟩) hHeld ?_
      · intro w' hw'
        simp [go_sem]
      try dsimp only [Act.put]
      refine wpAnyH_ready (rs := [11]) (by kernel_rfl) (by decide) (AllReadyH.cons rfl (fun K' hK' => ?_) AllReadyH.nil)
      rw [if_pos (by rfl)]
      go_wp2
      try rw [hw2]
      refine hK'.out _ _ HY.out.2.2 (fun _ => wpAnyH_done (by kernel_rfl) ?_ _)
      go_wp2
      go_meet
      exact rfl
    · rw [if_pos (by rfl)]
      go_wp2
      refine hK'.out _ _ HY.out.1 (fun hHeld => ?_)
      try dsimp only [Act.put]
      refine wpAnyH_ready (rs := [4]) (by kernel_rfl) (by decide) (AllReadyH.cons rfl (fun K' hK' => ?_) AllReadyH.nil)
      rw [if_pos (by rfl)]
      go_wp2
      refine hK'.out _ _ HY.out.1 (fun hHeld => ?_)
      try dsimp only [Act.put]
      refine wpAnyH_ready (rs := [8]) (by kernel_rfl) (by decide) (AllReadyH.cons rfl (fun K' hK' => ?_) AllReadyH.nil)
      refine step_append17 rfl _ _ 30 rfl vt _ (.slice b2 m2 k2) w2 rfl rfl hap2' ?_
      refine hK'.out _ _ HY.out.2.1 (fun hHeld => ?_)
      try dsimp only [Act.put]
      refine wpAnyH_take (i := 9) (oi := ⟨some 25, _, _, _, _, _⟩) (v := .pointer (some ⟨X, 0, none⟩)) rfl (by kernel_rfl) (by kernel_rfl) (by kernel_rfl) (fun _ _ _ h => h) (Or.inl ⟨by rfl, ?_⟩) hHeld ?_
      · intro w' hw'
        simp [go_sem]
      try dsimp only [Act.put]
      refine wpAnyH_take (i := 10) (oi := ⟨some 26, _, _, _, _, _⟩) (v := .pointer (some ⟨X, 1, none⟩)) rfl (by kernel_rfl) (by kernel_rfl) (by kernel_rfl) (fun _ _ _ h => h) (Or.inl ⟨by rfl, ?_⟩) hHeld ?_
      · intro w' hw'
        simp [go_sem]
      try dsimp only [Act.put]
      refine wpAnyH_ready (rs := [11]) (by kernel_rfl) (by decide) (AllReadyH.cons rfl (fun K' hK' => ?_) AllReadyH.nil)
      rw [if_pos (by rfl)]
      go_wp2
      try rw [hw2]
      refine hK'.out _ _ HY.out.2.2 (fun _ => wpAnyH_done (by kernel_rfl) ?_ _)
      go_wp2
      go_meet
      exact rfl
  case rest =>
  have hcut := hcut.symm
  subst hcut
  go_upto_region 3 with fail
  go_cut [] (fun w' => w' = W3)
  case first =>
    have HY := HY3
    refine wp_region_held_drew (S := (fun w' => w'.cell? ⟨Bx, 6, none⟩ = some (.slice a3 n c3))) (by kernel_rfl) y3 (fun hHeld => ?_)
    refine wpAnyH_take (i := 0) (oi := ⟨some 27, _, _, _, _, _⟩) (v := .pointer (some ⟨X, 0, none⟩)) rfl (by kernel_rfl) (by kernel_rfl) (by kernel_rfl) (fun _ _ _ h => h) (Or.inl ⟨by rfl, ?_⟩) hHeld ?_
    · intro w' hw'
      simp [go_sem]
    try dsimp only [Act.put]
    refine wpAnyH_take (i := 1) (oi := ⟨some 28, _, _, _, _, _⟩) (v := .pointer (some ⟨X, 0, none⟩)) rfl (by kernel_rfl) (by kernel_rfl) (by kernel_rfl) (fun _ _ _ h => h) (Or.inl ⟨by rfl, ?_⟩) hHeld ?_
    · intro w' hw'
      simp [go_sem]
    try dsimp only [Act.put]
    refine wpAnyH_take (i := 2) (oi := ⟨some 29, _, _, _, _, _⟩) (v := .pointer (some ⟨X, 0, none⟩)) rfl (by kernel_rfl) (by kernel_rfl) (by kernel_rfl) (fun _ _ _ h => h) (Or.inl ⟨by rfl, ?_⟩) hHeld ?_
    · intro w' hw'
      simp [go_sem]
    try dsimp only [Act.put]
    refine wpAnyH_take (i := 3) (oi := ⟨some 30, _, _, _, _, _⟩) (v := .pointer (some ⟨X, 2, none⟩)) rfl (by kernel_rfl) (by kernel_rfl) (by kernel_rfl) (fun _ _ _ h => h) (Or.inl ⟨by rfl, ?_⟩) hHeld ?_
    · intro w' hw'
      simp [go_sem]
    try dsimp only [Act.put]
    refine wpAnyH_take (i := 5) (oi := ⟨some 32, _, _, _, _, _⟩) (v := .pointer (some ⟨Bx, 6, none⟩)) rfl (by kernel_rfl) (by kernel_rfl) (by kernel_rfl) (fun _ _ _ h => h) (Or.inl ⟨by rfl, ?_⟩) hHeld ?_
    · intro w' hw'
      simp [go_sem]
    try dsimp only [Act.put]
    refine wpAnyH_take (i := 6) (oi := ⟨some 33, _, _, _, _, _⟩) (v := .slice a3 n c3) rfl (by kernel_rfl) (by kernel_rfl) (by kernel_rfl) (fun _ _ _ h => h) (Or.inl ⟨by rfl, ?_⟩) hHeld ?_
    · intro w' hw'
      simp [go_sem, hw']
    try dsimp only [Act.put]
    refine wpAnyH_ready (rs := [4, 7]) (by kernel_rfl) (by decide) (AllReadyH.cons rfl (fun K' hK' => ?_) (AllReadyH.cons rfl (fun K' hK' => ?_) AllReadyH.nil))
    · rw [if_pos (by rfl)]
      go_wp2
      refine hK'.out _ _ y3 (fun hHeld => ?_)
      try dsimp only [Act.put]
      refine wpAnyH_ready (rs := [7]) (by kernel_rfl) (by decide) (AllReadyH.cons rfl (fun K' hK' => ?_) AllReadyH.nil)
      rw [if_pos (by rfl)]
      go_wp2
      refine hK'.out _ _ HY.out.1 (fun hHeld => ?_)
      try dsimp only [Act.put]
      refine wpAnyH_ready (rs := [8]) (by kernel_rfl) (by decide) (AllReadyH.cons rfl (fun K' hK' => ?_) AllReadyH.nil)
      refine step_append17 rfl _ _ 31 rfl va _ (.slice b3 m3 k3) w3 rfl rfl hap3' ?_
      refine hK'.out _ _ HY.out.2.1 (fun hHeld => ?_)
      try dsimp only [Act.put]
      refine wpAnyH_take (i := 9) (oi := ⟨some 36, _, _, _, _, _⟩) (v := .pointer (some ⟨X, 0, none⟩)) rfl (by kernel_rfl) (by kernel_rfl) (by kernel_rfl) (fun _ _ _ h => h) (Or.inl ⟨by rfl, ?_⟩) hHeld ?_
      · intro w' hw'
        simp [go_sem]
      try dsimp only [Act.put]
      refine wpAnyH_take (i := 10) (oi := ⟨some 37, _, _, _, _, _⟩) (v := .pointer (some ⟨X, 2, none⟩)) rfl (by kernel_rfl) (by kernel_rfl) (by kernel_rfl) (fun _ _ _ h => h) (Or.inl ⟨by rfl, ?_⟩) hHeld ?_
      · intro w' hw'
        simp [go_sem]
      try dsimp only [Act.put]
      refine wpAnyH_ready (rs := [11]) (by kernel_rfl) (by decide) (AllReadyH.cons rfl (fun K' hK' => ?_) AllReadyH.nil)
      rw [if_pos (by rfl)]
      go_wp2
      try rw [hw3]
      refine hK'.out _ _ HY.out.2.2 (fun _ => wpAnyH_done (by kernel_rfl) ?_ _)
      go_wp2
      go_meet
      exact rfl
    · rw [if_pos (by rfl)]
      go_wp2
      refine hK'.out _ _ HY.out.1 (fun hHeld => ?_)
      try dsimp only [Act.put]
      refine wpAnyH_ready (rs := [4]) (by kernel_rfl) (by decide) (AllReadyH.cons rfl (fun K' hK' => ?_) AllReadyH.nil)
      rw [if_pos (by rfl)]
      go_wp2
      refine hK'.out _ _ HY.out.1 (fun hHeld => ?_)
      try dsimp only [Act.put]
      refine wpAnyH_ready (rs := [8]) (by kernel_rfl) (by decide) (AllReadyH.cons rfl (fun K' hK' => ?_) AllReadyH.nil)
      refine step_append17 rfl _ _ 31 rfl va _ (.slice b3 m3 k3) w3 rfl rfl hap3' ?_
      refine hK'.out _ _ HY.out.2.1 (fun hHeld => ?_)
      try dsimp only [Act.put]
      refine wpAnyH_take (i := 9) (oi := ⟨some 36, _, _, _, _, _⟩) (v := .pointer (some ⟨X, 0, none⟩)) rfl (by kernel_rfl) (by kernel_rfl) (by kernel_rfl) (fun _ _ _ h => h) (Or.inl ⟨by rfl, ?_⟩) hHeld ?_
      · intro w' hw'
        simp [go_sem]
      try dsimp only [Act.put]
      refine wpAnyH_take (i := 10) (oi := ⟨some 37, _, _, _, _, _⟩) (v := .pointer (some ⟨X, 2, none⟩)) rfl (by kernel_rfl) (by kernel_rfl) (by kernel_rfl) (fun _ _ _ h => h) (Or.inl ⟨by rfl, ?_⟩) hHeld ?_
      · intro w' hw'
        simp [go_sem]
      try dsimp only [Act.put]
      refine wpAnyH_ready (rs := [11]) (by kernel_rfl) (by decide) (AllReadyH.cons rfl (fun K' hK' => ?_) AllReadyH.nil)
      rw [if_pos (by rfl)]
      go_wp2
      try rw [hw3]
      refine hK'.out _ _ HY.out.2.2 (fun _ => wpAnyH_done (by kernel_rfl) ?_ _)
      go_wp2
      go_meet
      exact rfl
  case rest =>
  have hcut := hcut.symm
  subst hcut
  go_wp2
  go_loopw [4] (fun i w' => ∃ j : Nat, j ≤ n ∧ i = .int .i64 (j : Int) ∧ Hid (∃ vi' vt' va', Bg w' W X vi' vt' va' (Li ++ .slice p1 q1 r1 :: (E.take j).map (·.l)) (Lt ++ .slice p2 q2 r2 :: (E.take j).map (·.e)) (La ++ .slice a3 n c3 :: (E.take j).map (·.a)) ∧ Gth w0 w' X vi vt va vi' vt' va')) (fun i _ => n - (intOf i).toNat)
  case atStart => exact ⟨0, Nat.zero_le _, rfl, I0⟩
  case round =>
    obtain ⟨j, hj, rfl, I⟩ := hrel
    obtain ⟨vi', vt', va', B, G⟩ := I.out
    have z6 := HRB.out wr G.kp
    by_cases hjn : j < n
    · obtain ⟨m, hm⟩ : ∃ m, E[j]? = some m := ⟨_, List.getElem?_eq_getElem (by rw [hn.out]; exact hjn)⟩
      have hmE := List.mem_of_getElem? hm
      obtain ⟨⟨l1, l2, l3, e1⟩, ⟨f1, f2, f3, e2⟩, e3⟩ := HS.out m hmE
      have hc := HR.out m hmE wr vi' vt' va' _ _ _ B (Nat.le_trans hW0 G.kp.size) (by
        have g := HL.out
        simp only [List.length_append, List.length_cons, List.length_map, List.length_take, hn.out] at g ⊢
        omega)
      have hEE := HEE.out wr G.kp
      rw [← hn.out] at hEE
      obtain ⟨g, rfl, cl⟩ := emcs_cells hEE hm
      have c0 := cl 0 _ (by omega) rfl
      have c1 := cl 1 _ (by omega) rfl
      have c2 := cl 2 _ (by omega) rfl
      have c3' := cl 3 _ (by omega) rfl
      have c4 := cl 4 _ (by omega) rfl
      have c5 := cl 5 _ (by omega) rfl
      have c6 := cl 6 _ (by omega) rfl
      rw [Nat.add_zero] at c0
      have hc : Calls Tryz.prog 21 #[.pointer (some ⟨X, 0, none⟩), .agg #[.int .i64 m.x.kind, .int .i64 m.x.a, .int .i64 m.x.b, .int .i64 m.x.size, m.l, m.e, m.a]] wr _ := hc
      have A1 := hid (take_map_snoc hm (·.l) Li (.slice p1 q1 r1))
      have A2 := hid (take_map_snoc hm (·.e) Lt (.slice p2 q2 r2))
      have A3 := hid (take_map_snoc hm (·.a) La (.slice (some ⟨g, 0, none⟩) n c3))
      rw [e1] at c4 hc
      rw [e2] at c5 hc
      rw [e3] at c6 hc
      rw [e1] at A1
      rw [e2] at A2
      rw [e3] at A3
      have HG := hid G
      have y1 : (j : Int) < (n : Int) := by omega
      have y3 : (0 : Int) ≤ (j : Int) := by omega
      have hjn' := hid hjn
      clear I B G hEE cl e1 e2 e3 hm hmE
      go_wp2_with (go_at_call 21; fail)
      go_at_call 21
      refine hc.mono ?_
      rintro e w5 ⟨rfl, vi5, vt5, va5, B5, G5⟩
      have N5 : Hid (∃ vi' vt' va', Bg w5 W X vi' vt' va' (Li ++ .slice p1 q1 r1 :: (E.take (j + 1)).map (·.l)) (Lt ++ .slice p2 q2 r2 :: (E.take (j + 1)).map (·.e)) (La ++ .slice (some ⟨g, 0, none⟩) n c3 :: (E.take (j + 1)).map (·.a)) ∧ Gth w0 w5 X vi vt va vi' vt' va') := ⟨vi5, vt5, va5, by rw [A1.out, A2.out, A3.out]; exact B5, HG.out.trans G5⟩
      clear B5 G5 hc HG A1 A2 A3
      go_wp2
      exact ⟨⟨j + 1, hjn'.out, by go_num, N5⟩, by have := hjn'.out; simp [RowKit.intOf]; omega⟩
    · obtain rfl : j = n := by omega
      have y1 : ¬ (j : Int) < (j : Int) := by omega
      have F : Hid (GaPost w W X vi vt va (Li ++ .slice p1 q1 r1 :: E.map (·.l)) (Lt ++ .slice p2 q2 r2 :: E.map (·.e)) (La ++ .slice a3 j c3 :: E.map (·.a)) (.returned (.tuple #[])) wr) := ⟨rfl, vi', vt', va', by rw [← hn.out, List.take_length] at B; rw [← hn.out]; exact B, HG0.out.trans G⟩
      rw [hP.out] at F
      clear I B G
      go_wp2
      go_end0
      exact F.out
theorem gather_leaf {w : World} {W X : Nat} {vi vt va : Value} {Li Lt La : List Value} (h : Bg w W X vi vt va Li Lt La) (hW : W ≤ w.heap.size) (hl : Li.length ≤ 990 ∧ Lt.length ≤ 990 ∧ La.length ≤ 990)
    (x : Ask) (ul ue : Value) (s1 : IsSl ul) (s2 : IsSl ue) : Calls Tryz.prog 21 #[.pointer (some ⟨X, 0, none⟩), akV x ul ue (.slice none 0 0)] w (GaPost w W X vi vt va (Li ++ [ul]) (Lt ++ [ue]) (La ++ [.slice none 0 0])) :=
  gather_gen h hW (by omega) x ul ue s1 s2 [] none 0 (OwnM.nil 7 w) (fun k hk => by cases hk) (by simp) (fun m hm => by cases hm) (fun m hm => by cases hm) (by simp only [List.length_nil, Nat.add_zero]; exact hl)
theorem gather_any {w : World} {W X : Nat} {vi vt va : Value} {Li Lt La : List Value} (h : Bg w W X vi vt va Li Lt La) (hW : W ≤ w.heap.size) (hl : Li.length ≤ 800 ∧ Lt.length ≤ 800 ∧ La.length ≤ 800)
    (x : Ask) (ul ue ua : Value) (s1 : IsSl ul) (s2 : IsSl ue) (E : List Em) (hE : OwnM 7 w ua E.length (emcs E)) (hb : ∀ k, ua.ownBlock = some k → k < W ∧ k ≠ X) (hle : E.length ≤ 100) (hs : ∀ m ∈ E, IsSl m.l ∧ IsSl m.e ∧ m.a = .slice none 0 0) :
    Calls Tryz.prog 21 #[.pointer (some ⟨X, 0, none⟩), akV x ul ue ua] w (GaPost w W X vi vt va (Li ++ ul :: E.map (·.l)) (Lt ++ ue :: E.map (·.e)) (La ++ ua :: E.map (·.a))) := by
  obtain ⟨a, c, rfl, _, _⟩ := hE.shape
  refine gather_gen h hW (by omega) x ul ue s1 s2 E a c hE hb hle hs (fun m hm w1 vi1 vt1 va1 Li1 Lt1 La1 B1 hW1 hl1 => ?_) (by omega)
  have e := (hs m hm).2.2
  rw [e]
  exact gather_leaf B1 hW1 hl1 m.x m.l m.e (hs m hm).1 (hs m hm).2.1
end Msg
end Go.Proofs.YtmhgdcfmfcjagaaGreatDoor
