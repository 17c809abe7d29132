import Derived.Test.YtkamjpjmdibfgaaPkKP1
/- Layer 15, the program: take, lay -/
namespace Go.Proofs.Ytkamjpjmdibfgaa
open Go.RowKit Go.Maps
namespace Kc
theorem snoc_cases (X : List En) : X = [] ∨ ∃ X' x, X = X' ++ [x] := by
  rcases List.eq_nil_or_concat X with h | ⟨X', x, h⟩
  · exact .inl h
  · exact .inr ⟨X', x, by rw [h, List.concat_eq_append]⟩
def TkP (w : World) (a : Nat) (X Y : List En) (e : En) (x0 x3 x4 x5 x6 x7 x8 x9 : Value) (w' : World) : Prop :=
  Li w' a (X ++ Y) x0 x3 x4 x5 x6 x7 x8 x9 ∧ (∃ nw ol, pl w' e nw ol) ∧ Keep (Fp a (X ++ e :: Y)) w w' ∧ w'.heap.size = w.heap.size
theorem fp_a (a : Nat) (L : List En) : Fp a L a := List.mem_cons_self ..
theorem fp_b {a : Nat} {L : List En} {e : En} (h : e ∈ L) : Fp a L e.b := List.mem_cons_of_mem _ (List.mem_map_of_mem h)
theorem size_set (w : World) (p : Addr) (v : Value) : (w.setCell p v).heap.size = w.heap.size := by simp [World.setCell]
theorem Li.drew {w : World} {a : Nat} {L : List En} {x0 x3 x4 x5 x6 x7 x8 x9 : Value} (h : Li w a L x0 x3 x4 x5 x6 x7 x8 x9) : Li w.drew a L x0 x3 x4 x5 x6 x7 x8 x9 := ⟨h.row, seg_kept (w := w) (w' := w.drew) (fun _ _ => rfl) h.seg, h.nb⟩
theorem TkP.drew {w w' : World} {a : Nat} {X Y : List En} {e : En} {x0 x3 x4 x5 x6 x7 x8 x9 : Value} (h : TkP w a X Y e x0 x3 x4 x5 x6 x7 x8 x9 w') : TkP w a X Y e x0 x3 x4 x5 x6 x7 x8 x9 w'.drew := ⟨h.1.drew, h.2.1, keep_drew h.2.2.1, h.2.2.2⟩
theorem hd_two (X : List En) (x : En) (Y Z : List En) (z z' : Option Nat) : hd (X ++ [x] ++ Y) z = hd (X ++ [x] ++ Z) z' := by cases X <;> rfl
set_option maxRecDepth 100000 in
set_option maxHeartbeats 2000000 in
theorem take_00 {w : World} {a : Nat} {e : En} {x0 x3 x4 x5 x6 x7 x8 x9 : Value} (h : Li w a [e] x0 x3 x4 x5 x6 x7 x8 x9) :
    Calls Try.prog 37 #[.pointer (some ⟨a, 1, none⟩), .pointer (some ⟨e.b, 0, none⟩)] w fun r w' => r = .returned (.tuple #[]) ∧ TkP w a [] [] e x0 x3 x4 x5 x6 x7 x8 x9 w' := by
  obtain ⟨_, _, _, p3, p4⟩ := pl_c h.seg.1
  obtain ⟨n1, n2, _, _⟩ := nd_mid (X := []) (Y := []) h.nb
  obtain ⟨_, c1, c2, _⟩ := h.cs
  have f1 := h.fz 1
  have f2 := h.fz 2
  have P : Hid (TkP w a [] [] e x0 x3 x4 x5 x6 x7 x8 x9 ((w.setCell ⟨a, 1, none⟩ (pv none)).setCell ⟨a, 2, none⟩ (pv none))) :=
    ⟨⟨row2 (row1 h.row _) _, trivial, n1⟩, ⟨_, _, pl_set (pl_set h.seg.1 (Ne.symm n2) _ _) (Ne.symm n2) _ _⟩, keep_set (keep_set (keep_refl _ _) (fp_a _ _) _ _) (fp_a _ _) _ _, by rw [size_set, size_set]⟩
  simp only [pv, hd, ls] at c1 c2 p3 p4 P
  clear h
  generalize e.b = b at *
  go_enter Try.func37, Try.ntmps37
  go_wp2
  go_end0
  exact ⟨rfl, P.out⟩
set_option maxRecDepth 100000 in
set_option maxHeartbeats 2000000 in
theorem take_10 {w : World} {a : Nat} {X : List En} {x : En} {e : En} {x0 x3 x4 x5 x6 x7 x8 x9 : Value} (h : Li w a (X ++ [x] ++ e :: []) x0 x3 x4 x5 x6 x7 x8 x9) :
    Calls Try.prog 37 #[.pointer (some ⟨a, 1, none⟩), .pointer (some ⟨e.b, 0, none⟩)] w fun r w' => r = .returned (.tuple #[]) ∧ TkP w a (X ++ [x]) ([]) e x0 x3 x4 x5 x6 x7 x8 x9 w' := by
  obtain ⟨n1, n2, n3, n4⟩ := nd_mid h.nb
  obtain ⟨_, c1, c2, _⟩ := h.cs
  have f1 := h.fz 1
  have f2 := h.fz 2
  obtain ⟨s1, s2⟩ := seg_append.1 h.seg
  obtain ⟨s1, s3⟩ := seg_append.1 s1
  rw [ls_snoc] at s2
  have q1 : pl w x (ls none X) (some e.b) := s3.1
  have q2 : pl w e (some x.b) none := s2.1
  obtain ⟨_, _, _, p3, p4⟩ := pl_c q2
  obtain ⟨_, _, _, _, o4⟩ := pl_c q1
  have g4 := pl_f q1 4
  have xe : x.b ≠ e.b := n3 x (by simp)
  have xa : x.b ≠ a := n4 x (by simp)
  have ax := Ne.symm xa
  have ea := Ne.symm n2
  have ex := Ne.symm xe
  have r2 := h.row
  rw [ls_append] at r2
  have X1 : ∀ y ∈ X, y.b ≠ x.b := by
    have := (nd_mid (X := X) (Y := []) (e := x) (by simpa using n1)).2.2.1
    simpa using this
  have P : Hid (TkP w a (X ++ [x]) ([]) e x0 x3 x4 x5 x6 x7 x8 x9 ((w.setCell ⟨x.b, 4, none⟩ (pv none)).setCell ⟨a, 2, none⟩ (pv (some x.b)))) := by
    refine ⟨⟨?_, ?_, n1⟩, ⟨_, _, pl_set (pl_set q2 ex _ _) ea _ _⟩, keep_set (keep_set (keep_refl _ _) (fp_b (by simp)) _ _) (fp_a _ _) _ _, by rw [size_set, size_set]⟩
    · have := row2 ((heap_setCell_other w ⟨x.b, 4, none⟩ a (pv none) ax).trans h.row) (pv (some x.b))
      rw [this, hd_two X x [e] [] none none, List.append_nil, ls_snoc]
    · rw [List.append_nil]
      exact seg_append.2 ⟨seg_set (seg_set s1 X1 _ _) (fun y hy => n4 y (by simp [hy])) _ _, pl_set (pl4 q1 none) xa _ _, trivial⟩
  simp only [pv] at p3 p4 P
  clear h
  clear s1 s2 s3 q1 q2 r2 X1 n1 n3 n4
  go_enter Try.func37, Try.ntmps37
  obtain ⟨xb, hxb⟩ : ∃ xb, x.b = xb := ⟨_, rfl⟩
  rw [hxb] at *
  generalize e.b = b at *
  clear hxb
  go_wp2
  go_region
  go_wp2
  go_end0
  exact ⟨rfl, P.out.drew⟩
set_option maxRecDepth 100000 in
set_option maxHeartbeats 2000000 in
theorem take_01 {w : World} {a : Nat} {Y : List En} {y : En} {e : En} {x0 x3 x4 x5 x6 x7 x8 x9 : Value} (h : Li w a ([] ++ e :: (y :: Y)) x0 x3 x4 x5 x6 x7 x8 x9) :
    Calls Try.prog 37 #[.pointer (some ⟨a, 1, none⟩), .pointer (some ⟨e.b, 0, none⟩)] w fun r w' => r = .returned (.tuple #[]) ∧ TkP w a ([]) ((y :: Y)) e x0 x3 x4 x5 x6 x7 x8 x9 w' := by
  obtain ⟨n1, n2, n3, n4⟩ := nd_mid h.nb
  obtain ⟨_, c1, c2, _⟩ := h.cs
  have f1 := h.fz 1
  have f2 := h.fz 2
  have q2 : pl w e none (some y.b) := h.seg.1
  have q1 : pl w y (some e.b) (hd Y none) := h.seg.2.1
  have s2 := h.seg.2.2
  obtain ⟨_, _, _, p3, p4⟩ := pl_c q2
  obtain ⟨_, _, _, o3, _⟩ := pl_c q1
  have g3 := pl_f q1 3
  have ye : y.b ≠ e.b := n3 y (by simp)
  have ya : y.b ≠ a := n4 y (by simp)
  have ay := Ne.symm ya
  have ea := Ne.symm n2
  have ey := Ne.symm ye
  have Y1 : ∀ z ∈ Y, z.b ≠ y.b := by
    have := (nd_mid (X := []) (Y := Y) n1).2.2.1
    simpa using this
  have P : Hid (TkP w a ([]) ((y :: Y)) e x0 x3 x4 x5 x6 x7 x8 x9 ((w.setCell ⟨a, 1, none⟩ (pv (some y.b))).setCell ⟨y.b, 3, none⟩ (pv none))) := by
    refine ⟨⟨?_, ?_, n1⟩, ⟨_, _, pl_set (pl_set q2 ea _ _) ey _ _⟩, keep_set (keep_set (keep_refl _ _) (fp_a _ _) _ _) (fp_b (by simp)) _ _, by rw [size_set, size_set]⟩
    · exact (heap_setCell_other _ ⟨y.b, 3, none⟩ a (pv none) ay).trans (row1 h.row _)
    · exact ⟨pl3 (pl_set q1 ya _ _) none, seg_set (seg_set s2 (fun z hz => n4 z (by simp [hz])) _ _) Y1 _ _⟩
  simp only [pv] at p3 p4 P
  clear h
  clear s2 q1 q2 Y1 n1 n3 n4
  go_enter Try.func37, Try.ntmps37
  obtain ⟨yb, hyb⟩ : ∃ yb, y.b = yb := ⟨_, rfl⟩
  rw [hyb] at *
  generalize e.b = b at *
  clear hyb
  go_wp2
  go_region
  go_wp2
  go_end0
  exact ⟨rfl, P.out.drew⟩
set_option maxRecDepth 100000 in
set_option maxHeartbeats 2000000 in
theorem take_11 {w : World} {a : Nat} {X Y : List En} {x y : En} {e : En} {x0 x3 x4 x5 x6 x7 x8 x9 : Value} (h : Li w a (X ++ [x] ++ e :: (y :: Y)) x0 x3 x4 x5 x6 x7 x8 x9) :
    Calls Try.prog 37 #[.pointer (some ⟨a, 1, none⟩), .pointer (some ⟨e.b, 0, none⟩)] w fun r w' => r = .returned (.tuple #[]) ∧ TkP w a (X ++ [x]) ((y :: Y)) e x0 x3 x4 x5 x6 x7 x8 x9 w' := by
  obtain ⟨n1, n2, n3, n4⟩ := nd_mid h.nb
  obtain ⟨_, c1, c2, _⟩ := h.cs
  have f1 := h.fz 1
  have f2 := h.fz 2
  obtain ⟨s1, s2⟩ := seg_append.1 h.seg
  obtain ⟨s1, s3⟩ := seg_append.1 s1
  rw [ls_snoc] at s2
  have q0 : pl w x (ls none X) (some e.b) := s3.1
  have q2 : pl w e (some x.b) (some y.b) := s2.1
  have q1 : pl w y (some e.b) (hd Y none) := s2.2.1
  have s4 := s2.2.2
  obtain ⟨_, _, _, p3, p4⟩ := pl_c q2
  obtain ⟨_, _, _, _, o4⟩ := pl_c q0
  obtain ⟨_, _, _, o3, _⟩ := pl_c q1
  have g4 := pl_f q0 4
  have g3 := pl_f q1 3
  have xe : x.b ≠ e.b := n3 x (by simp)
  have xa : x.b ≠ a := n4 x (by simp)
  have ye : y.b ≠ e.b := n3 y (by simp)
  have ya : y.b ≠ a := n4 y (by simp)
  have hx := (nd_mid (X := X) (Y := y :: Y) (e := x) (by simpa using n1)).2.2.1
  have hy := (nd_mid (X := X ++ [x]) (Y := Y) (e := y) (by simpa using n1)).2.2.1
  have xy : x.b ≠ y.b := hy x (by simp)
  have yx := Ne.symm xy
  have ax := Ne.symm xa
  have ay := Ne.symm ya
  have ea := Ne.symm n2
  have ex := Ne.symm xe
  have ey := Ne.symm ye
  have e3 := p3
  have e4 := p4
  have P : Hid (TkP w a (X ++ [x]) ((y :: Y)) e x0 x3 x4 x5 x6 x7 x8 x9 ((w.setCell ⟨x.b, 4, none⟩ (pv (some y.b))).setCell ⟨y.b, 3, none⟩ (pv (some x.b)))) := by
    refine ⟨⟨?_, ?_, n1⟩, ⟨_, _, pl_set (pl_set q2 ex _ _) ey _ _⟩, keep_set (keep_set (keep_refl _ _) (fp_b (by simp)) _ _) (fp_b (by simp)) _ _, (size_set _ _ _).trans (size_set _ _ _)⟩
    · have := (heap_setCell_other (w.setCell ⟨x.b, 4, none⟩ (pv (some y.b))) ⟨y.b, 3, none⟩ a (pv (some x.b)) ay).trans ((heap_setCell_other w ⟨x.b, 4, none⟩ a (pv (some y.b)) ax).trans h.row)
      rw [this, hd_two X x (e :: y :: Y) (y :: Y) none none, ls_append, ls_append none (X ++ [x]) (y :: Y)]
      rfl
    · refine seg_append.2 ⟨seg_append.2 ⟨?_, ?_, trivial⟩, ?_⟩
      · exact seg_set (seg_set s1 (fun z hz => hx z (by simp [hz])) _ _) (fun z hz => hy z (by simp [hz])) _ _
      · exact pl_set (pl4 q0 (some y.b)) xy _ _
      · rw [ls_snoc]
        exact ⟨pl3 (pl_set q1 yx _ _) (some x.b), seg_set (seg_set s4 (fun z hz => hx z (by simp [hz])) _ _) (fun z hz => hy z (by simp [hz])) _ _⟩
  simp only [pv] at p3 p4 P
  clear h
  clear s1 s2 s3 s4 q0 q1 q2 hx hy n1 n3 n4 e3 e4
  go_enter Try.func37, Try.ntmps37
  obtain ⟨xb, hxb⟩ : ∃ xb, x.b = xb := ⟨_, rfl⟩
  obtain ⟨yb, hyb⟩ : ∃ yb, y.b = yb := ⟨_, rfl⟩
  rw [hxb, hyb] at *
  generalize e.b = b at *
  clear hxb hyb
  go_wp2
  go_region
  go_wp2
  go_region
  go_wp2
  go_end0
  exact ⟨rfl, P.out.drew.drew⟩
theorem take_any {w : World} {a : Nat} {X Y : List En} {e : En} {x0 x3 x4 x5 x6 x7 x8 x9 : Value} (h : Li w a (X ++ e :: Y) x0 x3 x4 x5 x6 x7 x8 x9) :
    Calls Try.prog 37 #[.pointer (some ⟨a, 1, none⟩), .pointer (some ⟨e.b, 0, none⟩)] w fun r w' => r = .returned (.tuple #[]) ∧ TkP w a X Y e x0 x3 x4 x5 x6 x7 x8 x9 w' := by
  rcases snoc_cases X with rfl | ⟨X', x, rfl⟩
  · cases Y with
    | nil => exact take_00 h
    | cons y Y => exact take_01 h
  · cases Y with
    | nil => exact take_10 h
    | cons y Y => exact take_11 h
def LyP (w : World) (a : Nat) (L : List En) (e : En) (x0 x3 x4 x5 x6 x7 x8 x9 : Value) (w' : World) : Prop :=
  Li w' a (e :: L) x0 x3 x4 x5 x6 x7 x8 x9 ∧ Keep (Fp a (e :: L)) w w' ∧ w'.heap.size = w.heap.size
set_option maxRecDepth 100000 in
set_option maxHeartbeats 2000000 in
theorem lay_0 {w : World} {a : Nat} {e : En} {nw ol : Option Nat} {x0 x3 x4 x5 x6 x7 x8 x9 : Value} (h : Li w a [] x0 x3 x4 x5 x6 x7 x8 x9) (q : pl w e nw ol) (hn : e.b ∉ a :: ([] : List En).map En.b) :
    Calls Try.prog 38 #[.pointer (some ⟨a, 1, none⟩), .pointer (some ⟨e.b, 0, none⟩)] w fun r w' => r = .returned (.tuple #[]) ∧ LyP w a [] e x0 x3 x4 x5 x6 x7 x8 x9 w' := by
  obtain ⟨_, _, _, p3, p4⟩ := pl_c q
  obtain ⟨_, c1, c2, _⟩ := h.cs
  have f1 := h.fz 1
  have f2 := h.fz 2
  have g3 := pl_f q 3
  have g4 := pl_f q 4
  have ea : e.b ≠ a := fun c => hn (c ▸ List.mem_cons_self ..)
  have ae := Ne.symm ea
  have P : Hid (LyP w a [] e x0 x3 x4 x5 x6 x7 x8 x9 ((((w.setCell ⟨e.b, 3, none⟩ (pv none)).setCell ⟨e.b, 4, none⟩ (pv none)).setCell ⟨a, 2, none⟩ (pv (some e.b))).setCell ⟨a, 1, none⟩ (pv (some e.b)))) := by
    refine ⟨⟨?_, ⟨?_, trivial⟩, by simpa using ae⟩, ?_, by simp only [size_set]⟩
    · exact row1 (row2 ((heap_setCell_other _ ⟨e.b, 4, none⟩ a (pv none) ae).trans ((heap_setCell_other _ ⟨e.b, 3, none⟩ a (pv none) ae).trans h.row)) _) _
    · exact pl_set (pl_set (pl4 (pl3 q none) none) ea _ _) ea _ _
    · exact keep_set (keep_set (keep_set (keep_set (keep_refl _ _) (fp_b (by simp)) _ _) (fp_b (by simp)) _ _) (fp_a _ _) _ _) (fp_a _ _) _ _
  simp only [pv, hd, ls] at c1 c2 P
  clear h q hn
  generalize e.b = b at *
  go_enter Try.func38, Try.ntmps38
  go_wp2
  go_end0
  exact ⟨rfl, P.out⟩
set_option maxRecDepth 100000 in
set_option maxHeartbeats 2000000 in
theorem lay_1 {w : World} {a : Nat} {L : List En} {e x : En} {nw ol : Option Nat} {x0 x3 x4 x5 x6 x7 x8 x9 : Value} (h : Li w a (x :: L) x0 x3 x4 x5 x6 x7 x8 x9) (q : pl w e nw ol) (hn : e.b ∉ a :: (x :: L).map En.b) :
    Calls Try.prog 38 #[.pointer (some ⟨a, 1, none⟩), .pointer (some ⟨e.b, 0, none⟩)] w fun r w' => r = .returned (.tuple #[]) ∧ LyP w a (x :: L) e x0 x3 x4 x5 x6 x7 x8 x9 w' := by
  obtain ⟨_, _, _, p3, p4⟩ := pl_c q
  have q1 : pl w x none (hd L none) := h.seg.1
  have s2 := h.seg.2
  obtain ⟨_, _, _, o3, _⟩ := pl_c q1
  obtain ⟨_, c1, c2, _⟩ := h.cs
  have f1 := h.fz 1
  have g3 := pl_f q 3
  have g4 := pl_f q 4
  have k3 := pl_f q1 3
  obtain ⟨n1, n2, n3, n4⟩ := nd_mid (X := []) h.nb
  have ea : e.b ≠ a := fun c => hn (c ▸ List.mem_cons_self ..)
  have ae := Ne.symm ea
  have hL : ∀ z ∈ x :: L, z.b ≠ e.b := fun z hz c => hn (List.mem_cons_of_mem _ (c ▸ List.mem_map_of_mem hz))
  have xe : x.b ≠ e.b := hL x (by simp)
  have ex := Ne.symm xe
  have xa := Ne.symm n2
  have nn : (a :: (e :: x :: L).map En.b).Nodup := by
    rw [List.map_cons]
    exact (List.Perm.swap a e.b _).nodup_iff.1 (List.nodup_cons.2 ⟨hn, h.nb⟩)
  have P : Hid (LyP w a (x :: L) e x0 x3 x4 x5 x6 x7 x8 x9 ((((w.setCell ⟨e.b, 3, none⟩ (pv none)).setCell ⟨e.b, 4, none⟩ (pv (some x.b))).setCell ⟨x.b, 3, none⟩ (pv (some e.b))).setCell ⟨a, 1, none⟩ (pv (some e.b)))) := by
    refine ⟨⟨?_, ⟨?_, ?_, ?_⟩, nn⟩, ?_, by simp only [size_set]⟩
    · exact row1 ((heap_setCell_other _ ⟨x.b, 3, none⟩ a (pv (some e.b)) n2).trans ((heap_setCell_other _ ⟨e.b, 4, none⟩ a (pv (some x.b)) ae).trans ((heap_setCell_other _ ⟨e.b, 3, none⟩ a (pv none) ae).trans h.row))) _
    · exact pl_set (pl_set (pl4 (pl3 q none) (some x.b)) ex _ _) ea _ _
    · exact pl_set (pl3 (pl_set (pl_set q1 xe _ _) xe _ _) (some e.b)) xa _ _
    · exact seg_set (seg_set (seg_set (seg_set s2 (fun z hz => hL z (by simp [hz])) _ _) (fun z hz => hL z (by simp [hz])) _ _) (fun z hz => n3 z (by simp [hz])) _ _) (fun z hz => n4 z (by simp [hz])) _ _
    · exact keep_set (keep_set (keep_set (keep_set (keep_refl _ _) (fp_b (by simp)) _ _) (fp_b (by simp)) _ _) (fp_b (by simp)) _ _) (fp_a _ _) _ _
  simp only [pv, hd] at c1 P
  clear h q hn q1 s2 n1 n3 n4 hL nn
  obtain ⟨xb, hxb⟩ : ∃ xb, x.b = xb := ⟨_, rfl⟩
  rw [hxb] at *
  generalize e.b = b at *
  clear hxb
  go_enter Try.func38, Try.ntmps38
  go_wp2
  go_end0
  exact ⟨rfl, P.out⟩
theorem lay_any {w : World} {a : Nat} {L : List En} {e : En} {nw ol : Option Nat} {x0 x3 x4 x5 x6 x7 x8 x9 : Value} (h : Li w a L x0 x3 x4 x5 x6 x7 x8 x9) (q : pl w e nw ol) (hn : e.b ∉ a :: L.map En.b) :
    Calls Try.prog 38 #[.pointer (some ⟨a, 1, none⟩), .pointer (some ⟨e.b, 0, none⟩)] w fun r w' => r = .returned (.tuple #[]) ∧ LyP w a L e x0 x3 x4 x5 x6 x7 x8 x9 w' := by
  cases L with
  | nil => exact lay_0 h q hn
  | cons x L => exact lay_1 h q hn
end Kc
end Go.Proofs.Ytkamjpjmdibfgaa
