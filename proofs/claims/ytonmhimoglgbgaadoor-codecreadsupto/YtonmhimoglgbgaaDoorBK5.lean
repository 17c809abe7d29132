import Derived.Test.YtonmhimoglgbgaaDoorBK4
namespace Go.Proofs.YtonmhimoglgbgaaDoor
open Go.RowKit
theorem step_append_run {P : Program} {ops : Array Oper} {o : Oper} {a : Act} {w : World} {K : Act → World → Prop} {Q : Exit → Act → World → Prop} {E : Prop}
    (hg : o.guard = none) (s x : Operand) (t : TypeId) (hop : o.op = Op.call { callee := Callee.builtin Builtin.append, args := #[s, x], argTypes := #[t, t] })
    (v1 v2 v' : Value) (w' : World) (hs : a.eval s = v1) (hx : a.eval x = v2) (hrun : (Builtin.append_ #[t, t] o.type #[v1, v2]).run P w = .ok v' w') (hK : K (a.put o.dst v') w') :
    if Region.wanted o (yielded ops a.tmps) = true then Oper.wp P o a w K Q else E := by
  have hw : Region.wanted o (yielded ops a.tmps) = true := by simp [Region.wanted, hg]
  rw [if_pos hw]
  unfold Oper.wp
  simp [execOp, hop, resolve, invoke, builtin, hs, hx, hrun, Result.andThen]
  exact hK
/-- append(nil, x...) of a list that is owned -/
theorem append_copyG (t e : TypeId) (z : Value) (by_ : Nat) (hb : by_ ≤ 16) (hu : Tryd.prog.underlying t = some (.slice e)) (hinfo : (Tryd.prog.info? e).map (fun i => (i.zero, i.size, i.bytes)) = some (some z, 1, by_)) (hzs : z.cells.size = 1) (w : World) (b2 : Nat) (x : Value) (L : List Value) (hx : Own w b2 x L) (h1 : ∀ u ∈ L, u.oneCell' = true) (hlen : L.length ≤ 1100000) :
    ∃ v' w', (Builtin.append_ #[t, t] t #[.slice none 0 0, x]).run Tryd.prog w = .ok v' w' ∧ Own w' w.heap.size v' L ∧ Below w.heap.size w w' := by
  obtain ⟨i0, hi, hz0, hz1, hz2⟩ := info_parts hinfo
  have zero : ∀ y : Value, Src Tryd.prog 1 t y 0 [] w → (Builtin.append_ #[t, t] t #[.slice none 0 0, y]).run Tryd.prog w = .ok (.slice none 0 0) w := fun y hs => by
    have hc := hs.cells
    rw [← hz1] at hc
    simp [Builtin.append_, run_underlying hu, sizeOf, typeInfo, hi, hs.len, hc]
  by_cases h0 : L.length = 0
  · obtain rfl : L = [] := List.length_eq_zero_iff.1 h0
    obtain ⟨a, c, rfl⟩ := hx.shape
    have hsrc : Src Tryd.prog 1 t (.slice a 0 c) 0 [] w := by
      cases a with
      | none => exact Src.ofNil w hu c
      | some y => exact Src.ofSlice w hu y 0 c [] (by simp) (fun j u hj => by simp at hj) (fun u hu => by simp at hu)
    exact ⟨_, w, zero _ hsrc, Own.nil _ _, Below.refl _ _⟩
  · have hsrc : Src Tryd.prog 1 t x L.length L w := by
      rcases hx with ⟨rfl, h⟩ | ⟨g, cap, rfl, a1, a2, a3, a4, a5, a6⟩
      · subst h; simp at h0
      · exact Src.ofSlice w hu ⟨g, 0, none⟩ L.length cap L (by rw [Nat.mul_one]) (fun j u hj => by rw [Addr.add_mid]; exact a4 j u hj) h1
    obtain ⟨v', w', h1, h2, h3, h4⟩ := run_append_O (P := Tryd.prog) w w.heap.size t t t e i0 z hu hi hz0 hz1 hzs (.slice none 0 0) [] (Own.nil _ _) x L.length L hsrc
      (by rw [hz2]; exact Nat.le_trans (Nat.mul_le_mul (show ([] : List Value).length + L.length ≤ 1100000 by simp; omega) hb) (by decide)) (by rw [maxLen]; simp; omega) (Nat.le_refl _) (fun _ => by omega)
    exact ⟨v', w', h1, by simpa using h2, Below.ofGrown (v := .slice none 0 0) h3 (fun k hk => by cases hk) (Nat.le_refl _)⟩
theorem Bk.pushed2 {w w' : World} {X : Nat} {ρ ρ' : Rol} {S : BS} {v' : Value} {us : List Value} {Ls : List (List Value)} (h : Bk w X ρ S) (F : Lst w' X ρ' 2 S.o2 v' us Ls) (A : Ad X w ρ w' ρ' 2) : w'.heap[X]? = w.heap[X]? ∧ Bk (w'.setCell ⟨X, 2, none⟩ v') X ρ' { S with v2 := v', u2 := us, L2 := Ls } := by
  have e1 := A.old X _ h.rX (fun e => e)
  have rX := A.ext X _ h.rX
  exact ⟨e1, ⟨heap_setCell_same w' X 2 _ _ v' (e1.trans h.row), rX, (A.lt h.lt).setX _ _, (h.I.ad A (by decide)).setX rX _ _, (h.T.ad A (by decide)).setX rX _ _, F.setX rX _ _, (h.f3.ad A (by decide)).setX rX _ _, (h.f4.ad A (by decide)).setX rX _ _, (h.f5.ad A (by decide)).setX rX _ _⟩⟩
theorem Bk.pushed3 {w w' : World} {X : Nat} {ρ ρ' : Rol} {S : BS} {v' : Value} {us : List Value} {Ls : List (List Value)} (h : Bk w X ρ S) (F : Lst w' X ρ' 3 0 v' us Ls) (A : Ad X w ρ w' ρ' 3) : w'.heap[X]? = w.heap[X]? ∧ Bk (w'.setCell ⟨X, 3, none⟩ v') X ρ' { S with v3 := v', u3 := us, L3 := Ls } := by
  have e1 := A.old X _ h.rX (fun e => e)
  have rX := A.ext X _ h.rX
  exact ⟨e1, ⟨heap_setCell_same w' X 3 _ _ v' (e1.trans h.row), rX, (A.lt h.lt).setX _ _, (h.I.ad A (by decide)).setX rX _ _, (h.T.ad A (by decide)).setX rX _ _, (h.f2.ad A (by decide)).setX rX _ _, F.setX rX _ _, (h.f4.ad A (by decide)).setX rX _ _, (h.f5.ad A (by decide)).setX rX _ _⟩⟩
theorem Bk.pushed4 {w w' : World} {X : Nat} {ρ ρ' : Rol} {S : BS} {v' : Value} {us : List Value} {Ls : List (List Value)} (h : Bk w X ρ S) (F : Lst w' X ρ' 4 S.o4 v' us Ls) (A : Ad X w ρ w' ρ' 4) : w'.heap[X]? = w.heap[X]? ∧ Bk (w'.setCell ⟨X, 4, none⟩ v') X ρ' { S with v4 := v', u4 := us, L4 := Ls } := by
  have e1 := A.old X _ h.rX (fun e => e)
  have rX := A.ext X _ h.rX
  exact ⟨e1, ⟨heap_setCell_same w' X 4 _ _ v' (e1.trans h.row), rX, (A.lt h.lt).setX _ _, (h.I.ad A (by decide)).setX rX _ _, (h.T.ad A (by decide)).setX rX _ _, (h.f2.ad A (by decide)).setX rX _ _, (h.f3.ad A (by decide)).setX rX _ _, F.setX rX _ _, (h.f5.ad A (by decide)).setX rX _ _⟩⟩
theorem Bk.pushed5 {w w' : World} {X : Nat} {ρ ρ' : Rol} {S : BS} {v' : Value} {us : List Value} {Ls : List (List Value)} (h : Bk w X ρ S) (F : Lst w' X ρ' 5 0 v' us Ls) (A : Ad X w ρ w' ρ' 5) : w'.heap[X]? = w.heap[X]? ∧ Bk (w'.setCell ⟨X, 5, none⟩ v') X ρ' { S with v5 := v', u5 := us, L5 := Ls } := by
  have e1 := A.old X _ h.rX (fun e => e)
  have rX := A.ext X _ h.rX
  exact ⟨e1, ⟨heap_setCell_same w' X 5 _ _ v' (e1.trans h.row), rX, (A.lt h.lt).setX _ _, (h.I.ad A (by decide)).setX rX _ _, (h.T.ad A (by decide)).setX rX _ _, (h.f2.ad A (by decide)).setX rX _ _, (h.f3.ad A (by decide)).setX rX _ _, (h.f4.ad A (by decide)).setX rX _ _, F.setX rX _ _⟩⟩

set_option maxRecDepth 100000 in
set_option maxHeartbeats 2000000 in
theorem putI_free (X b2 : Nat) (ρ : Rol) (S : BS) (x : Value) (L : List Value) (w : World) (h : Bk w X ρ S) (hx : Own w b2 x L) (hb2 : X ≤ b2) (hL : L.length ≤ 1100000) (h1 : ∀ u ∈ L, u.oneCell' = true) (hfr : ∀ g, x.ownBlock = some g → ρ g = none) (h0 : S.o2 = 0) (hu : S.u2.length ≤ 1000) (hv : S.u3.length ≤ 1000) :
    Calls Tryd.prog 42 #[.pointer (some ⟨X, 0, none⟩), x, .bool true] w fun r w' => r = .returned (.tuple #[]) ∧ ∃ ρ' v' u' v'' u'', Bk w' X ρ' { S with v2 := v', u2 := u', L2 := S.L2 ++ [L], v3 := v'', u3 := u'', L3 := S.L3 ++ [L] } ∧ Keep (KS ρ x) w w' := by
  have hX := lt_of_heap h.row
  have c2 : w.cell? ⟨X, 2, none⟩ = some S.v2 := by rw [cell_of_row _ _ _ _ _ _ h.row]; rfl
  obtain ⟨xa, xn, xc, rfl⟩ := hx.sl
  obtain ⟨v1, w1, hap1, hO1, hG1⟩ := append_one 41 45 (.slice none 0 0) 24 (by decide) Tryd.underlying41 infoLI rfl w X S.v2 S.u2 (.slice xa xn xc) rfl h.f2.own (by omega) (by omega)
  obtain ⟨ρ1, F1, A1⟩ := h.f2.push h.lt hG1 hO1 hx hb2 hL hfr
  obtain ⟨e1, B1⟩ := h.pushed2 F1 A1
  have r1 := e1.trans h.row
  have d1 : w1.cell? ⟨X, 2, none⟩ = some S.v2 := by rw [cell_of_row _ _ _ _ _ _ r1]; rfl
  have g1 : w1.frozen? ⟨X, 2, none⟩ = false := frozen_of_row _ _ _ _ _ r1
  have W1 : Keep (KS ρ (.slice xa xn xc)) w (w1.setCell ⟨X, 2, none⟩ v1) := (hG1.keepG.mono (fun j _ e => .inl ⟨_, h.f2.rl j e⟩)).setCell X 2 _ (.inl ⟨_, h.rX⟩)
  have hx1 := (B1.f2.each S.u2.length (.slice xa xn xc) L (by show S.o2 ≤ _; omega) (by simp) (by rw [h.f2.len]; simp)).1
  obtain ⟨w2, hw2⟩ : ∃ w2, w1.setCell ⟨X, 2, none⟩ v1 = w2 := ⟨_, rfl⟩
  rw [hw2] at B1 W1 hx1
  have hX2 := lt_of_heap B1.row
  obtain ⟨c, w3, hap3, hO3, hb3'⟩ := append_copyG 45 3 (.int .i64 0) 8 (by decide) Tryd.underlying45 infoI rfl w2.drew X (.slice xa xn xc) L hx1.drew h1 hL
  have hb3 : Below w2.heap.size w2 w3 := (Below.refl w2.heap.size w2).drew.trans hb3'
  have hO3' : Own w3 w2.heap.size c L := hO3
  have B3 := B1.below hb3
  obtain ⟨ca, cn, cc, rfl⟩ := hO3'.sl
  obtain ⟨v4, w4, hap4, hO4, hG4⟩ := append_one 41 45 (.slice none 0 0) 24 (by decide) Tryd.underlying41 infoLI rfl w3 X S.v3 S.u3 (.slice ca cn cc) rfl B3.f3.own (by omega) (by have := hb3.size; omega)
  obtain ⟨ρ4, F4, A4⟩ := B3.f3.push B3.lt hG4 hO4 hO3' (by omega) hL (B1.fresh hO3' (Nat.le_refl _))
  obtain ⟨e4, B4⟩ := B3.pushed3 F4 A4
  have r4 := e4.trans B3.row
  have c4 : w2.cell? ⟨X, 3, none⟩ = some S.v3 := by rw [cell_of_row _ _ _ _ _ _ B1.row]; rfl
  have c5 : w3.cell? ⟨X, 3, none⟩ = some S.v3 := by rw [cell_of_row _ _ _ _ _ _ B3.row]; rfl
  have c6 : (w3.alloc (.cells #[.slice ca cn cc] 45)).cell? ⟨X, 3, none⟩ = some S.v3 := (World.cell?_of_block (w := w3) (Below.heap_alloc w3 _ X (lt_of_heap B3.row))).trans c5
  have d4 : w4.cell? ⟨X, 3, none⟩ = some S.v3 := by rw [cell_of_row _ _ _ _ _ _ r4]; rfl
  have g4 : w4.frozen? ⟨X, 3, none⟩ = false := frozen_of_row _ _ _ _ _ r4
  have hv3 : ∀ j, S.v3.ownBlock = some j → ∃ r, ρ j = some r := fun j e => ⟨_, h.f3.rl j e⟩
  have W4 : Keep (KS ρ (.slice xa xn xc)) w (w4.setCell ⟨X, 3, none⟩ v4) := (((W1.trans (Keep.ofBelow (S := fun _ => False) hb3) (fun _ _ e => e.elim)).trans hG4.keepG (fun j _ e => .inl (hv3 j e))).setCell X 3 _ (.inl ⟨_, h.rX⟩))
  obtain ⟨a2, n2, k2, h2⟩ := h.f2.own.sl
  obtain ⟨a2', n2', k2', h2'⟩ := hO1.sl
  obtain ⟨a3, n3, k3, h3⟩ := B3.f3.own.sl
  obtain ⟨a3', n3', k3', h3'⟩ := hO4.sl
  subst h2' h3'
  have res : Hid (∃ ρ' v' u' v'' u'', Bk (w4.setCell ⟨X, 3, none⟩ (.slice a3' n3' k3')) X ρ' { S with v2 := v', u2 := u', L2 := S.L2 ++ [L], v3 := v'', u3 := u'', L3 := S.L3 ++ [L] } ∧ Keep (KS ρ (.slice xa xn xc)) w (w4.setCell ⟨X, 3, none⟩ (.slice a3' n3' k3'))) := ⟨ρ4, _, _, _, _, B4, W4⟩
  replace h3 : S.v3 = .slice a3 n3 k3 := h3
  rw [h2] at c2 d1 hap1
  rw [h3] at c4 c5 c6 d4 hap4
  clear hv3 B1 B3 B4 F1 A1 F4 A4 e1 e4 r1 r4 W1 W4 hO1 hG1 hO3 hO3' hO4 hG4 hb3 hb3' hx1 hx h hfr
  go_enter Tryd.func42, Tryd.ntmps42
  go_wp2_with (at_builtin; go_must (refine Lib.wpList_append_run _ rfl _ _ 41 41 rfl _ _ rfl rfl _ _ hap1 ?_))
  try rw [hw2]
  go_region_law (first
    | (refine step_append_run rfl _ _ 45 rfl (.slice none 0 0) (.slice xa xn xc) _ w3 rfl rfl hap3 ?_)
    | (refine step_append_run rfl _ _ 41 rfl _ _ _ w4 rfl rfl hap4 ?_))
  all_goals
    go_wp2
    go_end0
    exact ⟨rfl, res.out⟩
set_option maxRecDepth 100000 in
theorem putI_take (X b2 i : Nat) (ρ : Rol) (S : BS) (x : Value) (L : List Value) (w : World) (h : Bk w X ρ S) (hx : Own w b2 x L) (hb2 : X ≤ b2) (hL : L.length ≤ 1100000) (hfr : ∀ g, x.ownBlock = some g → ρ g = none) (hG : S.GI.length = 6 * i) (hi : i ≤ 250) :
    Calls Tryd.prog 42 #[.pointer (some ⟨X, 0, none⟩), x, .bool false] w fun r w' => r = .returned (.tuple #[]) ∧ ∃ ρ' v' G', Bk w' X ρ' { S with vI := v', GI := G' } ∧ G'.length = 6 * (i + 1) ∧ Keep (KS ρ x) w w' := by
  have hc := takeI_any X b2 i ρ S x L w h hx hb2 hL hfr hG hi
  obtain ⟨xa, xn, xc, rfl⟩ := hx.sl
  clear h hx hfr
  go_enter Tryd.func42, Tryd.ntmps42
  go_wp2_with (go_at_call 85; fail)
  refine hc.mono ?_
  rintro r w2 ⟨rfl, h2⟩
  have H2 := hid h2
  clear h2 hc
  go_wp2
  (try simp only [Exit.inBlock, Exit.then])
  refine bodyPost_ret (results_none rfl _ _ _) rfl ?_
  exact ⟨rfl, H2.out⟩

set_option maxRecDepth 100000 in
set_option maxHeartbeats 2000000 in
theorem putT_free (X b2 : Nat) (ρ : Rol) (S : BS) (x : Value) (L : List Value) (w : World) (h : Bk w X ρ S) (hx : Own w b2 x L) (hb2 : X ≤ b2) (hL : L.length ≤ 1100000) (h1 : ∀ u ∈ L, u.oneCell' = true) (hfr : ∀ g, x.ownBlock = some g → ρ g = none) (h0 : S.o4 = 0) (hu : S.u4.length ≤ 1000) (hv : S.u5.length ≤ 1000) :
    Calls Tryd.prog 45 #[.pointer (some ⟨X, 0, none⟩), x, .bool true] w fun r w' => r = .returned (.tuple #[]) ∧ ∃ ρ' v' u' v'' u'', Bk w' X ρ' { S with v4 := v', u4 := u', L4 := S.L4 ++ [L], v5 := v'', u5 := u'', L5 := S.L5 ++ [L] } ∧ Keep (KS ρ x) w w' := by
  have hX := lt_of_heap h.row
  have c2 : w.cell? ⟨X, 4, none⟩ = some S.v4 := by rw [cell_of_row _ _ _ _ _ _ h.row]; rfl
  obtain ⟨xa, xn, xc, rfl⟩ := hx.sl
  obtain ⟨v1, w1, hap1, hO1, hG1⟩ := append_one 42 46 (.slice none 0 0) 24 (by decide) Tryd.underlying42 infoLS rfl w X S.v4 S.u4 (.slice xa xn xc) rfl h.f4.own (by omega) (by omega)
  obtain ⟨ρ1, F1, A1⟩ := h.f4.push h.lt hG1 hO1 hx hb2 hL hfr
  obtain ⟨e1, B1⟩ := h.pushed4 F1 A1
  have r1 := e1.trans h.row
  have d1 : w1.cell? ⟨X, 4, none⟩ = some S.v4 := by rw [cell_of_row _ _ _ _ _ _ r1]; rfl
  have g1 : w1.frozen? ⟨X, 4, none⟩ = false := frozen_of_row _ _ _ _ _ r1
  have W1 : Keep (KS ρ (.slice xa xn xc)) w (w1.setCell ⟨X, 4, none⟩ v1) := (hG1.keepG.mono (fun j _ e => .inl ⟨_, h.f4.rl j e⟩)).setCell X 4 _ (.inl ⟨_, h.rX⟩)
  have hx1 := (B1.f4.each S.u4.length (.slice xa xn xc) L (by show S.o4 ≤ _; omega) (by simp) (by rw [h.f4.len]; simp)).1
  obtain ⟨w2, hw2⟩ : ∃ w2, w1.setCell ⟨X, 4, none⟩ v1 = w2 := ⟨_, rfl⟩
  rw [hw2] at B1 W1 hx1
  have hX2 := lt_of_heap B1.row
  obtain ⟨c, w3, hap3, hO3, hb3'⟩ := append_copyG 46 9 (.string ⟨#[]⟩) 16 (by decide) Tryd.underlying46 infoS rfl w2.drew X (.slice xa xn xc) L hx1.drew h1 hL
  have hb3 : Below w2.heap.size w2 w3 := (Below.refl w2.heap.size w2).drew.trans hb3'
  have hO3' : Own w3 w2.heap.size c L := hO3
  have B3 := B1.below hb3
  obtain ⟨ca, cn, cc, rfl⟩ := hO3'.sl
  obtain ⟨v4, w4, hap4, hO4, hG4⟩ := append_one 42 46 (.slice none 0 0) 24 (by decide) Tryd.underlying42 infoLS rfl w3 X S.v5 S.u5 (.slice ca cn cc) rfl B3.f5.own (by omega) (by have := hb3.size; omega)
  obtain ⟨ρ4, F4, A4⟩ := B3.f5.push B3.lt hG4 hO4 hO3' (by omega) hL (B1.fresh hO3' (Nat.le_refl _))
  obtain ⟨e4, B4⟩ := B3.pushed5 F4 A4
  have r4 := e4.trans B3.row
  have c4 : w2.cell? ⟨X, 5, none⟩ = some S.v5 := by rw [cell_of_row _ _ _ _ _ _ B1.row]; rfl
  have c5 : w3.cell? ⟨X, 5, none⟩ = some S.v5 := by rw [cell_of_row _ _ _ _ _ _ B3.row]; rfl
  have c6 : (w3.alloc (.cells #[.slice ca cn cc] 46)).cell? ⟨X, 5, none⟩ = some S.v5 := (World.cell?_of_block (w := w3) (Below.heap_alloc w3 _ X (lt_of_heap B3.row))).trans c5
  have d4 : w4.cell? ⟨X, 5, none⟩ = some S.v5 := by rw [cell_of_row _ _ _ _ _ _ r4]; rfl
  have g4 : w4.frozen? ⟨X, 5, none⟩ = false := frozen_of_row _ _ _ _ _ r4
  have hv3 : ∀ j, S.v5.ownBlock = some j → ∃ r, ρ j = some r := fun j e => ⟨_, h.f5.rl j e⟩
  have W4 : Keep (KS ρ (.slice xa xn xc)) w (w4.setCell ⟨X, 5, none⟩ v4) := (((W1.trans (Keep.ofBelow (S := fun _ => False) hb3) (fun _ _ e => e.elim)).trans hG4.keepG (fun j _ e => .inl (hv3 j e))).setCell X 5 _ (.inl ⟨_, h.rX⟩))
  obtain ⟨a2, n2, k2, h2⟩ := h.f4.own.sl
  obtain ⟨a2', n2', k2', h2'⟩ := hO1.sl
  obtain ⟨a3, n3, k3, h3⟩ := B3.f5.own.sl
  obtain ⟨a3', n3', k3', h3'⟩ := hO4.sl
  subst h2' h3'
  have res : Hid (∃ ρ' v' u' v'' u'', Bk (w4.setCell ⟨X, 5, none⟩ (.slice a3' n3' k3')) X ρ' { S with v4 := v', u4 := u', L4 := S.L4 ++ [L], v5 := v'', u5 := u'', L5 := S.L5 ++ [L] } ∧ Keep (KS ρ (.slice xa xn xc)) w (w4.setCell ⟨X, 5, none⟩ (.slice a3' n3' k3'))) := ⟨ρ4, _, _, _, _, B4, W4⟩
  replace h3 : S.v5 = .slice a3 n3 k3 := h3
  rw [h2] at c2 d1 hap1
  rw [h3] at c4 c5 c6 d4 hap4
  clear hv3 B1 B3 B4 F1 A1 F4 A4 e1 e4 r1 r4 W1 W4 hO1 hG1 hO3 hO3' hO4 hG4 hb3 hb3' hx1 hx h hfr
  go_enter Tryd.func45, Tryd.ntmps45
  go_wp2_with (at_builtin; go_must (refine Lib.wpList_append_run _ rfl _ _ 42 42 rfl _ _ rfl rfl _ _ hap1 ?_))
  try rw [hw2]
  go_region_law (first
    | (refine step_append_run rfl _ _ 46 rfl (.slice none 0 0) (.slice xa xn xc) _ w3 rfl rfl hap3 ?_)
    | (refine step_append_run rfl _ _ 42 rfl _ _ _ w4 rfl rfl hap4 ?_))
  all_goals
    go_wp2
    go_end0
    exact ⟨rfl, res.out⟩
set_option maxRecDepth 100000 in
theorem putT_take (X b2 i : Nat) (ρ : Rol) (S : BS) (x : Value) (L : List Value) (w : World) (h : Bk w X ρ S) (hx : Own w b2 x L) (hb2 : X ≤ b2) (hL : L.length ≤ 1100000) (hfr : ∀ g, x.ownBlock = some g → ρ g = none) (hG : S.GT.length = 6 * i) (hi : i ≤ 250) :
    Calls Tryd.prog 45 #[.pointer (some ⟨X, 0, none⟩), x, .bool false] w fun r w' => r = .returned (.tuple #[]) ∧ ∃ ρ' v' G', Bk w' X ρ' { S with vT := v', GT := G' } ∧ G'.length = 6 * (i + 1) ∧ Keep (KS ρ x) w w' := by
  have hc := takeT_any X b2 i ρ S x L w h hx hb2 hL hfr hG hi
  obtain ⟨xa, xn, xc, rfl⟩ := hx.sl
  clear h hx hfr
  go_enter Tryd.func45, Tryd.ntmps45
  go_wp2_with (go_at_call 87; fail)
  refine hc.mono ?_
  rintro r w2 ⟨rfl, h2⟩
  have H2 := hid h2
  clear h2 hc
  go_wp2
  (try simp only [Exit.inBlock, Exit.then])
  refine bodyPost_ret (results_none rfl _ _ _) rfl ?_
  exact ⟨rfl, H2.out⟩
end Go.Proofs.YtonmhimoglgbgaaDoor
