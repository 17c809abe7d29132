import Derived.Test.YteilkpihddfpeaaGreatDoorPkMV7
import Derived.Test.YteilkpihddfpeaaGreatDoorPkMWA1
namespace Go.Proofs.YteilkpihddfpeaaGreatDoor
open Go.RowKit Cod
namespace Msg

set_option maxRecDepth 100000 in
set_option maxHeartbeats 800000 in
theorem sameInts_yes (l : List Int) (ua ub : Value) (w : World) (ha : SlcI w ua l) (hb : SlcI w ub l) (hll : l.length ≤ maxLen) :
    Calls Tryz.prog 29 #[ua, ub] w fun e w' => e = .returned (.bool true) ∧ Below w.heap.size w w' := by
  obtain ⟨a, ca, rfl, ha⟩ := ha
  obtain ⟨d, cd, rfl, hd⟩ := hb
  unfold maxLen at hll
  have Ha := hid ha
  have Hd := hid hd
  clear ha hd
  go_enter Tryz.func29, Tryz.ntmps29
  go_wp2
  go_loopw [5] (fun i w' => ∃ k : Nat, k ≤ l.length ∧ i = .int .i64 k ∧ Hid (Below w.heap.size w w')) (fun i _ => l.length - (intOf i).toNat)
  case atStart => exact ⟨0, by omega, rfl, hid (Below.refl _ _)⟩
  case round =>
    obtain ⟨k, hk, rfl, hw'⟩ := hrel
    by_cases hlt : k < l.length
    · have b0 : (k : Int) < (l.length : Int) := by omega
      obtain ⟨x, rfl, xb, hx⟩ := Ha.out k l[k] (List.getElem?_eq_getElem hlt)
      rw [← hw'.out.cell (p := x.add k) (by rw [add_block]; exact xb)] at hx
      clear xb
      obtain ⟨y, rfl, yb, hy⟩ := Hd.out k l[k] (List.getElem?_eq_getElem hlt)
      rw [← hw'.out.cell (p := y.add k) (by rw [add_block]; exact yb)] at hy
      clear yb
      generalize l[k] = p at *
      have y1 : (p == p) = true := by simp
      have y2 : (p != p) = false := by simp
      go_wp2
      go_quiet (fail)
      go_wp2
      exact ⟨⟨k + 1, by omega, by go_num, hid (below_drewN17 hw'.out _)⟩, by simp [intOf]; omega⟩
    · have b0 : ¬ (k : Int) < (l.length : Int) := by omega
      go_wp2
      go_ret
      exact ⟨rfl, hw'.out⟩
/-- two requests without requests in them -/
abbrev aqO (x : Ask) (ul ue ua : Value) : Array Value := #[.int .i64 x.kind, .int .i64 x.a, .int .i64 x.b, .int .i64 x.size, ul, ue, ua]
set_option maxRecDepth 100000 in
set_option maxHeartbeats 2000000 in
theorem sameRequest_flat {w : World} {x : Ask} {uh ue uh' ue' : Value} {p3 p4 : Option Addr} {q3 q4 : Nat} (hn : x.n = 0) (a1 : SlcI w uh x.list) (a2 : Slc w ue x.ent) (b1 : SlcI w uh' x.list) (b2 : Slc w ue' x.ent) (hl1 : x.list.length ≤ maxLen) (hl2 : x.ent.length ≤ maxLen) :
    Calls Tryz.prog 14 #[.agg (aqO x uh ue (.slice p3 x.n q3)), .agg (aqO x uh' ue' (.slice p4 x.n q4))] w fun e w' => e = .returned (.bool true) ∧ Below w.heap.size w w' := by
  rw [hn]
  have bA := ((Below.refl w.heap.size w).alloc (Nat.le_refl _) (.cells (aqO x uh ue (.slice p3 0 q3)) 40)).alloc (by rw [size_alloc]; omega) (.cells (aqO x uh' ue' (.slice p4 0 q4)) 40)
  have i1 := sameInts_yes x.list uh uh' _ (SlcI.bl17 a1 bA) (SlcI.bl17 b1 bA) hl1
  have A2 := hid (a2.below bA (Nat.le_refl _))
  have B2 := hid (b2.below bA (Nat.le_refl _))
  have r1 : ((w.alloc (.cells (aqO x uh ue (.slice p3 0 q3)) 40)).alloc (.cells (aqO x uh' ue' (.slice p4 0 q4)) 40)).heap[w.heap.size]? = some (.cells (aqO x uh ue (.slice p3 0 q3)) 40 (0, 0)) := (((Below.refl _ _).alloc (Nat.le_refl _) _).block _ (by rw [size_alloc]; omega)).trans (heap_alloc_new _ _)
  have r2 : ((w.alloc (.cells (aqO x uh ue (.slice p3 0 q3)) 40)).alloc (.cells (aqO x uh' ue' (.slice p4 0 q4)) 40)).heap[w.heap.size + 1]? = some (.cells (aqO x uh' ue' (.slice p4 0 q4)) 40 (0, 0)) := heap_alloc_at _ _ _ (size_alloc _ _)
  have zz : ((w.alloc (.cells (aqO x uh ue (.slice p3 0 q3)) 40)).alloc (.cells (aqO x uh' ue' (.slice p4 0 q4)) 40)).heap.size = w.heap.size + 1 + 1 := by rw [size_alloc, size_alloc]
  have BA := hid bA
  obtain ⟨p5, q5, rfl, _⟩ := a1
  obtain ⟨p6, q6, rfl, _⟩ := a2
  obtain ⟨p7, q7, rfl, _⟩ := b1
  obtain ⟨p8, q8, rfl, _⟩ := b2
  clear bA
  go_enter Tryz.func14, Tryz.ntmps14
  go_wp2_with (go_at_call 29; fail)
  go_at_call 29
  refine i1.mono ?_
  rintro e w1 ⟨rfl, h1⟩
  have R1 := (h1.block _ (by omega)).trans r1
  have R2 := (h1.block _ (by omega)).trans r2
  have BB1 := hid (BA.out.trans (h1.mono (by omega)))
  have i2 := sameTexts_yes x.ent _ _ w1 (A2.out.below h1 (Nat.le_refl _)) (B2.out.below h1 (Nat.le_refl _)) hl2
  have c6 : w1.cell? ⟨w.heap.size, 5, none⟩ = some (.slice p6 x.ent.length q6) := by rw [cell_of_row _ _ _ _ _ _ R1]; rfl
  have d6 : w1.cell? ⟨w.heap.size + 1, 5, none⟩ = some (.slice p8 x.ent.length q8) := by rw [cell_of_row _ _ _ _ _ _ R2]; rfl
  have hs1 := h1.size
  clear h1 i1 r1 r2
  go_wp2_with (go_at_call 23; fail)
  go_at_call 23
  refine i2.mono ?_
  rintro e w2 ⟨rfl, h2⟩
  have S1 := (h2.block _ (by omega)).trans R1
  have S2 := (h2.block _ (by omega)).trans R2
  have BB2 := hid (BB1.out.trans (h2.mono (by omega)))
  have e0 : w2.cell? ⟨w.heap.size, 0, none⟩ = some (.int .i64 x.kind) := by rw [cell_of_row _ _ _ _ _ _ S1]; rfl
  have e1 : w2.cell? ⟨w.heap.size, 1, none⟩ = some (.int .i64 x.a) := by rw [cell_of_row _ _ _ _ _ _ S1]; rfl
  have e2 : w2.cell? ⟨w.heap.size, 2, none⟩ = some (.int .i64 x.b) := by rw [cell_of_row _ _ _ _ _ _ S1]; rfl
  have e3 : w2.cell? ⟨w.heap.size, 3, none⟩ = some (.int .i64 x.size) := by rw [cell_of_row _ _ _ _ _ _ S1]; rfl
  have e7 : w2.cell? ⟨w.heap.size, 6, none⟩ = some (.slice p3 0 q3) := by rw [cell_of_row _ _ _ _ _ _ S1]; rfl
  have f0 : w2.cell? ⟨w.heap.size + 1, 0, none⟩ = some (.int .i64 x.kind) := by rw [cell_of_row _ _ _ _ _ _ S2]; rfl
  have f1 : w2.cell? ⟨w.heap.size + 1, 1, none⟩ = some (.int .i64 x.a) := by rw [cell_of_row _ _ _ _ _ _ S2]; rfl
  have f2 : w2.cell? ⟨w.heap.size + 1, 2, none⟩ = some (.int .i64 x.b) := by rw [cell_of_row _ _ _ _ _ _ S2]; rfl
  have f3 : w2.cell? ⟨w.heap.size + 1, 3, none⟩ = some (.int .i64 x.size) := by rw [cell_of_row _ _ _ _ _ _ S2]; rfl
  have f7 : w2.cell? ⟨w.heap.size + 1, 6, none⟩ = some (.slice p4 0 q4) := by rw [cell_of_row _ _ _ _ _ _ S2]; rfl
  have n0 : (x.kind != x.kind) = false := by simp
  have n1 : (x.size != x.size) = false := by simp
  have n2 : (x.a != x.a) = false := by simp
  have n3 : (x.b != x.b) = false := by simp
  clear h2 i2 R1 R2 S1 S2 c6 d6
  generalize x.kind = xs at *
  generalize x.size = xz at *
  generalize x.a = xa at *
  generalize x.b = xb at *
  go_wp2
  go_loopw [7] (fun i w' => i = .int .i64 0 ∧ w' = w2) (fun _ _ => 0)
  case atStart => exact ⟨rfl, rfl⟩
  case round =>
    obtain ⟨rfl, rfl⟩ := hrel
    go_wp2
    go_ret
    exact ⟨rfl, BB2.out⟩
end Msg
end Go.Proofs.YteilkpihddfpeaaGreatDoor

namespace Go.Proofs.YteilkpihddfpeaaGreatDoor
open Go.RowKit Cod
namespace Msg

theorem As.aq {w : World} {lo hi : Nat} {u : Value} {l : List Ask} (h : As w lo hi u l) : Aq w hi u l := by
  rcases h with ⟨rfl, rfl⟩ | ⟨g, cap, rfl, h1, h2, h3, h4⟩
  · exact ⟨none, 0, rfl, fun j x hx => by simp at hx⟩
  · refine ⟨_, cap, rfl, fun j x hx => ?_⟩
    obtain ⟨ul, ue, ua, c0, c1, c2, c3, c4, c5, c6, n1, n2, s1, s2, s3⟩ := h4 j x hx
    refine ⟨_, rfl, h2, ul, ue, ua, ?_⟩
    simp only [add_at, Nat.zero_add]
    exact ⟨c0, c1, c2, c3, c4, c5, c6, n1.lw, n2.lw, s1, s2, s3⟩
set_option maxRecDepth 100000 in
set_option maxHeartbeats 2000000 in
theorem sameRequest_yes {w : World} {hi : Nat} {x : Ask} {l : List Ask} {uh ue uh' ue' : Value} {p3 p4 : Option Addr} {q3 q4 : Nat} (hn : x.n = l.length) (a3 : Aq w hi (.slice p3 x.n q3) l) (b3 : Aq w hi (.slice p4 x.n q4) l) (hhi : hi ≤ w.heap.size) (hl : ∀ y ∈ l, y.n = 0 ∧ y.list.length ≤ maxLen ∧ y.ent.length ≤ maxLen) (hl3 : l.length ≤ maxLen) (a1 : SlcI w uh x.list) (a2 : Slc w ue x.ent) (b1 : SlcI w uh' x.list) (b2 : Slc w ue' x.ent) (hl1 : x.list.length ≤ maxLen) (hl2 : x.ent.length ≤ maxLen) :
    Calls Tryz.prog 14 #[.agg (aqO x uh ue (.slice p3 x.n q3)), .agg (aqO x uh' ue' (.slice p4 x.n q4))] w fun e w' => e = .returned (.bool true) ∧ Below w.heap.size w w' := by
  rw [hn] at a3 b3 ⊢
  unfold maxLen at hl3
  have bA := ((Below.refl w.heap.size w).alloc (Nat.le_refl _) (.cells (aqO x uh ue (.slice p3 l.length q3)) 40)).alloc (by rw [size_alloc]; omega) (.cells (aqO x uh' ue' (.slice p4 l.length q4)) 40)
  have i1 := sameInts_yes x.list uh uh' _ (SlcI.bl17 a1 bA) (SlcI.bl17 b1 bA) hl1
  have A2 := hid (a2.below bA (Nat.le_refl _))
  have B2 := hid (b2.below bA (Nat.le_refl _))
  have r1 : ((w.alloc (.cells (aqO x uh ue (.slice p3 l.length q3)) 40)).alloc (.cells (aqO x uh' ue' (.slice p4 l.length q4)) 40)).heap[w.heap.size]? = some (.cells (aqO x uh ue (.slice p3 l.length q3)) 40 (0, 0)) := (((Below.refl _ _).alloc (Nat.le_refl _) _).block _ (by rw [size_alloc]; omega)).trans (heap_alloc_new _ _)
  have r2 : ((w.alloc (.cells (aqO x uh ue (.slice p3 l.length q3)) 40)).alloc (.cells (aqO x uh' ue' (.slice p4 l.length q4)) 40)).heap[w.heap.size + 1]? = some (.cells (aqO x uh' ue' (.slice p4 l.length q4)) 40 (0, 0)) := heap_alloc_at _ _ _ (size_alloc _ _)
  have zz : ((w.alloc (.cells (aqO x uh ue (.slice p3 l.length q3)) 40)).alloc (.cells (aqO x uh' ue' (.slice p4 l.length q4)) 40)).heap.size = w.heap.size + 1 + 1 := by rw [size_alloc, size_alloc]
  have BA := hid bA
  have A3 := hid a3
  have B3 := hid b3
  have HL := hid hl
  obtain ⟨p5, q5, rfl, _⟩ := a1
  obtain ⟨p6, q6, rfl, _⟩ := a2
  obtain ⟨p7, q7, rfl, _⟩ := b1
  obtain ⟨p8, q8, rfl, _⟩ := b2
  clear bA a3 b3 hl
  go_enter Tryz.func14, Tryz.ntmps14
  go_wp2_with (go_at_call 29; fail)
  go_at_call 29
  refine i1.mono ?_
  rintro e w1 ⟨rfl, h1⟩
  have R1 := (h1.block _ (by omega)).trans r1
  have R2 := (h1.block _ (by omega)).trans r2
  have BB1 := hid (BA.out.trans (h1.mono (by omega)))
  have i2 := sameTexts_yes x.ent _ _ w1 (A2.out.below h1 (Nat.le_refl _)) (B2.out.below h1 (Nat.le_refl _)) hl2
  have c6 : w1.cell? ⟨w.heap.size, 5, none⟩ = some (.slice p6 x.ent.length q6) := by rw [cell_of_row _ _ _ _ _ _ R1]; rfl
  have d6 : w1.cell? ⟨w.heap.size + 1, 5, none⟩ = some (.slice p8 x.ent.length q8) := by rw [cell_of_row _ _ _ _ _ _ R2]; rfl
  have hs1 := h1.size
  clear h1 i1 r1 r2
  go_wp2_with (go_at_call 23; fail)
  go_at_call 23
  refine i2.mono ?_
  rintro e w2 ⟨rfl, h2⟩
  have S1 := (h2.block _ (by omega)).trans R1
  have S2 := (h2.block _ (by omega)).trans R2
  have BB2 := hid (BB1.out.trans (h2.mono (by omega)))
  have e0 : w2.cell? ⟨w.heap.size, 0, none⟩ = some (.int .i64 x.kind) := by rw [cell_of_row _ _ _ _ _ _ S1]; rfl
  have e1 : w2.cell? ⟨w.heap.size, 1, none⟩ = some (.int .i64 x.a) := by rw [cell_of_row _ _ _ _ _ _ S1]; rfl
  have e2 : w2.cell? ⟨w.heap.size, 2, none⟩ = some (.int .i64 x.b) := by rw [cell_of_row _ _ _ _ _ _ S1]; rfl
  have e3 : w2.cell? ⟨w.heap.size, 3, none⟩ = some (.int .i64 x.size) := by rw [cell_of_row _ _ _ _ _ _ S1]; rfl
  have e7 : w2.cell? ⟨w.heap.size, 6, none⟩ = some (.slice p3 l.length q3) := by rw [cell_of_row _ _ _ _ _ _ S1]; rfl
  have f0 : w2.cell? ⟨w.heap.size + 1, 0, none⟩ = some (.int .i64 x.kind) := by rw [cell_of_row _ _ _ _ _ _ S2]; rfl
  have f1 : w2.cell? ⟨w.heap.size + 1, 1, none⟩ = some (.int .i64 x.a) := by rw [cell_of_row _ _ _ _ _ _ S2]; rfl
  have f2 : w2.cell? ⟨w.heap.size + 1, 2, none⟩ = some (.int .i64 x.b) := by rw [cell_of_row _ _ _ _ _ _ S2]; rfl
  have f3 : w2.cell? ⟨w.heap.size + 1, 3, none⟩ = some (.int .i64 x.size) := by rw [cell_of_row _ _ _ _ _ _ S2]; rfl
  have f7 : w2.cell? ⟨w.heap.size + 1, 6, none⟩ = some (.slice p4 l.length q4) := by rw [cell_of_row _ _ _ _ _ _ S2]; rfl
  have n0 : (x.kind != x.kind) = false := by simp
  have n1 : (x.size != x.size) = false := by simp
  have n2 : (x.a != x.a) = false := by simp
  have n3 : (x.b != x.b) = false := by simp
  have SS1 := hid S1
  have SS2 := hid S2
  have n4 : (((l.length : Nat) : Int) != ((l.length : Nat) : Int)) = false := by simp
  have hz2 : w.heap.size + 1 < w2.heap.size := by have := h2.size; omega
  clear h2 i2 R1 R2 S1 S2 c6 d6
  go_wp2
  clear e0 e1 e2 e3 e7 f0 f1 f2 f3 f7
  go_loopw [7] (fun i w' => ∃ k : Nat, k ≤ l.length ∧ i = .int .i64 k ∧ Hid (Below w2.heap.size w2 w')) (fun i _ => l.length - (intOf i).toNat)
  case atStart => exact ⟨0, by omega, rfl, hid (Below.refl _ _)⟩
  case round =>
    obtain ⟨k, hk, rfl, hB⟩ := hrel
    have e7 : wr.cell? ⟨w.heap.size, 6, none⟩ = some (.slice p3 l.length q3) := by rw [cell_of_row _ _ _ _ _ _ ((hB.out.block _ (by omega)).trans SS1.out)]; rfl
    have f7 : wr.cell? ⟨w.heap.size + 1, 6, none⟩ = some (.slice p4 l.length q4) := by rw [cell_of_row _ _ _ _ _ _ ((hB.out.block _ (by omega)).trans SS2.out)]; rfl
    by_cases hlt : k < l.length
    · have b0 : (k : Int) < (l.length : Int) := by omega
      have bW : Below hi w wr := (BB2.out.mono hhi).trans (hB.out.mono (by omega))
      obtain ⟨pa, ca, he, a4⟩ := A3.out.bl bW
      injection he with he1 he2 he3
      obtain ⟨y, ey, hy, vh, ve, vp, c0, c1, c2, c3, c4, c5, c6, m1, m2, r1, r2, r3⟩ := a4 k l[k] (List.getElem?_eq_getElem hlt)
      rw [← he1] at ey
      clear he1 he2 he3 a4
      obtain ⟨pa', ca', he, a4⟩ := B3.out.bl bW
      injection he with he1 he2 he3
      obtain ⟨z, ez, hz, xh, xe, xp, d0, d1, d2, d3, d4, d5, d6, m3, m4, r4, r5, r6⟩ := a4 k l[k] (List.getElem?_eq_getElem hlt)
      rw [← he1] at ez
      clear he1 he2 he3 a4
      subst ey ez
      rw [← Go.Deep.add_add] at c1 c2 c3 c4 c5 c6 d1 d2 d3 d4 d5 d6
      obtain ⟨g1, g2, g3⟩ := HL.out l[k] (List.getElem_mem hlt)
      obtain ⟨p1, q1, rfl⟩ := r3
      obtain ⟨p2, q2, rfl⟩ := r6
      have i3 := sameRequest_flat (w := wr.drew) (p3 := p1) (q3 := q1) (p4 := p2) (q4 := q2) g1 (SlcI.drew r1) (Slc.drew r2) (SlcI.drew r4) (Slc.drew r5) g2 g3
      clear g1 g2 g3
      obtain ⟨pp1, qq1, rfl, _⟩ := r1
      obtain ⟨pp2, qq2, rfl, _⟩ := r2
      obtain ⟨pp3, qq3, rfl, _⟩ := r4
      obtain ⟨pp4, qq4, rfl, _⟩ := r5
      generalize l[k] = t at *
      have S0 : wr.cell? ⟨w.heap.size, 6, none⟩ = some (.slice (some y) l.length q3) ∧ wr.cell? ⟨w.heap.size + 1, 6, none⟩ = some (.slice (some z) l.length q4) ∧ wr.cell? (y.add (k * 7)) = some (.int .i64 t.kind) ∧ wr.cell? ⟨(y.add (k * 7)).block, (y.add (k * 7)).off + 1, none⟩ = some (.int .i64 t.a) ∧ wr.cell? ⟨(y.add (k * 7)).block, (y.add (k * 7)).off + 2, none⟩ = some (.int .i64 t.b) ∧ wr.cell? ⟨(y.add (k * 7)).block, (y.add (k * 7)).off + 3, none⟩ = some (.int .i64 t.size) ∧ wr.cell? ⟨(y.add (k * 7)).block, (y.add (k * 7)).off + 4, none⟩ = some (.slice pp1 t.list.length qq1) ∧ wr.cell? ⟨(y.add (k * 7)).block, (y.add (k * 7)).off + 5, none⟩ = some (.slice pp2 t.ent.length qq2) ∧ wr.cell? ⟨(y.add (k * 7)).block, (y.add (k * 7)).off + 6, none⟩ = some (.slice p1 t.n q1) ∧ wr.cell? (z.add (k * 7)) = some (.int .i64 t.kind) ∧ wr.cell? ⟨(z.add (k * 7)).block, (z.add (k * 7)).off + 1, none⟩ = some (.int .i64 t.a) ∧ wr.cell? ⟨(z.add (k * 7)).block, (z.add (k * 7)).off + 2, none⟩ = some (.int .i64 t.b) ∧ wr.cell? ⟨(z.add (k * 7)).block, (z.add (k * 7)).off + 3, none⟩ = some (.int .i64 t.size) ∧ wr.cell? ⟨(z.add (k * 7)).block, (z.add (k * 7)).off + 4, none⟩ = some (.slice pp3 t.list.length qq3) ∧ wr.cell? ⟨(z.add (k * 7)).block, (z.add (k * 7)).off + 5, none⟩ = some (.slice pp4 t.ent.length qq4) ∧ wr.cell? ⟨(z.add (k * 7)).block, (z.add (k * 7)).off + 6, none⟩ = some (.slice p2 t.n q2) := ⟨e7, f7, c0, c1, c2, c3, c4, c5, c6, d0, d1, d2, d3, d4, d5, d6⟩
      have hyb : (y.add (k * 7)).block < wr.heap.size := by rw [add_block]; have := hB.out.size; omega
      have hzb : (z.add (k * 7)).block < wr.heap.size := by rw [add_block]; have := hB.out.size; omega
      have hA1 : w.heap.size < wr.heap.size := by have := hB.out.size; omega
      have hA2 : w.heap.size + 1 < wr.heap.size := by have := hB.out.size; omega
      have SA : Hid (∀ w', Below wr.heap.size wr w' → w'.cell? ⟨w.heap.size, 6, none⟩ = some (.slice (some y) l.length q3) ∧ w'.cell? ⟨w.heap.size + 1, 6, none⟩ = some (.slice (some z) l.length q4) ∧ w'.cell? (y.add (k * 7)) = some (.int .i64 t.kind) ∧ w'.cell? ⟨(y.add (k * 7)).block, (y.add (k * 7)).off + 1, none⟩ = some (.int .i64 t.a) ∧ w'.cell? ⟨(y.add (k * 7)).block, (y.add (k * 7)).off + 2, none⟩ = some (.int .i64 t.b) ∧ w'.cell? ⟨(y.add (k * 7)).block, (y.add (k * 7)).off + 3, none⟩ = some (.int .i64 t.size) ∧ w'.cell? ⟨(y.add (k * 7)).block, (y.add (k * 7)).off + 4, none⟩ = some (.slice pp1 t.list.length qq1) ∧ w'.cell? ⟨(y.add (k * 7)).block, (y.add (k * 7)).off + 5, none⟩ = some (.slice pp2 t.ent.length qq2) ∧ w'.cell? ⟨(y.add (k * 7)).block, (y.add (k * 7)).off + 6, none⟩ = some (.slice p1 t.n q1) ∧ w'.cell? (z.add (k * 7)) = some (.int .i64 t.kind) ∧ w'.cell? ⟨(z.add (k * 7)).block, (z.add (k * 7)).off + 1, none⟩ = some (.int .i64 t.a) ∧ w'.cell? ⟨(z.add (k * 7)).block, (z.add (k * 7)).off + 2, none⟩ = some (.int .i64 t.b) ∧ w'.cell? ⟨(z.add (k * 7)).block, (z.add (k * 7)).off + 3, none⟩ = some (.int .i64 t.size) ∧ w'.cell? ⟨(z.add (k * 7)).block, (z.add (k * 7)).off + 4, none⟩ = some (.slice pp3 t.list.length qq3) ∧ w'.cell? ⟨(z.add (k * 7)).block, (z.add (k * 7)).off + 5, none⟩ = some (.slice pp4 t.ent.length qq4) ∧ w'.cell? ⟨(z.add (k * 7)).block, (z.add (k * 7)).off + 6, none⟩ = some (.slice p2 t.n q2)) := fun w' hb => by
        obtain ⟨a0, a1, a2, a3, a4, a5, a6, a7, a8, a9, a10, a11, a12, a13, a14, a15⟩ := S0
        have key : ∀ (p : Addr) v, p.block < wr.heap.size → wr.cell? p = some v → w'.cell? p = some v := fun p v h1 h2 => (hb.cell h1).trans h2
        exact ⟨key _ _ hA1 a0, key _ _ hA2 a1, key _ _ hyb a2, key _ _ hyb a3, key _ _ hyb a4, key _ _ hyb a5, key _ _ hyb a6, key _ _ hyb a7, key _ _ hyb a8, key _ _ hzb a9, key _ _ hzb a10, key _ _ hzb a11, key _ _ hzb a12, key _ _ hzb a13, key _ _ hzb a14, key _ _ hzb a15⟩
      clear e7 f7 c0 c1 c2 c3 c4 c5 c6 d0 d1 d2 d3 d4 d5 d6 m1 m2 m3 m4
      go_wp2
      go_region_held3 (fun w' => w'.cell? ⟨w.heap.size, 6, none⟩ = some (.slice (some y) l.length q3) ∧ w'.cell? ⟨w.heap.size + 1, 6, none⟩ = some (.slice (some z) l.length q4) ∧ w'.cell? (y.add (k * 7)) = some (.int .i64 t.kind) ∧ w'.cell? ⟨(y.add (k * 7)).block, (y.add (k * 7)).off + 1, none⟩ = some (.int .i64 t.a) ∧ w'.cell? ⟨(y.add (k * 7)).block, (y.add (k * 7)).off + 2, none⟩ = some (.int .i64 t.b) ∧ w'.cell? ⟨(y.add (k * 7)).block, (y.add (k * 7)).off + 3, none⟩ = some (.int .i64 t.size) ∧ w'.cell? ⟨(y.add (k * 7)).block, (y.add (k * 7)).off + 4, none⟩ = some (.slice pp1 t.list.length qq1) ∧ w'.cell? ⟨(y.add (k * 7)).block, (y.add (k * 7)).off + 5, none⟩ = some (.slice pp2 t.ent.length qq2) ∧ w'.cell? ⟨(y.add (k * 7)).block, (y.add (k * 7)).off + 6, none⟩ = some (.slice p1 t.n q1) ∧ w'.cell? (z.add (k * 7)) = some (.int .i64 t.kind) ∧ w'.cell? ⟨(z.add (k * 7)).block, (z.add (k * 7)).off + 1, none⟩ = some (.int .i64 t.a) ∧ w'.cell? ⟨(z.add (k * 7)).block, (z.add (k * 7)).off + 2, none⟩ = some (.int .i64 t.b) ∧ w'.cell? ⟨(z.add (k * 7)).block, (z.add (k * 7)).off + 3, none⟩ = some (.int .i64 t.size) ∧ w'.cell? ⟨(z.add (k * 7)).block, (z.add (k * 7)).off + 4, none⟩ = some (.slice pp3 t.list.length qq3) ∧ w'.cell? ⟨(z.add (k * 7)).block, (z.add (k * 7)).off + 5, none⟩ = some (.slice pp4 t.ent.length qq4) ∧ w'.cell? ⟨(z.add (k * 7)).block, (z.add (k * 7)).off + 6, none⟩ = some (.slice p2 t.n q2)) (first | exact S0 | exact S1) (first | (go_at_call 14; (with_reducible refine i3.mono ?_); rintro e w3 ⟨rfl, h3⟩; have S1 := SA.out w3 (((Below.refl _ wr).drew).trans h3); have B4 := hid (hB.out.trans ((((Below.refl _ wr).drew).trans h3).mono hB.out.size)); clear h3))
      go_wp2
      exact ⟨⟨k + 1, by omega, by go_num, B4⟩, by simp [intOf]; omega⟩
    · have b0 : ¬ (k : Int) < (l.length : Int) := by omega
      obtain rfl : k = l.length := by omega
      go_wp2
      go_ret
      exact ⟨rfl, BB2.out.trans (hB.out.mono (by omega))⟩
end Msg
end Go.Proofs.YteilkpihddfpeaaGreatDoor
