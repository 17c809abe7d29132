import Derived.Test.YtmhgdcfmfcjagaaGreatDoorPkME3
namespace Go.Proofs.YtmhgdcfmfcjagaaGreatDoor
open Go.RowKit Cod
namespace Msg

/-- may a request be, but for what it asks? -/
def rtF (x : Ask) : Bool :=
  !decide (fw x.kind = []) && (!spB x (fw x.kind) && ((!hasB (fw x.kind) 101 || txB x.ent 1 32 4096) && ((!hasB (fw x.kind) 105 || riB x.list 256) && ((!hasB (fw x.kind) 104 || riB x.list 64) && (isSz x.a && (isSz x.b && isSz x.size))))))
/-- a request that asks nothing further -/
def rtE (x : Ask) : Bool := rtF x && !decide (fw x.kind = [103])
theorem rq_cells {w : World} {A : Nat} {x : Ask} {ul ue ua : Value} (r : w.heap[A]? = some (.cells #[.int .i64 x.kind, .int .i64 x.a, .int .i64 x.b, .int .i64 x.size, ul, ue, ua] 26 (0, 0))) :
    w.cell? ⟨A, 0, none⟩ = some (.int .i64 x.kind) ∧ w.cell? ⟨A, 1, none⟩ = some (.int .i64 x.a) ∧ w.cell? ⟨A, 2, none⟩ = some (.int .i64 x.b) ∧ w.cell? ⟨A, 3, none⟩ = some (.int .i64 x.size) ∧ w.cell? ⟨A, 4, none⟩ = some ul ∧ w.cell? ⟨A, 5, none⟩ = some ue ∧ w.cell? ⟨A, 6, none⟩ = some ua := by
  refine ⟨?_, ?_, ?_, ?_, ?_, ?_, ?_⟩ <;> (rw [cell_of_row _ _ _ _ _ _ r]; rfl)
set_option maxRecDepth 100000 in
set_option maxHeartbeats 8000000 in
theorem right17_E (x : Ask) (hW : fw x.kind = []) (p1 p2 p3 : Option Addr) (q1 q2 q3 : Nat) (w : World) (s1 : SlcI w (.slice p1 x.list.length q1) x.list) (s2 : Slc w (.slice p2 x.ent.length q2) x.ent) (hl1 : x.list.length ≤ maxLen) (hl2 : x.ent.length ≤ maxLen) :
    Calls Tryz.prog 33 #[.agg #[.int .i64 x.kind, .int .i64 x.a, .int .i64 x.b, .int .i64 x.size, .slice p1 x.list.length q1, .slice p2 x.ent.length q2, .slice p3 x.n q3]] w fun e w' => e = .returned (.bool (rtE x)) ∧ Below w.heap.size w w' := by
  have i0 : ∀ w, Calls Tryz.prog 32 #[.int .i64 x.kind] w fun e w' => e = .returned (.string ⟨#[]⟩) ∧ w' = w := fun w => by
    have := fields17_any x.kind w
    rw [hW] at this
    exact this
  have i1 := fun w => spare17_E x p1 p2 p3 q1 q2 q3 w
  have bA := hid ((Below.refl w.heap.size w).alloc (Nat.le_refl _) (.cells #[.int .i64 x.kind, .int .i64 x.a, .int .i64 x.b, .int .i64 x.size, .slice p1 x.list.length q1, .slice p2 x.ent.length q2, .slice p3 x.n q3] 26))
  have hR : rtE x = false := by
    rw [rtE, rtF, hW]
    rfl
  have SB : Hid (∀ w', Below w.heap.size w w' → SlcI w' (.slice p1 x.list.length q1) x.list ∧ Slc w' (.slice p2 x.ent.length q2) x.ent) := fun w' hb => ⟨s1.keep (S := fun k => w.heap.size ≤ k) ⟨hb.os, hb.tape, hb.output, hb.size, fun k _ hk => hb.block k (by omega)⟩ (fun y n c e h0 hk => by
      obtain ⟨a, cap, e2, h⟩ := s1
      rw [e2] at e
      injection e with e1 e3 e4
      obtain ⟨z, hz, hb, _⟩ := h 0 x.list[0] (List.getElem?_eq_getElem (by omega))
      rw [e1] at hz
      injection hz with hz
      subst hz
      omega), s2.below hb (Nat.le_refl _)⟩
  rw [hR]
  clear hR s1 s2
  generalize spB x [] = sb at *
  have j1 := fun w => size17_any x.a w
  have j2 := fun w => size17_any x.b w
  have j3 := fun w => size17_any x.size w
  have j4 := fun w (h : Slc w (.slice p2 x.ent.length q2) x.ent) => texts17_any (.slice p2 x.ent.length q2) x.ent 1 32 4096 hl2 w h
  have j5 := fun w (h : SlcI w (.slice p1 x.list.length q1) x.list) => rises17_any (.slice p1 x.list.length q1) x.list 256 hl1 w h
  have j6 := fun w (h : SlcI w (.slice p1 x.list.length q1) x.list) => rises17_any (.slice p1 x.list.length q1) x.list 64 hl1 w h
  generalize txB x.ent 1 32 4096 = tb at *
  generalize riB x.list 256 = r1 at *
  generalize riB x.list 64 = r2 at *
  generalize isSz x.a = za at *
  generalize isSz x.b = zb at *
  generalize isSz x.size = zs at *
  have i101 : ∀ w, Calls Tryz.prog 68 #[.string ⟨#[]⟩, .int .u8 101] w fun e w' => e = .returned (.bool false) ∧ w' = w := fun w => has17_any ⟨#[]⟩ 101 (by decide) w
  have i105 : ∀ w, Calls Tryz.prog 68 #[.string ⟨#[]⟩, .int .u8 105] w fun e w' => e = .returned (.bool false) ∧ w' = w := fun w => has17_any ⟨#[]⟩ 105 (by decide) w
  have i104 : ∀ w, Calls Tryz.prog 68 #[.string ⟨#[]⟩, .int .u8 104] w fun e w' => e = .returned (.bool false) ∧ w' = w := fun w => has17_any ⟨#[]⟩ 104 (by decide) w
  go_enter Tryz.func33, Tryz.ntmps33
  go_wp2_with (first
    | (go_at_call 32; refine (i0 _).mono ?_; rintro e w' ⟨rfl, hw'⟩; rw [hw']; clear hw' w')
    | (go_at_call 64; refine (i1 _).mono ?_; rintro e w1 ⟨rfl, g1⟩; have B1 := hid (bA.out.trans (g1.mono bA.out.size)); obtain ⟨c0, c1, c2, c3, c4, c5, c6⟩ := rq_cells (A := w.heap.size) ((g1.block _ (by rw [size_alloc]; omega)).trans (heap_alloc_new w _)); have R1 := hid ((g1.block _ (show w.heap.size < _ by rw [size_alloc]; omega)).trans (heap_alloc_new w _)); have z1 : w.heap.size < w1.heap.size := (by have := g1.size; rw [size_alloc] at this; omega); clear g1)
    | (go_at_call 65; (first | (with_reducible refine (j1 _).mono ?_) | (with_reducible refine (j2 _).mono ?_) | (with_reducible refine (j3 _).mono ?_)); rintro e w' ⟨rfl, hw'⟩; rw [hw']; clear hw' w')
    | (go_at_call 66; refine (j4 _ (SB.out _ B1.out).2).mono ?_; rintro e w' ⟨rfl, hw'⟩; rw [hw']; clear hw' w')
    | (go_at_call 67; (first | ((with_reducible refine (j5 _ (SB.out _ B1.out).1).mono ?_); rintro e w2 ⟨rfl, g2⟩; have B2 := hid (B1.out.trans (g2.mono B1.out.size)); obtain ⟨c0, c1, c2, c3, c4, c5, c6⟩ := rq_cells ((g2.block _ z1).trans R1.out); have R2 := hid ((g2.block _ z1).trans R1.out); have z2 : w.heap.size < w2.heap.size := (by have := g2.size; omega); clear g2) | ((with_reducible refine (j6 _ (SB.out _ B2.out).1).mono ?_); rintro e w3 ⟨rfl, g3⟩; have B3 := hid (B2.out.trans (g3.mono B2.out.size)); obtain ⟨c0, c1, c2, c3, c4, c5, c6⟩ := rq_cells ((g3.block _ z2).trans R2.out); clear g3)))
    | (go_at_call 68; (first | (with_reducible refine (i101 _).mono ?_) | (with_reducible refine (i105 _).mono ?_) | (with_reducible refine (i104 _).mono ?_)); rintro e w' ⟨rfl, hw'⟩; rw [hw']; clear hw' w'))
  go_ret
  first | exact ⟨rfl, B3.out⟩ | exact ⟨rfl, B1.out⟩
set_option maxRecDepth 100000 in
set_option maxHeartbeats 8000000 in
theorem right17_m (x : Ask) (hW : fw x.kind = [45]) (p1 p2 p3 : Option Addr) (q1 q2 q3 : Nat) (w : World) (s1 : SlcI w (.slice p1 x.list.length q1) x.list) (s2 : Slc w (.slice p2 x.ent.length q2) x.ent) (hl1 : x.list.length ≤ maxLen) (hl2 : x.ent.length ≤ maxLen) :
    Calls Tryz.prog 33 #[.agg #[.int .i64 x.kind, .int .i64 x.a, .int .i64 x.b, .int .i64 x.size, .slice p1 x.list.length q1, .slice p2 x.ent.length q2, .slice p3 x.n q3]] w fun e w' => e = .returned (.bool (rtE x)) ∧ Below w.heap.size w w' := by
  have i0 : ∀ w, Calls Tryz.prog 32 #[.int .i64 x.kind] w fun e w' => e = .returned (.string ⟨#[45]⟩) ∧ w' = w := fun w => by
    have := fields17_any x.kind w
    rw [hW] at this
    exact this
  have i1 := fun w => spare17_m x p1 p2 p3 q1 q2 q3 w
  have bA := hid ((Below.refl w.heap.size w).alloc (Nat.le_refl _) (.cells #[.int .i64 x.kind, .int .i64 x.a, .int .i64 x.b, .int .i64 x.size, .slice p1 x.list.length q1, .slice p2 x.ent.length q2, .slice p3 x.n q3] 26))
  have hR : rtE x = ((!spB x [45] && (isSz x.a && (isSz x.b && isSz x.size))) && true) := by
    rw [rtE, rtF, hW]
    rfl
  have SB : Hid (∀ w', Below w.heap.size w w' → SlcI w' (.slice p1 x.list.length q1) x.list ∧ Slc w' (.slice p2 x.ent.length q2) x.ent) := fun w' hb => ⟨s1.keep (S := fun k => w.heap.size ≤ k) ⟨hb.os, hb.tape, hb.output, hb.size, fun k _ hk => hb.block k (by omega)⟩ (fun y n c e h0 hk => by
      obtain ⟨a, cap, e2, h⟩ := s1
      rw [e2] at e
      injection e with e1 e3 e4
      obtain ⟨z, hz, hb, _⟩ := h 0 x.list[0] (List.getElem?_eq_getElem (by omega))
      rw [e1] at hz
      injection hz with hz
      subst hz
      omega), s2.below hb (Nat.le_refl _)⟩
  rw [hR]
  clear hR s1 s2
  generalize spB x [45] = sb at *
  have j1 := fun w => size17_any x.a w
  have j2 := fun w => size17_any x.b w
  have j3 := fun w => size17_any x.size w
  have j4 := fun w (h : Slc w (.slice p2 x.ent.length q2) x.ent) => texts17_any (.slice p2 x.ent.length q2) x.ent 1 32 4096 hl2 w h
  have j5 := fun w (h : SlcI w (.slice p1 x.list.length q1) x.list) => rises17_any (.slice p1 x.list.length q1) x.list 256 hl1 w h
  have j6 := fun w (h : SlcI w (.slice p1 x.list.length q1) x.list) => rises17_any (.slice p1 x.list.length q1) x.list 64 hl1 w h
  generalize txB x.ent 1 32 4096 = tb at *
  generalize riB x.list 256 = r1 at *
  generalize riB x.list 64 = r2 at *
  generalize isSz x.a = za at *
  generalize isSz x.b = zb at *
  generalize isSz x.size = zs at *
  have i101 : ∀ w, Calls Tryz.prog 68 #[.string ⟨#[45]⟩, .int .u8 101] w fun e w' => e = .returned (.bool false) ∧ w' = w := fun w => has17_any ⟨#[45]⟩ 101 (by decide) w
  have i105 : ∀ w, Calls Tryz.prog 68 #[.string ⟨#[45]⟩, .int .u8 105] w fun e w' => e = .returned (.bool false) ∧ w' = w := fun w => has17_any ⟨#[45]⟩ 105 (by decide) w
  have i104 : ∀ w, Calls Tryz.prog 68 #[.string ⟨#[45]⟩, .int .u8 104] w fun e w' => e = .returned (.bool false) ∧ w' = w := fun w => has17_any ⟨#[45]⟩ 104 (by decide) w
  cases sb
  cases za
  rotate_left
  cases zb
  rotate_left
  cases zs
  rotate_left
  all_goals
    go_enter Tryz.func33, Tryz.ntmps33
    go_wp2_with (first
      | (go_at_call 32; refine (i0 _).mono ?_; rintro e w' ⟨rfl, hw'⟩; rw [hw']; clear hw' w')
      | (go_at_call 64; refine (i1 _).mono ?_; rintro e w1 ⟨rfl, g1⟩; have B1 := hid (bA.out.trans (g1.mono bA.out.size)); obtain ⟨c0, c1, c2, c3, c4, c5, c6⟩ := rq_cells (A := w.heap.size) ((g1.block _ (by rw [size_alloc]; omega)).trans (heap_alloc_new w _)); have R1 := hid ((g1.block _ (show w.heap.size < _ by rw [size_alloc]; omega)).trans (heap_alloc_new w _)); have z1 : w.heap.size < w1.heap.size := (by have := g1.size; rw [size_alloc] at this; omega); clear g1)
      | (go_at_call 65; (first | (with_reducible refine (j1 _).mono ?_) | (with_reducible refine (j2 _).mono ?_) | (with_reducible refine (j3 _).mono ?_)); rintro e w' ⟨rfl, hw'⟩; rw [hw']; clear hw' w')
      | (go_at_call 66; refine (j4 _ (SB.out _ B1.out).2).mono ?_; rintro e w' ⟨rfl, hw'⟩; rw [hw']; clear hw' w')
      | (go_at_call 67; (first | ((with_reducible refine (j5 _ (SB.out _ B1.out).1).mono ?_); rintro e w2 ⟨rfl, g2⟩; have B2 := hid (B1.out.trans (g2.mono B1.out.size)); obtain ⟨c0, c1, c2, c3, c4, c5, c6⟩ := rq_cells ((g2.block _ z1).trans R1.out); have R2 := hid ((g2.block _ z1).trans R1.out); have z2 : w.heap.size < w2.heap.size := (by have := g2.size; omega); clear g2) | ((with_reducible refine (j6 _ (SB.out _ B2.out).1).mono ?_); rintro e w3 ⟨rfl, g3⟩; have B3 := hid (B2.out.trans (g3.mono B2.out.size)); obtain ⟨c0, c1, c2, c3, c4, c5, c6⟩ := rq_cells ((g3.block _ z2).trans R2.out); clear g3)))
      | (go_at_call 68; (first | (with_reducible refine (i101 _).mono ?_) | (with_reducible refine (i105 _).mono ?_) | (with_reducible refine (i104 _).mono ?_)); rintro e w' ⟨rfl, hw'⟩; rw [hw']; clear hw' w'))
    go_ret
    first | exact ⟨rfl, B3.out⟩ | exact ⟨rfl, B1.out⟩
end Msg
end Go.Proofs.YtmhgdcfmfcjagaaGreatDoor

namespace Go.Proofs.YtmhgdcfmfcjagaaGreatDoor
open Go.RowKit Cod
namespace Msg

set_option maxRecDepth 100000 in
set_option maxHeartbeats 8000000 in
theorem right17_e (x : Ask) (hW : fw x.kind = [101]) (p1 p2 p3 : Option Addr) (q1 q2 q3 : Nat) (w : World) (s1 : SlcI w (.slice p1 x.list.length q1) x.list) (s2 : Slc w (.slice p2 x.ent.length q2) x.ent) (hl1 : x.list.length ≤ maxLen) (hl2 : x.ent.length ≤ maxLen) :
    Calls Tryz.prog 33 #[.agg #[.int .i64 x.kind, .int .i64 x.a, .int .i64 x.b, .int .i64 x.size, .slice p1 x.list.length q1, .slice p2 x.ent.length q2, .slice p3 x.n q3]] w fun e w' => e = .returned (.bool (rtE x)) ∧ Below w.heap.size w w' := by
  have i0 : ∀ w, Calls Tryz.prog 32 #[.int .i64 x.kind] w fun e w' => e = .returned (.string ⟨#[101]⟩) ∧ w' = w := fun w => by
    have := fields17_any x.kind w
    rw [hW] at this
    exact this
  have i1 := fun w => spare17_e x p1 p2 p3 q1 q2 q3 w
  have bA := hid ((Below.refl w.heap.size w).alloc (Nat.le_refl _) (.cells #[.int .i64 x.kind, .int .i64 x.a, .int .i64 x.b, .int .i64 x.size, .slice p1 x.list.length q1, .slice p2 x.ent.length q2, .slice p3 x.n q3] 26))
  have hR : rtE x = ((!spB x [101] && (txB x.ent 1 32 4096 && (isSz x.a && (isSz x.b && isSz x.size)))) && true) := by
    rw [rtE, rtF, hW]
    rfl
  have SB : Hid (∀ w', Below w.heap.size w w' → SlcI w' (.slice p1 x.list.length q1) x.list ∧ Slc w' (.slice p2 x.ent.length q2) x.ent) := fun w' hb => ⟨s1.keep (S := fun k => w.heap.size ≤ k) ⟨hb.os, hb.tape, hb.output, hb.size, fun k _ hk => hb.block k (by omega)⟩ (fun y n c e h0 hk => by
      obtain ⟨a, cap, e2, h⟩ := s1
      rw [e2] at e
      injection e with e1 e3 e4
      obtain ⟨z, hz, hb, _⟩ := h 0 x.list[0] (List.getElem?_eq_getElem (by omega))
      rw [e1] at hz
      injection hz with hz
      subst hz
      omega), s2.below hb (Nat.le_refl _)⟩
  rw [hR]
  clear hR s1 s2
  generalize spB x [101] = sb at *
  have j1 := fun w => size17_any x.a w
  have j2 := fun w => size17_any x.b w
  have j3 := fun w => size17_any x.size w
  have j4 := fun w (h : Slc w (.slice p2 x.ent.length q2) x.ent) => texts17_any (.slice p2 x.ent.length q2) x.ent 1 32 4096 hl2 w h
  have j5 := fun w (h : SlcI w (.slice p1 x.list.length q1) x.list) => rises17_any (.slice p1 x.list.length q1) x.list 256 hl1 w h
  have j6 := fun w (h : SlcI w (.slice p1 x.list.length q1) x.list) => rises17_any (.slice p1 x.list.length q1) x.list 64 hl1 w h
  generalize txB x.ent 1 32 4096 = tb at *
  generalize riB x.list 256 = r1 at *
  generalize riB x.list 64 = r2 at *
  generalize isSz x.a = za at *
  generalize isSz x.b = zb at *
  generalize isSz x.size = zs at *
  have i101 : ∀ w, Calls Tryz.prog 68 #[.string ⟨#[101]⟩, .int .u8 101] w fun e w' => e = .returned (.bool true) ∧ w' = w := fun w => has17_any ⟨#[101]⟩ 101 (by decide) w
  have i105 : ∀ w, Calls Tryz.prog 68 #[.string ⟨#[101]⟩, .int .u8 105] w fun e w' => e = .returned (.bool false) ∧ w' = w := fun w => has17_any ⟨#[101]⟩ 105 (by decide) w
  have i104 : ∀ w, Calls Tryz.prog 68 #[.string ⟨#[101]⟩, .int .u8 104] w fun e w' => e = .returned (.bool false) ∧ w' = w := fun w => has17_any ⟨#[101]⟩ 104 (by decide) w
  cases sb
  cases tb
  rotate_left
  cases za
  rotate_left
  cases zb
  rotate_left
  cases zs
  rotate_left
  all_goals
    go_enter Tryz.func33, Tryz.ntmps33
    go_wp2_with (first
      | (go_at_call 32; refine (i0 _).mono ?_; rintro e w' ⟨rfl, hw'⟩; rw [hw']; clear hw' w')
      | (go_at_call 64; refine (i1 _).mono ?_; rintro e w1 ⟨rfl, g1⟩; have B1 := hid (bA.out.trans (g1.mono bA.out.size)); obtain ⟨c0, c1, c2, c3, c4, c5, c6⟩ := rq_cells (A := w.heap.size) ((g1.block _ (by rw [size_alloc]; omega)).trans (heap_alloc_new w _)); have R1 := hid ((g1.block _ (show w.heap.size < _ by rw [size_alloc]; omega)).trans (heap_alloc_new w _)); have z1 : w.heap.size < w1.heap.size := (by have := g1.size; rw [size_alloc] at this; omega); clear g1)
      | (go_at_call 65; (first | (with_reducible refine (j1 _).mono ?_) | (with_reducible refine (j2 _).mono ?_) | (with_reducible refine (j3 _).mono ?_)); rintro e w' ⟨rfl, hw'⟩; rw [hw']; clear hw' w')
      | (go_at_call 66; refine (j4 _ (SB.out _ B1.out).2).mono ?_; rintro e w' ⟨rfl, hw'⟩; rw [hw']; clear hw' w')
      | (go_at_call 67; (first | ((with_reducible refine (j5 _ (SB.out _ B1.out).1).mono ?_); rintro e w2 ⟨rfl, g2⟩; have B2 := hid (B1.out.trans (g2.mono B1.out.size)); obtain ⟨c0, c1, c2, c3, c4, c5, c6⟩ := rq_cells ((g2.block _ z1).trans R1.out); have R2 := hid ((g2.block _ z1).trans R1.out); have z2 : w.heap.size < w2.heap.size := (by have := g2.size; omega); clear g2) | ((with_reducible refine (j6 _ (SB.out _ B2.out).1).mono ?_); rintro e w3 ⟨rfl, g3⟩; have B3 := hid (B2.out.trans (g3.mono B2.out.size)); obtain ⟨c0, c1, c2, c3, c4, c5, c6⟩ := rq_cells ((g3.block _ z2).trans R2.out); clear g3)))
      | (go_at_call 68; (first | (with_reducible refine (i101 _).mono ?_) | (with_reducible refine (i105 _).mono ?_) | (with_reducible refine (i104 _).mono ?_)); rintro e w' ⟨rfl, hw'⟩; rw [hw']; clear hw' w'))
    go_ret
    first | exact ⟨rfl, B3.out⟩ | exact ⟨rfl, B1.out⟩
set_option maxRecDepth 100000 in
set_option maxHeartbeats 8000000 in
theorem right17_s (x : Ask) (hW : fw x.kind = [115]) (p1 p2 p3 : Option Addr) (q1 q2 q3 : Nat) (w : World) (s1 : SlcI w (.slice p1 x.list.length q1) x.list) (s2 : Slc w (.slice p2 x.ent.length q2) x.ent) (hl1 : x.list.length ≤ maxLen) (hl2 : x.ent.length ≤ maxLen) :
    Calls Tryz.prog 33 #[.agg #[.int .i64 x.kind, .int .i64 x.a, .int .i64 x.b, .int .i64 x.size, .slice p1 x.list.length q1, .slice p2 x.ent.length q2, .slice p3 x.n q3]] w fun e w' => e = .returned (.bool (rtE x)) ∧ Below w.heap.size w w' := by
  have i0 : ∀ w, Calls Tryz.prog 32 #[.int .i64 x.kind] w fun e w' => e = .returned (.string ⟨#[115]⟩) ∧ w' = w := fun w => by
    have := fields17_any x.kind w
    rw [hW] at this
    exact this
  have i1 := fun w => spare17_s x p1 p2 p3 q1 q2 q3 w
  have bA := hid ((Below.refl w.heap.size w).alloc (Nat.le_refl _) (.cells #[.int .i64 x.kind, .int .i64 x.a, .int .i64 x.b, .int .i64 x.size, .slice p1 x.list.length q1, .slice p2 x.ent.length q2, .slice p3 x.n q3] 26))
  have hR : rtE x = ((!spB x [115] && (isSz x.a && (isSz x.b && isSz x.size))) && true) := by
    rw [rtE, rtF, hW]
    rfl
  have SB : Hid (∀ w', Below w.heap.size w w' → SlcI w' (.slice p1 x.list.length q1) x.list ∧ Slc w' (.slice p2 x.ent.length q2) x.ent) := fun w' hb => ⟨s1.keep (S := fun k => w.heap.size ≤ k) ⟨hb.os, hb.tape, hb.output, hb.size, fun k _ hk => hb.block k (by omega)⟩ (fun y n c e h0 hk => by
      obtain ⟨a, cap, e2, h⟩ := s1
      rw [e2] at e
      injection e with e1 e3 e4
      obtain ⟨z, hz, hb, _⟩ := h 0 x.list[0] (List.getElem?_eq_getElem (by omega))
      rw [e1] at hz
      injection hz with hz
      subst hz
      omega), s2.below hb (Nat.le_refl _)⟩
  rw [hR]
  clear hR s1 s2
  generalize spB x [115] = sb at *
  have j1 := fun w => size17_any x.a w
  have j2 := fun w => size17_any x.b w
  have j3 := fun w => size17_any x.size w
  have j4 := fun w (h : Slc w (.slice p2 x.ent.length q2) x.ent) => texts17_any (.slice p2 x.ent.length q2) x.ent 1 32 4096 hl2 w h
  have j5 := fun w (h : SlcI w (.slice p1 x.list.length q1) x.list) => rises17_any (.slice p1 x.list.length q1) x.list 256 hl1 w h
  have j6 := fun w (h : SlcI w (.slice p1 x.list.length q1) x.list) => rises17_any (.slice p1 x.list.length q1) x.list 64 hl1 w h
  generalize txB x.ent 1 32 4096 = tb at *
  generalize riB x.list 256 = r1 at *
  generalize riB x.list 64 = r2 at *
  generalize isSz x.a = za at *
  generalize isSz x.b = zb at *
  generalize isSz x.size = zs at *
  have i101 : ∀ w, Calls Tryz.prog 68 #[.string ⟨#[115]⟩, .int .u8 101] w fun e w' => e = .returned (.bool false) ∧ w' = w := fun w => has17_any ⟨#[115]⟩ 101 (by decide) w
  have i105 : ∀ w, Calls Tryz.prog 68 #[.string ⟨#[115]⟩, .int .u8 105] w fun e w' => e = .returned (.bool false) ∧ w' = w := fun w => has17_any ⟨#[115]⟩ 105 (by decide) w
  have i104 : ∀ w, Calls Tryz.prog 68 #[.string ⟨#[115]⟩, .int .u8 104] w fun e w' => e = .returned (.bool false) ∧ w' = w := fun w => has17_any ⟨#[115]⟩ 104 (by decide) w
  cases sb
  cases za
  rotate_left
  cases zb
  rotate_left
  cases zs
  rotate_left
  all_goals
    go_enter Tryz.func33, Tryz.ntmps33
    go_wp2_with (first
      | (go_at_call 32; refine (i0 _).mono ?_; rintro e w' ⟨rfl, hw'⟩; rw [hw']; clear hw' w')
      | (go_at_call 64; refine (i1 _).mono ?_; rintro e w1 ⟨rfl, g1⟩; have B1 := hid (bA.out.trans (g1.mono bA.out.size)); obtain ⟨c0, c1, c2, c3, c4, c5, c6⟩ := rq_cells (A := w.heap.size) ((g1.block _ (by rw [size_alloc]; omega)).trans (heap_alloc_new w _)); have R1 := hid ((g1.block _ (show w.heap.size < _ by rw [size_alloc]; omega)).trans (heap_alloc_new w _)); have z1 : w.heap.size < w1.heap.size := (by have := g1.size; rw [size_alloc] at this; omega); clear g1)
      | (go_at_call 65; (first | (with_reducible refine (j1 _).mono ?_) | (with_reducible refine (j2 _).mono ?_) | (with_reducible refine (j3 _).mono ?_)); rintro e w' ⟨rfl, hw'⟩; rw [hw']; clear hw' w')
      | (go_at_call 66; refine (j4 _ (SB.out _ B1.out).2).mono ?_; rintro e w' ⟨rfl, hw'⟩; rw [hw']; clear hw' w')
      | (go_at_call 67; (first | ((with_reducible refine (j5 _ (SB.out _ B1.out).1).mono ?_); rintro e w2 ⟨rfl, g2⟩; have B2 := hid (B1.out.trans (g2.mono B1.out.size)); obtain ⟨c0, c1, c2, c3, c4, c5, c6⟩ := rq_cells ((g2.block _ z1).trans R1.out); have R2 := hid ((g2.block _ z1).trans R1.out); have z2 : w.heap.size < w2.heap.size := (by have := g2.size; omega); clear g2) | ((with_reducible refine (j6 _ (SB.out _ B2.out).1).mono ?_); rintro e w3 ⟨rfl, g3⟩; have B3 := hid (B2.out.trans (g3.mono B2.out.size)); obtain ⟨c0, c1, c2, c3, c4, c5, c6⟩ := rq_cells ((g3.block _ z2).trans R2.out); clear g3)))
      | (go_at_call 68; (first | (with_reducible refine (i101 _).mono ?_) | (with_reducible refine (i105 _).mono ?_) | (with_reducible refine (i104 _).mono ?_)); rintro e w' ⟨rfl, hw'⟩; rw [hw']; clear hw' w'))
    go_ret
    first | exact ⟨rfl, B3.out⟩ | exact ⟨rfl, B1.out⟩
set_option maxRecDepth 100000 in
set_option maxHeartbeats 8000000 in
theorem right17_as (x : Ask) (hW : fw x.kind = [97, 115]) (p1 p2 p3 : Option Addr) (q1 q2 q3 : Nat) (w : World) (s1 : SlcI w (.slice p1 x.list.length q1) x.list) (s2 : Slc w (.slice p2 x.ent.length q2) x.ent) (hl1 : x.list.length ≤ maxLen) (hl2 : x.ent.length ≤ maxLen) :
    Calls Tryz.prog 33 #[.agg #[.int .i64 x.kind, .int .i64 x.a, .int .i64 x.b, .int .i64 x.size, .slice p1 x.list.length q1, .slice p2 x.ent.length q2, .slice p3 x.n q3]] w fun e w' => e = .returned (.bool (rtE x)) ∧ Below w.heap.size w w' := by
  have i0 : ∀ w, Calls Tryz.prog 32 #[.int .i64 x.kind] w fun e w' => e = .returned (.string ⟨#[97, 115]⟩) ∧ w' = w := fun w => by
    have := fields17_any x.kind w
    rw [hW] at this
    exact this
  have i1 := fun w => spare17_as x p1 p2 p3 q1 q2 q3 w
  have bA := hid ((Below.refl w.heap.size w).alloc (Nat.le_refl _) (.cells #[.int .i64 x.kind, .int .i64 x.a, .int .i64 x.b, .int .i64 x.size, .slice p1 x.list.length q1, .slice p2 x.ent.length q2, .slice p3 x.n q3] 26))
  have hR : rtE x = ((!spB x [97, 115] && (isSz x.a && (isSz x.b && isSz x.size))) && true) := by
    rw [rtE, rtF, hW]
    rfl
  have SB : Hid (∀ w', Below w.heap.size w w' → SlcI w' (.slice p1 x.list.length q1) x.list ∧ Slc w' (.slice p2 x.ent.length q2) x.ent) := fun w' hb => ⟨s1.keep (S := fun k => w.heap.size ≤ k) ⟨hb.os, hb.tape, hb.output, hb.size, fun k _ hk => hb.block k (by omega)⟩ (fun y n c e h0 hk => by
      obtain ⟨a, cap, e2, h⟩ := s1
      rw [e2] at e
      injection e with e1 e3 e4
      obtain ⟨z, hz, hb, _⟩ := h 0 x.list[0] (List.getElem?_eq_getElem (by omega))
      rw [e1] at hz
      injection hz with hz
      subst hz
      omega), s2.below hb (Nat.le_refl _)⟩
  rw [hR]
  clear hR s1 s2
  generalize spB x [97, 115] = sb at *
  have j1 := fun w => size17_any x.a w
  have j2 := fun w => size17_any x.b w
  have j3 := fun w => size17_any x.size w
  have j4 := fun w (h : Slc w (.slice p2 x.ent.length q2) x.ent) => texts17_any (.slice p2 x.ent.length q2) x.ent 1 32 4096 hl2 w h
  have j5 := fun w (h : SlcI w (.slice p1 x.list.length q1) x.list) => rises17_any (.slice p1 x.list.length q1) x.list 256 hl1 w h
  have j6 := fun w (h : SlcI w (.slice p1 x.list.length q1) x.list) => rises17_any (.slice p1 x.list.length q1) x.list 64 hl1 w h
  generalize txB x.ent 1 32 4096 = tb at *
  generalize riB x.list 256 = r1 at *
  generalize riB x.list 64 = r2 at *
  generalize isSz x.a = za at *
  generalize isSz x.b = zb at *
  generalize isSz x.size = zs at *
  have i101 : ∀ w, Calls Tryz.prog 68 #[.string ⟨#[97, 115]⟩, .int .u8 101] w fun e w' => e = .returned (.bool false) ∧ w' = w := fun w => has17_any ⟨#[97, 115]⟩ 101 (by decide) w
  have i105 : ∀ w, Calls Tryz.prog 68 #[.string ⟨#[97, 115]⟩, .int .u8 105] w fun e w' => e = .returned (.bool false) ∧ w' = w := fun w => has17_any ⟨#[97, 115]⟩ 105 (by decide) w
  have i104 : ∀ w, Calls Tryz.prog 68 #[.string ⟨#[97, 115]⟩, .int .u8 104] w fun e w' => e = .returned (.bool false) ∧ w' = w := fun w => has17_any ⟨#[97, 115]⟩ 104 (by decide) w
  cases sb
  cases za
  rotate_left
  cases zb
  rotate_left
  cases zs
  rotate_left
  all_goals
    go_enter Tryz.func33, Tryz.ntmps33
    go_wp2_with (first
      | (go_at_call 32; refine (i0 _).mono ?_; rintro e w' ⟨rfl, hw'⟩; rw [hw']; clear hw' w')
      | (go_at_call 64; refine (i1 _).mono ?_; rintro e w1 ⟨rfl, g1⟩; have B1 := hid (bA.out.trans (g1.mono bA.out.size)); obtain ⟨c0, c1, c2, c3, c4, c5, c6⟩ := rq_cells (A := w.heap.size) ((g1.block _ (by rw [size_alloc]; omega)).trans (heap_alloc_new w _)); have R1 := hid ((g1.block _ (show w.heap.size < _ by rw [size_alloc]; omega)).trans (heap_alloc_new w _)); have z1 : w.heap.size < w1.heap.size := (by have := g1.size; rw [size_alloc] at this; omega); clear g1)
      | (go_at_call 65; (first | (with_reducible refine (j1 _).mono ?_) | (with_reducible refine (j2 _).mono ?_) | (with_reducible refine (j3 _).mono ?_)); rintro e w' ⟨rfl, hw'⟩; rw [hw']; clear hw' w')
      | (go_at_call 66; refine (j4 _ (SB.out _ B1.out).2).mono ?_; rintro e w' ⟨rfl, hw'⟩; rw [hw']; clear hw' w')
      | (go_at_call 67; (first | ((with_reducible refine (j5 _ (SB.out _ B1.out).1).mono ?_); rintro e w2 ⟨rfl, g2⟩; have B2 := hid (B1.out.trans (g2.mono B1.out.size)); obtain ⟨c0, c1, c2, c3, c4, c5, c6⟩ := rq_cells ((g2.block _ z1).trans R1.out); have R2 := hid ((g2.block _ z1).trans R1.out); have z2 : w.heap.size < w2.heap.size := (by have := g2.size; omega); clear g2) | ((with_reducible refine (j6 _ (SB.out _ B2.out).1).mono ?_); rintro e w3 ⟨rfl, g3⟩; have B3 := hid (B2.out.trans (g3.mono B2.out.size)); obtain ⟨c0, c1, c2, c3, c4, c5, c6⟩ := rq_cells ((g3.block _ z2).trans R2.out); clear g3)))
      | (go_at_call 68; (first | (with_reducible refine (i101 _).mono ?_) | (with_reducible refine (i105 _).mono ?_) | (with_reducible refine (i104 _).mono ?_)); rintro e w' ⟨rfl, hw'⟩; rw [hw']; clear hw' w'))
    go_ret
    first | exact ⟨rfl, B3.out⟩ | exact ⟨rfl, B1.out⟩
set_option maxRecDepth 100000 in
set_option maxHeartbeats 8000000 in
theorem right17_si (x : Ask) (hW : fw x.kind = [115, 105]) (p1 p2 p3 : Option Addr) (q1 q2 q3 : Nat) (w : World) (s1 : SlcI w (.slice p1 x.list.length q1) x.list) (s2 : Slc w (.slice p2 x.ent.length q2) x.ent) (hl1 : x.list.length ≤ maxLen) (hl2 : x.ent.length ≤ maxLen) :
    Calls Tryz.prog 33 #[.agg #[.int .i64 x.kind, .int .i64 x.a, .int .i64 x.b, .int .i64 x.size, .slice p1 x.list.length q1, .slice p2 x.ent.length q2, .slice p3 x.n q3]] w fun e w' => e = .returned (.bool (rtE x)) ∧ Below w.heap.size w w' := by
  have i0 : ∀ w, Calls Tryz.prog 32 #[.int .i64 x.kind] w fun e w' => e = .returned (.string ⟨#[115, 105]⟩) ∧ w' = w := fun w => by
    have := fields17_any x.kind w
    rw [hW] at this
    exact this
  have i1 := fun w => spare17_si x p1 p2 p3 q1 q2 q3 w
  have bA := hid ((Below.refl w.heap.size w).alloc (Nat.le_refl _) (.cells #[.int .i64 x.kind, .int .i64 x.a, .int .i64 x.b, .int .i64 x.size, .slice p1 x.list.length q1, .slice p2 x.ent.length q2, .slice p3 x.n q3] 26))
  have hR : rtE x = ((!spB x [115, 105] && (riB x.list 256 && (isSz x.a && (isSz x.b && isSz x.size)))) && true) := by
    rw [rtE, rtF, hW]
    rfl
  have SB : Hid (∀ w', Below w.heap.size w w' → SlcI w' (.slice p1 x.list.length q1) x.list ∧ Slc w' (.slice p2 x.ent.length q2) x.ent) := fun w' hb => ⟨s1.keep (S := fun k => w.heap.size ≤ k) ⟨hb.os, hb.tape, hb.output, hb.size, fun k _ hk => hb.block k (by omega)⟩ (fun y n c e h0 hk => by
      obtain ⟨a, cap, e2, h⟩ := s1
      rw [e2] at e
      injection e with e1 e3 e4
      obtain ⟨z, hz, hb, _⟩ := h 0 x.list[0] (List.getElem?_eq_getElem (by omega))
      rw [e1] at hz
      injection hz with hz
      subst hz
      omega), s2.below hb (Nat.le_refl _)⟩
  rw [hR]
  clear hR s1 s2
  generalize spB x [115, 105] = sb at *
  have j1 := fun w => size17_any x.a w
  have j2 := fun w => size17_any x.b w
  have j3 := fun w => size17_any x.size w
  have j4 := fun w (h : Slc w (.slice p2 x.ent.length q2) x.ent) => texts17_any (.slice p2 x.ent.length q2) x.ent 1 32 4096 hl2 w h
  have j5 := fun w (h : SlcI w (.slice p1 x.list.length q1) x.list) => rises17_any (.slice p1 x.list.length q1) x.list 256 hl1 w h
  have j6 := fun w (h : SlcI w (.slice p1 x.list.length q1) x.list) => rises17_any (.slice p1 x.list.length q1) x.list 64 hl1 w h
  generalize txB x.ent 1 32 4096 = tb at *
  generalize riB x.list 256 = r1 at *
  generalize riB x.list 64 = r2 at *
  generalize isSz x.a = za at *
  generalize isSz x.b = zb at *
  generalize isSz x.size = zs at *
  have i101 : ∀ w, Calls Tryz.prog 68 #[.string ⟨#[115, 105]⟩, .int .u8 101] w fun e w' => e = .returned (.bool false) ∧ w' = w := fun w => has17_any ⟨#[115, 105]⟩ 101 (by decide) w
  have i105 : ∀ w, Calls Tryz.prog 68 #[.string ⟨#[115, 105]⟩, .int .u8 105] w fun e w' => e = .returned (.bool true) ∧ w' = w := fun w => has17_any ⟨#[115, 105]⟩ 105 (by decide) w
  have i104 : ∀ w, Calls Tryz.prog 68 #[.string ⟨#[115, 105]⟩, .int .u8 104] w fun e w' => e = .returned (.bool false) ∧ w' = w := fun w => has17_any ⟨#[115, 105]⟩ 104 (by decide) w
  cases sb
  cases r1
  rotate_left
  cases za
  rotate_left
  cases zb
  rotate_left
  cases zs
  rotate_left
  all_goals
    go_enter Tryz.func33, Tryz.ntmps33
    go_wp2_with (first
      | (go_at_call 32; refine (i0 _).mono ?_; rintro e w' ⟨rfl, hw'⟩; rw [hw']; clear hw' w')
      | (go_at_call 64; refine (i1 _).mono ?_; rintro e w1 ⟨rfl, g1⟩; have B1 := hid (bA.out.trans (g1.mono bA.out.size)); obtain ⟨c0, c1, c2, c3, c4, c5, c6⟩ := rq_cells (A := w.heap.size) ((g1.block _ (by rw [size_alloc]; omega)).trans (heap_alloc_new w _)); have R1 := hid ((g1.block _ (show w.heap.size < _ by rw [size_alloc]; omega)).trans (heap_alloc_new w _)); have z1 : w.heap.size < w1.heap.size := (by have := g1.size; rw [size_alloc] at this; omega); clear g1)
      | (go_at_call 65; (first | (with_reducible refine (j1 _).mono ?_) | (with_reducible refine (j2 _).mono ?_) | (with_reducible refine (j3 _).mono ?_)); rintro e w' ⟨rfl, hw'⟩; rw [hw']; clear hw' w')
      | (go_at_call 66; refine (j4 _ (SB.out _ B1.out).2).mono ?_; rintro e w' ⟨rfl, hw'⟩; rw [hw']; clear hw' w')
      | (go_at_call 67; (first | ((with_reducible refine (j5 _ (SB.out _ B1.out).1).mono ?_); rintro e w2 ⟨rfl, g2⟩; have B2 := hid (B1.out.trans (g2.mono B1.out.size)); obtain ⟨c0, c1, c2, c3, c4, c5, c6⟩ := rq_cells ((g2.block _ z1).trans R1.out); have R2 := hid ((g2.block _ z1).trans R1.out); have z2 : w.heap.size < w2.heap.size := (by have := g2.size; omega); clear g2) | ((with_reducible refine (j6 _ (SB.out _ B2.out).1).mono ?_); rintro e w3 ⟨rfl, g3⟩; have B3 := hid (B2.out.trans (g3.mono B2.out.size)); obtain ⟨c0, c1, c2, c3, c4, c5, c6⟩ := rq_cells ((g3.block _ z2).trans R2.out); clear g3)))
      | (go_at_call 68; (first | (with_reducible refine (i101 _).mono ?_) | (with_reducible refine (i105 _).mono ?_) | (with_reducible refine (i104 _).mono ?_)); rintro e w' ⟨rfl, hw'⟩; rw [hw']; clear hw' w'))
    go_ret
    first | exact ⟨rfl, B3.out⟩ | exact ⟨rfl, B1.out⟩
end Msg
end Go.Proofs.YtmhgdcfmfcjagaaGreatDoor
