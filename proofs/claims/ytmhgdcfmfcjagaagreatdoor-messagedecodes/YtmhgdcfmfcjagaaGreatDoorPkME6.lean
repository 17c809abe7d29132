import Derived.Test.YtmhgdcfmfcjagaaGreatDoorPkME4
import Derived.Test.YtmhgdcfmfcjagaaGreatDoorPkMX2
import Derived.Deep.Slices
namespace Go.Proofs.YtmhgdcfmfcjagaaGreatDoor
open Go.RowKit Cod
namespace Msg

set_option maxRecDepth 100000 in
set_option maxHeartbeats 8000000 in
theorem right17_h (x : Ask) (hW : fw x.kind = [104]) (p1 p2 p3 : Option Addr) (q1 q2 q3 : Nat) (w : World) (s1 : SlcI w (.slice p1 x.list.length q1) x.list) (s2 : Slc w (.slice p2 x.ent.length q2) x.ent) (hl1 : x.list.length ≤ maxLen) (hl2 : x.ent.length ≤ maxLen) :
    Calls Tryz.prog 33 #[.agg #[.int .i64 x.kind, .int .i64 x.a, .int .i64 x.b, .int .i64 x.size, .slice p1 x.list.length q1, .slice p2 x.ent.length q2, .slice p3 x.n q3]] w fun e w' => e = .returned (.bool (rtE x)) ∧ Below w.heap.size w w' := by
  have i0 : ∀ w, Calls Tryz.prog 32 #[.int .i64 x.kind] w fun e w' => e = .returned (.string ⟨#[104]⟩) ∧ w' = w := fun w => by
    have := fields17_any x.kind w
    rw [hW] at this
    exact this
  have i1 := fun w => spare17_h x p1 p2 p3 q1 q2 q3 w
  have bA := hid ((Below.refl w.heap.size w).alloc (Nat.le_refl _) (.cells #[.int .i64 x.kind, .int .i64 x.a, .int .i64 x.b, .int .i64 x.size, .slice p1 x.list.length q1, .slice p2 x.ent.length q2, .slice p3 x.n q3] 26))
  have hR : rtE x = ((!spB x [104] && (riB x.list 64 && (isSz x.a && (isSz x.b && isSz x.size)))) && true) := by
    rw [rtE, rtF, hW]
    rfl
  have SB : Hid (∀ w', Below w.heap.size w w' → SlcI w' (.slice p1 x.list.length q1) x.list ∧ Slc w' (.slice p2 x.ent.length q2) x.ent) := fun w' hb => ⟨s1.keep (S := fun k => w.heap.size ≤ k) ⟨hb.os, hb.tape, hb.output, hb.size, fun k _ hk => hb.block k (by omega)⟩ (fun y n c e h0 hk => by
      obtain ⟨a, cap, e2, h⟩ := s1
      rw [e2] at e
      injection e with e1 e3 e4
      obtain ⟨z, hz, hb, _⟩ := h 0 x.list[0] (List.getElem?_eq_getElem (by omega))
      rw [e1] at hz
      injection hz with hz
      subst hz
      omega), s2.below hb (Nat.le_refl _)⟩
  rw [hR]
  clear hR s1 s2
  generalize spB x [104] = sb at *
  have j1 := fun w => size17_any x.a w
  have j2 := fun w => size17_any x.b w
  have j3 := fun w => size17_any x.size w
  have j4 := fun w (h : Slc w (.slice p2 x.ent.length q2) x.ent) => texts17_any (.slice p2 x.ent.length q2) x.ent 1 32 4096 hl2 w h
  have j5 := fun w (h : SlcI w (.slice p1 x.list.length q1) x.list) => rises17_any (.slice p1 x.list.length q1) x.list 256 hl1 w h
  have j6 := fun w (h : SlcI w (.slice p1 x.list.length q1) x.list) => rises17_any (.slice p1 x.list.length q1) x.list 64 hl1 w h
  generalize txB x.ent 1 32 4096 = tb at *
  generalize riB x.list 256 = r1 at *
  generalize riB x.list 64 = r2 at *
  generalize isSz x.a = za at *
  generalize isSz x.b = zb at *
  generalize isSz x.size = zs at *
  have i101 : ∀ w, Calls Tryz.prog 68 #[.string ⟨#[104]⟩, .int .u8 101] w fun e w' => e = .returned (.bool false) ∧ w' = w := fun w => has17_any ⟨#[104]⟩ 101 (by decide) w
  have i105 : ∀ w, Calls Tryz.prog 68 #[.string ⟨#[104]⟩, .int .u8 105] w fun e w' => e = .returned (.bool false) ∧ w' = w := fun w => has17_any ⟨#[104]⟩ 105 (by decide) w
  have i104 : ∀ w, Calls Tryz.prog 68 #[.string ⟨#[104]⟩, .int .u8 104] w fun e w' => e = .returned (.bool true) ∧ w' = w := fun w => has17_any ⟨#[104]⟩ 104 (by decide) w
  cases sb
  cases r2
  rotate_left
  cases za
  rotate_left
  cases zb
  rotate_left
  cases zs
  rotate_left
  all_goals
    go_enter Tryz.func33, Tryz.ntmps33
    go_wp2_with (first
      | (go_at_call 32; refine (i0 _).mono ?_; rintro e w' ⟨rfl, hw'⟩; rw [hw']; clear hw' w')
      | (go_at_call 64; refine (i1 _).mono ?_; rintro e w1 ⟨rfl, g1⟩; have B1 := hid (bA.out.trans (g1.mono bA.out.size)); obtain ⟨c0, c1, c2, c3, c4, c5, c6⟩ := rq_cells (A := w.heap.size) ((g1.block _ (by rw [size_alloc]; omega)).trans (heap_alloc_new w _)); have R1 := hid ((g1.block _ (show w.heap.size < _ by rw [size_alloc]; omega)).trans (heap_alloc_new w _)); have z1 : w.heap.size < w1.heap.size := (by have := g1.size; rw [size_alloc] at this; omega); clear g1)
      | (go_at_call 65; (first | (with_reducible refine (j1 _).mono ?_) | (with_reducible refine (j2 _).mono ?_) | (with_reducible refine (j3 _).mono ?_)); rintro e w' ⟨rfl, hw'⟩; rw [hw']; clear hw' w')
      | (go_at_call 66; refine (j4 _ (SB.out _ B1.out).2).mono ?_; rintro e w' ⟨rfl, hw'⟩; rw [hw']; clear hw' w')
      | (go_at_call 67; (first | ((with_reducible refine (j5 _ (SB.out _ B1.out).1).mono ?_); rintro e w2 ⟨rfl, g2⟩; have B2 := hid (B1.out.trans (g2.mono B1.out.size)); obtain ⟨c0, c1, c2, c3, c4, c5, c6⟩ := rq_cells ((g2.block _ z1).trans R1.out); have R2 := hid ((g2.block _ z1).trans R1.out); have z2 : w.heap.size < w2.heap.size := (by have := g2.size; omega); clear g2) | ((with_reducible refine (j6 _ (SB.out _ B2.out).1).mono ?_); rintro e w3 ⟨rfl, g3⟩; have B3 := hid (B2.out.trans (g3.mono B2.out.size)); obtain ⟨c0, c1, c2, c3, c4, c5, c6⟩ := rq_cells ((g3.block _ z2).trans R2.out); clear g3)))
      | (go_at_call 68; (first | (with_reducible refine (i101 _).mono ?_) | (with_reducible refine (i105 _).mono ?_) | (with_reducible refine (i104 _).mono ?_)); rintro e w' ⟨rfl, hw'⟩; rw [hw']; clear hw' w'))
    go_ret
    first | exact ⟨rfl, B3.out⟩ | exact ⟨rfl, B1.out⟩
set_option maxRecDepth 100000 in
set_option maxHeartbeats 8000000 in
theorem right17_abs (x : Ask) (hW : fw x.kind = [97, 98, 115]) (p1 p2 p3 : Option Addr) (q1 q2 q3 : Nat) (w : World) (s1 : SlcI w (.slice p1 x.list.length q1) x.list) (s2 : Slc w (.slice p2 x.ent.length q2) x.ent) (hl1 : x.list.length ≤ maxLen) (hl2 : x.ent.length ≤ maxLen) :
    Calls Tryz.prog 33 #[.agg #[.int .i64 x.kind, .int .i64 x.a, .int .i64 x.b, .int .i64 x.size, .slice p1 x.list.length q1, .slice p2 x.ent.length q2, .slice p3 x.n q3]] w fun e w' => e = .returned (.bool (rtE x)) ∧ Below w.heap.size w w' := by
  have i0 : ∀ w, Calls Tryz.prog 32 #[.int .i64 x.kind] w fun e w' => e = .returned (.string ⟨#[97, 98, 115]⟩) ∧ w' = w := fun w => by
    have := fields17_any x.kind w
    rw [hW] at this
    exact this
  have i1 := fun w => spare17_abs x p1 p2 p3 q1 q2 q3 w
  have bA := hid ((Below.refl w.heap.size w).alloc (Nat.le_refl _) (.cells #[.int .i64 x.kind, .int .i64 x.a, .int .i64 x.b, .int .i64 x.size, .slice p1 x.list.length q1, .slice p2 x.ent.length q2, .slice p3 x.n q3] 26))
  have hR : rtE x = ((!spB x [97, 98, 115] && (isSz x.a && (isSz x.b && isSz x.size))) && true) := by
    rw [rtE, rtF, hW]
    rfl
  have SB : Hid (∀ w', Below w.heap.size w w' → SlcI w' (.slice p1 x.list.length q1) x.list ∧ Slc w' (.slice p2 x.ent.length q2) x.ent) := fun w' hb => ⟨s1.keep (S := fun k => w.heap.size ≤ k) ⟨hb.os, hb.tape, hb.output, hb.size, fun k _ hk => hb.block k (by omega)⟩ (fun y n c e h0 hk => by
      obtain ⟨a, cap, e2, h⟩ := s1
      rw [e2] at e
      injection e with e1 e3 e4
      obtain ⟨z, hz, hb, _⟩ := h 0 x.list[0] (List.getElem?_eq_getElem (by omega))
      rw [e1] at hz
      injection hz with hz
      subst hz
      omega), s2.below hb (Nat.le_refl _)⟩
  rw [hR]
  clear hR s1 s2
  generalize spB x [97, 98, 115] = sb at *
  have j1 := fun w => size17_any x.a w
  have j2 := fun w => size17_any x.b w
  have j3 := fun w => size17_any x.size w
  have j4 := fun w (h : Slc w (.slice p2 x.ent.length q2) x.ent) => texts17_any (.slice p2 x.ent.length q2) x.ent 1 32 4096 hl2 w h
  have j5 := fun w (h : SlcI w (.slice p1 x.list.length q1) x.list) => rises17_any (.slice p1 x.list.length q1) x.list 256 hl1 w h
  have j6 := fun w (h : SlcI w (.slice p1 x.list.length q1) x.list) => rises17_any (.slice p1 x.list.length q1) x.list 64 hl1 w h
  generalize txB x.ent 1 32 4096 = tb at *
  generalize riB x.list 256 = r1 at *
  generalize riB x.list 64 = r2 at *
  generalize isSz x.a = za at *
  generalize isSz x.b = zb at *
  generalize isSz x.size = zs at *
  have i101 : ∀ w, Calls Tryz.prog 68 #[.string ⟨#[97, 98, 115]⟩, .int .u8 101] w fun e w' => e = .returned (.bool false) ∧ w' = w := fun w => has17_any ⟨#[97, 98, 115]⟩ 101 (by decide) w
  have i105 : ∀ w, Calls Tryz.prog 68 #[.string ⟨#[97, 98, 115]⟩, .int .u8 105] w fun e w' => e = .returned (.bool false) ∧ w' = w := fun w => has17_any ⟨#[97, 98, 115]⟩ 105 (by decide) w
  have i104 : ∀ w, Calls Tryz.prog 68 #[.string ⟨#[97, 98, 115]⟩, .int .u8 104] w fun e w' => e = .returned (.bool false) ∧ w' = w := fun w => has17_any ⟨#[97, 98, 115]⟩ 104 (by decide) w
  cases sb
  cases za
  rotate_left
  cases zb
  rotate_left
  cases zs
  rotate_left
  all_goals
    go_enter Tryz.func33, Tryz.ntmps33
    go_wp2_with (first
      | (go_at_call 32; refine (i0 _).mono ?_; rintro e w' ⟨rfl, hw'⟩; rw [hw']; clear hw' w')
      | (go_at_call 64; refine (i1 _).mono ?_; rintro e w1 ⟨rfl, g1⟩; have B1 := hid (bA.out.trans (g1.mono bA.out.size)); obtain ⟨c0, c1, c2, c3, c4, c5, c6⟩ := rq_cells (A := w.heap.size) ((g1.block _ (by rw [size_alloc]; omega)).trans (heap_alloc_new w _)); have R1 := hid ((g1.block _ (show w.heap.size < _ by rw [size_alloc]; omega)).trans (heap_alloc_new w _)); have z1 : w.heap.size < w1.heap.size := (by have := g1.size; rw [size_alloc] at this; omega); clear g1)
      | (go_at_call 65; (first | (with_reducible refine (j1 _).mono ?_) | (with_reducible refine (j2 _).mono ?_) | (with_reducible refine (j3 _).mono ?_)); rintro e w' ⟨rfl, hw'⟩; rw [hw']; clear hw' w')
      | (go_at_call 66; refine (j4 _ (SB.out _ B1.out).2).mono ?_; rintro e w' ⟨rfl, hw'⟩; rw [hw']; clear hw' w')
      | (go_at_call 67; (first | ((with_reducible refine (j5 _ (SB.out _ B1.out).1).mono ?_); rintro e w2 ⟨rfl, g2⟩; have B2 := hid (B1.out.trans (g2.mono B1.out.size)); obtain ⟨c0, c1, c2, c3, c4, c5, c6⟩ := rq_cells ((g2.block _ z1).trans R1.out); have R2 := hid ((g2.block _ z1).trans R1.out); have z2 : w.heap.size < w2.heap.size := (by have := g2.size; omega); clear g2) | ((with_reducible refine (j6 _ (SB.out _ B2.out).1).mono ?_); rintro e w3 ⟨rfl, g3⟩; have B3 := hid (B2.out.trans (g3.mono B2.out.size)); obtain ⟨c0, c1, c2, c3, c4, c5, c6⟩ := rq_cells ((g3.block _ z2).trans R2.out); clear g3)))
      | (go_at_call 68; (first | (with_reducible refine (i101 _).mono ?_) | (with_reducible refine (i105 _).mono ?_) | (with_reducible refine (i104 _).mono ?_)); rintro e w' ⟨rfl, hw'⟩; rw [hw']; clear hw' w'))
    go_ret
    first | exact ⟨rfl, B3.out⟩ | exact ⟨rfl, B1.out⟩
set_option maxRecDepth 100000 in
set_option maxHeartbeats 8000000 in
theorem right17_a (x : Ask) (hW : fw x.kind = [97]) (p1 p2 p3 : Option Addr) (q1 q2 q3 : Nat) (w : World) (s1 : SlcI w (.slice p1 x.list.length q1) x.list) (s2 : Slc w (.slice p2 x.ent.length q2) x.ent) (hl1 : x.list.length ≤ maxLen) (hl2 : x.ent.length ≤ maxLen) :
    Calls Tryz.prog 33 #[.agg #[.int .i64 x.kind, .int .i64 x.a, .int .i64 x.b, .int .i64 x.size, .slice p1 x.list.length q1, .slice p2 x.ent.length q2, .slice p3 x.n q3]] w fun e w' => e = .returned (.bool (rtE x)) ∧ Below w.heap.size w w' := by
  have i0 : ∀ w, Calls Tryz.prog 32 #[.int .i64 x.kind] w fun e w' => e = .returned (.string ⟨#[97]⟩) ∧ w' = w := fun w => by
    have := fields17_any x.kind w
    rw [hW] at this
    exact this
  have i1 := fun w => spare17_a x p1 p2 p3 q1 q2 q3 w
  have bA := hid ((Below.refl w.heap.size w).alloc (Nat.le_refl _) (.cells #[.int .i64 x.kind, .int .i64 x.a, .int .i64 x.b, .int .i64 x.size, .slice p1 x.list.length q1, .slice p2 x.ent.length q2, .slice p3 x.n q3] 26))
  have hR : rtE x = ((!spB x [97] && (isSz x.a && (isSz x.b && isSz x.size))) && true) := by
    rw [rtE, rtF, hW]
    rfl
  have SB : Hid (∀ w', Below w.heap.size w w' → SlcI w' (.slice p1 x.list.length q1) x.list ∧ Slc w' (.slice p2 x.ent.length q2) x.ent) := fun w' hb => ⟨s1.keep (S := fun k => w.heap.size ≤ k) ⟨hb.os, hb.tape, hb.output, hb.size, fun k _ hk => hb.block k (by omega)⟩ (fun y n c e h0 hk => by
      obtain ⟨a, cap, e2, h⟩ := s1
      rw [e2] at e
      injection e with e1 e3 e4
      obtain ⟨z, hz, hb, _⟩ := h 0 x.list[0] (List.getElem?_eq_getElem (by omega))
      rw [e1] at hz
      injection hz with hz
      subst hz
      omega), s2.below hb (Nat.le_refl _)⟩
  rw [hR]
  clear hR s1 s2
  generalize spB x [97] = sb at *
  have j1 := fun w => size17_any x.a w
  have j2 := fun w => size17_any x.b w
  have j3 := fun w => size17_any x.size w
  have j4 := fun w (h : Slc w (.slice p2 x.ent.length q2) x.ent) => texts17_any (.slice p2 x.ent.length q2) x.ent 1 32 4096 hl2 w h
  have j5 := fun w (h : SlcI w (.slice p1 x.list.length q1) x.list) => rises17_any (.slice p1 x.list.length q1) x.list 256 hl1 w h
  have j6 := fun w (h : SlcI w (.slice p1 x.list.length q1) x.list) => rises17_any (.slice p1 x.list.length q1) x.list 64 hl1 w h
  generalize txB x.ent 1 32 4096 = tb at *
  generalize riB x.list 256 = r1 at *
  generalize riB x.list 64 = r2 at *
  generalize isSz x.a = za at *
  generalize isSz x.b = zb at *
  generalize isSz x.size = zs at *
  have i101 : ∀ w, Calls Tryz.prog 68 #[.string ⟨#[97]⟩, .int .u8 101] w fun e w' => e = .returned (.bool false) ∧ w' = w := fun w => has17_any ⟨#[97]⟩ 101 (by decide) w
  have i105 : ∀ w, Calls Tryz.prog 68 #[.string ⟨#[97]⟩, .int .u8 105] w fun e w' => e = .returned (.bool false) ∧ w' = w := fun w => has17_any ⟨#[97]⟩ 105 (by decide) w
  have i104 : ∀ w, Calls Tryz.prog 68 #[.string ⟨#[97]⟩, .int .u8 104] w fun e w' => e = .returned (.bool false) ∧ w' = w := fun w => has17_any ⟨#[97]⟩ 104 (by decide) w
  cases sb
  cases za
  rotate_left
  cases zb
  rotate_left
  cases zs
  rotate_left
  all_goals
    go_enter Tryz.func33, Tryz.ntmps33
    go_wp2_with (first
      | (go_at_call 32; refine (i0 _).mono ?_; rintro e w' ⟨rfl, hw'⟩; rw [hw']; clear hw' w')
      | (go_at_call 64; refine (i1 _).mono ?_; rintro e w1 ⟨rfl, g1⟩; have B1 := hid (bA.out.trans (g1.mono bA.out.size)); obtain ⟨c0, c1, c2, c3, c4, c5, c6⟩ := rq_cells (A := w.heap.size) ((g1.block _ (by rw [size_alloc]; omega)).trans (heap_alloc_new w _)); have R1 := hid ((g1.block _ (show w.heap.size < _ by rw [size_alloc]; omega)).trans (heap_alloc_new w _)); have z1 : w.heap.size < w1.heap.size := (by have := g1.size; rw [size_alloc] at this; omega); clear g1)
      | (go_at_call 65; (first | (with_reducible refine (j1 _).mono ?_) | (with_reducible refine (j2 _).mono ?_) | (with_reducible refine (j3 _).mono ?_)); rintro e w' ⟨rfl, hw'⟩; rw [hw']; clear hw' w')
      | (go_at_call 66; refine (j4 _ (SB.out _ B1.out).2).mono ?_; rintro e w' ⟨rfl, hw'⟩; rw [hw']; clear hw' w')
      | (go_at_call 67; (first | ((with_reducible refine (j5 _ (SB.out _ B1.out).1).mono ?_); rintro e w2 ⟨rfl, g2⟩; have B2 := hid (B1.out.trans (g2.mono B1.out.size)); obtain ⟨c0, c1, c2, c3, c4, c5, c6⟩ := rq_cells ((g2.block _ z1).trans R1.out); have R2 := hid ((g2.block _ z1).trans R1.out); have z2 : w.heap.size < w2.heap.size := (by have := g2.size; omega); clear g2) | ((with_reducible refine (j6 _ (SB.out _ B2.out).1).mono ?_); rintro e w3 ⟨rfl, g3⟩; have B3 := hid (B2.out.trans (g3.mono B2.out.size)); obtain ⟨c0, c1, c2, c3, c4, c5, c6⟩ := rq_cells ((g3.block _ z2).trans R2.out); clear g3)))
      | (go_at_call 68; (first | (with_reducible refine (i101 _).mono ?_) | (with_reducible refine (i105 _).mono ?_) | (with_reducible refine (i104 _).mono ?_)); rintro e w' ⟨rfl, hw'⟩; rw [hw']; clear hw' w'))
    go_ret
    first | exact ⟨rfl, B3.out⟩ | exact ⟨rfl, B1.out⟩
set_option maxRecDepth 100000 in
set_option maxHeartbeats 8000000 in
theorem right17_g (x : Ask) (hW : fw x.kind = [103]) (hn : x.n = 0) (p1 p2 p3 : Option Addr) (q1 q2 q3 : Nat) (w : World) (s1 : SlcI w (.slice p1 x.list.length q1) x.list) (s2 : Slc w (.slice p2 x.ent.length q2) x.ent) (hl1 : x.list.length ≤ maxLen) (hl2 : x.ent.length ≤ maxLen) :
    Calls Tryz.prog 33 #[.agg #[.int .i64 x.kind, .int .i64 x.a, .int .i64 x.b, .int .i64 x.size, .slice p1 x.list.length q1, .slice p2 x.ent.length q2, .slice p3 x.n q3]] w fun e w' => e = .returned (.bool (rtE x)) ∧ Below w.heap.size w w' := by
  have i0 : ∀ w, Calls Tryz.prog 32 #[.int .i64 x.kind] w fun e w' => e = .returned (.string ⟨#[103]⟩) ∧ w' = w := fun w => by
    have := fields17_any x.kind w
    rw [hW] at this
    exact this
  have i1 := fun w => spare17_g x p1 p2 p3 q1 q2 q3 w
  rw [hn]
  simp only [hn] at i1
  have bA := hid ((Below.refl w.heap.size w).alloc (Nat.le_refl _) (.cells #[.int .i64 x.kind, .int .i64 x.a, .int .i64 x.b, .int .i64 x.size, .slice p1 x.list.length q1, .slice p2 x.ent.length q2, .slice p3 0 q3] 26))
  have hR : rtE x = ((!spB x [103] && (isSz x.a && (isSz x.b && isSz x.size))) && false) := by
    rw [rtE, rtF, hW]
    rfl
  have SB : Hid (∀ w', Below w.heap.size w w' → SlcI w' (.slice p1 x.list.length q1) x.list ∧ Slc w' (.slice p2 x.ent.length q2) x.ent) := fun w' hb => ⟨s1.keep (S := fun k => w.heap.size ≤ k) ⟨hb.os, hb.tape, hb.output, hb.size, fun k _ hk => hb.block k (by omega)⟩ (fun y n c e h0 hk => by
      obtain ⟨a, cap, e2, h⟩ := s1
      rw [e2] at e
      injection e with e1 e3 e4
      obtain ⟨z, hz, hb, _⟩ := h 0 x.list[0] (List.getElem?_eq_getElem (by omega))
      rw [e1] at hz
      injection hz with hz
      subst hz
      omega), s2.below hb (Nat.le_refl _)⟩
  rw [hR]
  clear hR s1 s2
  generalize spB x [103] = sb at *
  have j1 := fun w => size17_any x.a w
  have j2 := fun w => size17_any x.b w
  have j3 := fun w => size17_any x.size w
  have j4 := fun w (h : Slc w (.slice p2 x.ent.length q2) x.ent) => texts17_any (.slice p2 x.ent.length q2) x.ent 1 32 4096 hl2 w h
  have j5 := fun w (h : SlcI w (.slice p1 x.list.length q1) x.list) => rises17_any (.slice p1 x.list.length q1) x.list 256 hl1 w h
  have j6 := fun w (h : SlcI w (.slice p1 x.list.length q1) x.list) => rises17_any (.slice p1 x.list.length q1) x.list 64 hl1 w h
  generalize txB x.ent 1 32 4096 = tb at *
  generalize riB x.list 256 = r1 at *
  generalize riB x.list 64 = r2 at *
  generalize isSz x.a = za at *
  generalize isSz x.b = zb at *
  generalize isSz x.size = zs at *
  have i101 : ∀ w, Calls Tryz.prog 68 #[.string ⟨#[103]⟩, .int .u8 101] w fun e w' => e = .returned (.bool false) ∧ w' = w := fun w => has17_any ⟨#[103]⟩ 101 (by decide) w
  have i105 : ∀ w, Calls Tryz.prog 68 #[.string ⟨#[103]⟩, .int .u8 105] w fun e w' => e = .returned (.bool false) ∧ w' = w := fun w => has17_any ⟨#[103]⟩ 105 (by decide) w
  have i104 : ∀ w, Calls Tryz.prog 68 #[.string ⟨#[103]⟩, .int .u8 104] w fun e w' => e = .returned (.bool false) ∧ w' = w := fun w => has17_any ⟨#[103]⟩ 104 (by decide) w
  cases sb
  cases za
  rotate_left
  cases zb
  rotate_left
  cases zs
  rotate_left
  all_goals
    go_enter Tryz.func33, Tryz.ntmps33
    go_wp2_with (first
      | (go_at_call 32; refine (i0 _).mono ?_; rintro e w' ⟨rfl, hw'⟩; rw [hw']; clear hw' w')
      | (go_at_call 64; refine (i1 _).mono ?_; rintro e w1 ⟨rfl, g1⟩; have B1 := hid (bA.out.trans (g1.mono bA.out.size)); obtain ⟨c0, c1, c2, c3, c4, c5, c6⟩ := rq_cells (A := w.heap.size) ((g1.block _ (by rw [size_alloc]; omega)).trans (heap_alloc_new w _)); have R1 := hid ((g1.block _ (show w.heap.size < _ by rw [size_alloc]; omega)).trans (heap_alloc_new w _)); have z1 : w.heap.size < w1.heap.size := (by have := g1.size; rw [size_alloc] at this; omega); clear g1)
      | (go_at_call 65; (first | (with_reducible refine (j1 _).mono ?_) | (with_reducible refine (j2 _).mono ?_) | (with_reducible refine (j3 _).mono ?_)); rintro e w' ⟨rfl, hw'⟩; rw [hw']; clear hw' w')
      | (go_at_call 66; refine (j4 _ (SB.out _ B1.out).2).mono ?_; rintro e w' ⟨rfl, hw'⟩; rw [hw']; clear hw' w')
      | (go_at_call 67; (first | ((with_reducible refine (j5 _ (SB.out _ B1.out).1).mono ?_); rintro e w2 ⟨rfl, g2⟩; have B2 := hid (B1.out.trans (g2.mono B1.out.size)); obtain ⟨c0, c1, c2, c3, c4, c5, c6⟩ := rq_cells ((g2.block _ z1).trans R1.out); have R2 := hid ((g2.block _ z1).trans R1.out); have z2 : w.heap.size < w2.heap.size := (by have := g2.size; omega); clear g2) | ((with_reducible refine (j6 _ (SB.out _ B2.out).1).mono ?_); rintro e w3 ⟨rfl, g3⟩; have B3 := hid (B2.out.trans (g3.mono B2.out.size)); obtain ⟨c0, c1, c2, c3, c4, c5, c6⟩ := rq_cells ((g3.block _ z2).trans R2.out); clear g3)))
      | (go_at_call 68; (first | (with_reducible refine (i101 _).mono ?_) | (with_reducible refine (i105 _).mono ?_) | (with_reducible refine (i104 _).mono ?_)); rintro e w' ⟨rfl, hw'⟩; rw [hw']; clear hw' w'))
    go_ret
    first | exact ⟨rfl, B3.out⟩ | exact ⟨rfl, B1.out⟩
end Msg
end Go.Proofs.YtmhgdcfmfcjagaaGreatDoor

namespace Go.Proofs.YtmhgdcfmfcjagaaGreatDoor
open Go.RowKit Cod
namespace Msg

/-- the j-th element behind y reads as the request x -/
def Elr (w : World) (hi : Nat) (y : Addr) (j : Nat) (x : Ask) : Prop :=
  ∃ ul ue ua, w.cell? (y.add (j * 7)) = some (.int .i64 x.kind) ∧ w.cell? (y.add (j * 7 + 1)) = some (.int .i64 x.a) ∧ w.cell? (y.add (j * 7 + 2)) = some (.int .i64 x.b) ∧ w.cell? (y.add (j * 7 + 3)) = some (.int .i64 x.size) ∧
    w.cell? (y.add (j * 7 + 4)) = some ul ∧ w.cell? (y.add (j * 7 + 5)) = some ue ∧ w.cell? (y.add (j * 7 + 6)) = some ua ∧ Lw hi ul ∧ Lw hi ue ∧ SlcI w ul x.list ∧ Slc w ue x.ent ∧ ∃ p q, ua = .slice p x.n q
/-- a list of requests, wherever it lies -/
def Aq (w : World) (hi : Nat) (u : Value) (l : List Ask) : Prop :=
  ∃ (a : Option Addr) (cap : Nat), u = .slice a l.length cap ∧ ∀ j x, l[j]? = some x → ∃ y : Addr, a = some y ∧ y.block < hi ∧ Elr w hi y j x
theorem Lw.monoA {hi hi' : Nat} {u : Value} (h : Lw hi u) (hb : hi ≤ hi') : Lw hi' u := fun x n c e h0 => Nat.lt_of_lt_of_le (h x n c e h0) hb
theorem Elr.bl {w w' : World} {hi j : Nat} {y : Addr} {x : Ask} (h : Elr w hi y j x) (hy : y.block < hi) (hb : Below hi w w') : Elr w' hi y j x := by
  obtain ⟨ul, ue, ua, c0, c1, c2, c3, c4, c5, c6, n1, n2, s1, s2, s3⟩ := h
  have key : ∀ (o : Nat) z, w.cell? (y.add o) = some z → w'.cell? (y.add o) = some z := fun o z e => (hb.cell (p := y.add o) (by rw [add_block]; exact hy)).trans e
  exact ⟨ul, ue, ua, key _ _ c0, key _ _ c1, key _ _ c2, key _ _ c3, key _ _ c4, key _ _ c5, key _ _ c6, n1, n2, n1.slcI s1 hb, n2.slc s2 hb, s3⟩
theorem Aq.bl {w w' : World} {hi : Nat} {u : Value} {l : List Ask} (h : Aq w hi u l) (hb : Below hi w w') : Aq w' hi u l := by
  obtain ⟨a, cap, rfl, h⟩ := h
  refine ⟨a, cap, rfl, fun j x hx => ?_⟩
  obtain ⟨y, e, hy, he⟩ := h j x hx
  exact ⟨y, e, hy, he.bl hy hb⟩
theorem Aq.mono {w : World} {hi hi' : Nat} {u : Value} {l : List Ask} (h : Aq w hi u l) (hb : hi ≤ hi') : Aq w hi' u l := by
  obtain ⟨a, cap, rfl, h⟩ := h
  refine ⟨a, cap, rfl, fun j x hx => ?_⟩
  obtain ⟨y, e, hy, ul, ue, ua, c0, c1, c2, c3, c4, c5, c6, n1, n2, s⟩ := h j x hx
  exact ⟨y, e, by omega, ul, ue, ua, c0, c1, c2, c3, c4, c5, c6, n1.monoA hb, n2.monoA hb, s⟩
theorem Aq.shape {w : World} {hi : Nat} {u : Value} {l : List Ask} (h : Aq w hi u l) : ∃ p q, u = .slice p l.length q := by
  obtain ⟨a, cap, e, _⟩ := h
  exact ⟨a, cap, e⟩
end Msg
end Go.Proofs.YtmhgdcfmfcjagaaGreatDoor

namespace Go.Proofs.YtmhgdcfmfcjagaaGreatDoor
open Go.RowKit Cod
namespace Msg

theorem fw_cases (k : Int) : fw k = [] ∨ fw k = [101] ∨ fw k = [45] ∨ fw k = [115] ∨ fw k = [97, 115] ∨ fw k = [115, 105] ∨ fw k = [104] ∨ fw k = [97, 98, 115] ∨ fw k = [97] ∨ fw k = [103] := by
  unfold fw
  repeat' split
  all_goals simp
theorem right17_leaf (x : Ask) (hg : fw x.kind = [103] → x.n = 0) (p1 p2 p3 : Option Addr) (q1 q2 q3 : Nat) (w : World) (s1 : SlcI w (.slice p1 x.list.length q1) x.list) (s2 : Slc w (.slice p2 x.ent.length q2) x.ent) (hl1 : x.list.length ≤ maxLen) (hl2 : x.ent.length ≤ maxLen) :
    Calls Tryz.prog 33 #[.agg #[.int .i64 x.kind, .int .i64 x.a, .int .i64 x.b, .int .i64 x.size, .slice p1 x.list.length q1, .slice p2 x.ent.length q2, .slice p3 x.n q3]] w fun e w' => e = .returned (.bool (rtE x)) ∧ Below w.heap.size w w' := by
  rcases fw_cases x.kind with h | h | h | h | h | h | h | h | h | h
  · exact right17_E x h p1 p2 p3 q1 q2 q3 w s1 s2 hl1 hl2
  · exact right17_e x h p1 p2 p3 q1 q2 q3 w s1 s2 hl1 hl2
  · exact right17_m x h p1 p2 p3 q1 q2 q3 w s1 s2 hl1 hl2
  · exact right17_s x h p1 p2 p3 q1 q2 q3 w s1 s2 hl1 hl2
  · exact right17_as x h p1 p2 p3 q1 q2 q3 w s1 s2 hl1 hl2
  · exact right17_si x h p1 p2 p3 q1 q2 q3 w s1 s2 hl1 hl2
  · exact right17_h x h p1 p2 p3 q1 q2 q3 w s1 s2 hl1 hl2
  · exact right17_abs x h p1 p2 p3 q1 q2 q3 w s1 s2 hl1 hl2
  · exact right17_a x h p1 p2 p3 q1 q2 q3 w s1 s2 hl1 hl2
  · exact right17_g x h (hg h) p1 p2 p3 q1 q2 q3 w s1 s2 hl1 hl2
/-- may what a group asks be? -/
def rtA (l : List Ask) : Bool := l.all fun y => rtE y && decide (3 ≤ y.kind ∧ y.kind ≤ 7)
def rtM (x : Ask) (l : List Ask) : Bool := rtF x && (decide (1 ≤ (l.length : Int) ∧ (l.length : Int) ≤ 64) && rtA l)
theorem rtA_take {l : List Ask} {k : Nat} (hk : k < l.length) (h : rtA (l.take k) = true) (he : rtE l[k] = true) (h1 : 3 ≤ l[k].kind) (h2 : l[k].kind ≤ 7) : rtA (l.take (k + 1)) = true := by
  rw [rtA, List.take_add_one, List.getElem?_eq_getElem hk, List.all_append]
  have h : (l.take k).all (fun y => rtE y && decide (3 ≤ y.kind ∧ y.kind ≤ 7)) = true := h
  rw [h]
  simp [he, h1, h2]
theorem rtA_at {l : List Ask} {k : Nat} (hk : k < l.length) (he : rtE l[k] = false ∨ l[k].kind < 3 ∨ 7 < l[k].kind) : rtA l = false := by
  rw [rtA, List.all_eq_false]
  refine ⟨l[k], List.getElem_mem hk, ?_⟩
  rcases he with h | h | h
  · simp [h]
  · simp; omega
  · simp; omega
theorem SlcI.bl18 {w w' : World} {v : Value} {ps : List Int} (h : SlcI w v ps) (hb : Below w.heap.size w w') : SlcI w' v ps := by
  obtain ⟨a, cap, rfl, h⟩ := h
  refine ⟨a, cap, rfl, fun j p hp => ?_⟩
  obtain ⟨x, rfl, hx, hc⟩ := h j p hp
  exact ⟨x, rfl, Nat.lt_of_lt_of_le hx hb.size, (hb.cell (p := x.add j) (by rw [add_block]; exact hx)).trans hc⟩
set_option maxRecDepth 100000 in
set_option maxHeartbeats 8000000 in
theorem right17_many (x : Ask) (l : List Ask) (hW : fw x.kind = [103]) (hn : x.n = l.length) (hE : ∀ y ∈ l, y.n = 0 ∧ y.list.length ≤ maxLen ∧ y.ent.length ≤ maxLen) (p1 p2 p3 : Option Addr) (q1 q2 q3 : Nat) (w : World) (s1 : SlcI w (.slice p1 x.list.length q1) x.list) (s2 : Slc w (.slice p2 x.ent.length q2) x.ent) (s3 : Aq w w.heap.size (.slice p3 x.n q3) l) (hl1 : x.list.length ≤ maxLen) (hl2 : x.ent.length ≤ maxLen) :
    Calls Tryz.prog 33 #[.agg #[.int .i64 x.kind, .int .i64 x.a, .int .i64 x.b, .int .i64 x.size, .slice p1 x.list.length q1, .slice p2 x.ent.length q2, .slice p3 x.n q3]] w fun e w' => e = .returned (.bool (rtM x l)) ∧ Below w.heap.size w w' := by
  have i0 : ∀ w, Calls Tryz.prog 32 #[.int .i64 x.kind] w fun e w' => e = .returned (.string ⟨#[103]⟩) ∧ w' = w := fun w => by
    have := fields17_any x.kind w
    rw [hW] at this
    exact this
  have i1 := fun w => spare17_g x p1 p2 p3 q1 q2 q3 w
  rw [hn] at s3 ⊢
  simp only [hn] at i1
  have bA := hid ((Below.refl w.heap.size w).alloc (Nat.le_refl _) (.cells #[.int .i64 x.kind, .int .i64 x.a, .int .i64 x.b, .int .i64 x.size, .slice p1 x.list.length q1, .slice p2 x.ent.length q2, .slice p3 l.length q3] 26))
  have hR : rtM x l = ((!spB x [103] && (isSz x.a && (isSz x.b && isSz x.size))) && (decide (1 ≤ (l.length : Int) ∧ (l.length : Int) ≤ 64) && rtA l)) := by
    rw [rtM, rtF, hW]
    rfl
  have SB : Hid (∀ w', Below w.heap.size w w' → SlcI w' (.slice p1 x.list.length q1) x.list ∧ Slc w' (.slice p2 x.ent.length q2) x.ent ∧ Aq w' w.heap.size (.slice p3 l.length q3) l) := fun w' hb => ⟨SlcI.bl18 s1 hb, s2.below hb (Nat.le_refl _), s3.bl hb⟩
  rw [hR]
  clear hR s1 s2 s3
  generalize spB x [103] = sb at *
  have j1 := fun w => size17_any x.a w
  have j2 := fun w => size17_any x.b w
  have j3 := fun w => size17_any x.size w
  have j4 := fun w (h : Slc w (.slice p2 x.ent.length q2) x.ent) => texts17_any (.slice p2 x.ent.length q2) x.ent 1 32 4096 hl2 w h
  have j5 := fun w (h : SlcI w (.slice p1 x.list.length q1) x.list) => rises17_any (.slice p1 x.list.length q1) x.list 256 hl1 w h
  have j6 := fun w (h : SlcI w (.slice p1 x.list.length q1) x.list) => rises17_any (.slice p1 x.list.length q1) x.list 64 hl1 w h
  generalize txB x.ent 1 32 4096 = tb at *
  generalize riB x.list 256 = r1 at *
  generalize riB x.list 64 = r2 at *
  generalize isSz x.a = za at *
  generalize isSz x.b = zb at *
  generalize isSz x.size = zs at *
  have i101 : ∀ w, Calls Tryz.prog 68 #[.string ⟨#[103]⟩, .int .u8 101] w fun e w' => e = .returned (.bool false) ∧ w' = w := fun w => has17_any ⟨#[103]⟩ 101 (by decide) w
  have i105 : ∀ w, Calls Tryz.prog 68 #[.string ⟨#[103]⟩, .int .u8 105] w fun e w' => e = .returned (.bool false) ∧ w' = w := fun w => has17_any ⟨#[103]⟩ 105 (by decide) w
  have i104 : ∀ w, Calls Tryz.prog 68 #[.string ⟨#[103]⟩, .int .u8 104] w fun e w' => e = .returned (.bool false) ∧ w' = w := fun w => has17_any ⟨#[103]⟩ 104 (by decide) w
  cases sb with
  | true =>
    go_enter Tryz.func33, Tryz.ntmps33
    go_wp2_with (first
      | (go_at_call 32; refine (i0 _).mono ?_; rintro e w' ⟨rfl, hw'⟩; rw [hw']; clear hw' w')
      | (go_at_call 64; refine (i1 _).mono ?_; rintro e w1 ⟨rfl, g1⟩; have B1 := hid (bA.out.trans (g1.mono bA.out.size)); obtain ⟨c0, c1, c2, c3, c4, c5, c6⟩ := rq_cells (A := w.heap.size) ((g1.block _ (by rw [size_alloc]; omega)).trans (heap_alloc_new w _)); have R1 := hid ((g1.block _ (show w.heap.size < _ by rw [size_alloc]; omega)).trans (heap_alloc_new w _)); have z1 : w.heap.size < w1.heap.size := (by have := g1.size; rw [size_alloc] at this; omega); clear g1)
      | (go_at_call 65; (first | (with_reducible refine (j1 _).mono ?_) | (with_reducible refine (j2 _).mono ?_) | (with_reducible refine (j3 _).mono ?_)); rintro e w' ⟨rfl, hw'⟩; rw [hw']; clear hw' w')
      | (go_at_call 66; refine (j4 _ (SB.out _ B1.out).2.1).mono ?_; rintro e w' ⟨rfl, hw'⟩; rw [hw']; clear hw' w')
      | (go_at_call 67; (first | ((with_reducible refine (j5 _ (SB.out _ B1.out).1).mono ?_); rintro e w2 ⟨rfl, g2⟩; have B2 := hid (B1.out.trans (g2.mono B1.out.size)); obtain ⟨c0, c1, c2, c3, c4, c5, c6⟩ := rq_cells ((g2.block _ z1).trans R1.out); have R2 := hid ((g2.block _ z1).trans R1.out); have z2 : w.heap.size < w2.heap.size := (by have := g2.size; omega); clear g2) | ((with_reducible refine (j6 _ (SB.out _ B2.out).1).mono ?_); rintro e w3 ⟨rfl, g3⟩; have B3 := hid (B2.out.trans (g3.mono B2.out.size)); obtain ⟨c0, c1, c2, c3, c4, c5, c6⟩ := rq_cells ((g3.block _ z2).trans R2.out); have R3 := hid ((g3.block _ z2).trans R2.out); have z3 : w.heap.size < w3.heap.size := (by have := g3.size; omega); clear g3)))
      | (go_at_call 68; (first | (with_reducible refine (i101 _).mono ?_) | (with_reducible refine (i105 _).mono ?_) | (with_reducible refine (i104 _).mono ?_)); rintro e w' ⟨rfl, hw'⟩; rw [hw']; clear hw' w'))
    go_ret
    first | exact ⟨rfl, B3.out⟩ | exact ⟨rfl, B1.out⟩
  | false =>
    cases za with
    | false =>
      go_enter Tryz.func33, Tryz.ntmps33
      go_wp2_with (first
        | (go_at_call 32; refine (i0 _).mono ?_; rintro e w' ⟨rfl, hw'⟩; rw [hw']; clear hw' w')
        | (go_at_call 64; refine (i1 _).mono ?_; rintro e w1 ⟨rfl, g1⟩; have B1 := hid (bA.out.trans (g1.mono bA.out.size)); obtain ⟨c0, c1, c2, c3, c4, c5, c6⟩ := rq_cells (A := w.heap.size) ((g1.block _ (by rw [size_alloc]; omega)).trans (heap_alloc_new w _)); have R1 := hid ((g1.block _ (show w.heap.size < _ by rw [size_alloc]; omega)).trans (heap_alloc_new w _)); have z1 : w.heap.size < w1.heap.size := (by have := g1.size; rw [size_alloc] at this; omega); clear g1)
        | (go_at_call 65; (first | (with_reducible refine (j1 _).mono ?_) | (with_reducible refine (j2 _).mono ?_) | (with_reducible refine (j3 _).mono ?_)); rintro e w' ⟨rfl, hw'⟩; rw [hw']; clear hw' w')
        | (go_at_call 66; refine (j4 _ (SB.out _ B1.out).2.1).mono ?_; rintro e w' ⟨rfl, hw'⟩; rw [hw']; clear hw' w')
        | (go_at_call 67; (first | ((with_reducible refine (j5 _ (SB.out _ B1.out).1).mono ?_); rintro e w2 ⟨rfl, g2⟩; have B2 := hid (B1.out.trans (g2.mono B1.out.size)); obtain ⟨c0, c1, c2, c3, c4, c5, c6⟩ := rq_cells ((g2.block _ z1).trans R1.out); have R2 := hid ((g2.block _ z1).trans R1.out); have z2 : w.heap.size < w2.heap.size := (by have := g2.size; omega); clear g2) | ((with_reducible refine (j6 _ (SB.out _ B2.out).1).mono ?_); rintro e w3 ⟨rfl, g3⟩; have B3 := hid (B2.out.trans (g3.mono B2.out.size)); obtain ⟨c0, c1, c2, c3, c4, c5, c6⟩ := rq_cells ((g3.block _ z2).trans R2.out); have R3 := hid ((g3.block _ z2).trans R2.out); have z3 : w.heap.size < w3.heap.size := (by have := g3.size; omega); clear g3)))
        | (go_at_call 68; (first | (with_reducible refine (i101 _).mono ?_) | (with_reducible refine (i105 _).mono ?_) | (with_reducible refine (i104 _).mono ?_)); rintro e w' ⟨rfl, hw'⟩; rw [hw']; clear hw' w'))
      go_ret
      first | exact ⟨rfl, B3.out⟩ | exact ⟨rfl, B1.out⟩
    | true =>
      cases zb with
      | false =>
        go_enter Tryz.func33, Tryz.ntmps33
        go_wp2_with (first
          | (go_at_call 32; refine (i0 _).mono ?_; rintro e w' ⟨rfl, hw'⟩; rw [hw']; clear hw' w')
          | (go_at_call 64; refine (i1 _).mono ?_; rintro e w1 ⟨rfl, g1⟩; have B1 := hid (bA.out.trans (g1.mono bA.out.size)); obtain ⟨c0, c1, c2, c3, c4, c5, c6⟩ := rq_cells (A := w.heap.size) ((g1.block _ (by rw [size_alloc]; omega)).trans (heap_alloc_new w _)); have R1 := hid ((g1.block _ (show w.heap.size < _ by rw [size_alloc]; omega)).trans (heap_alloc_new w _)); have z1 : w.heap.size < w1.heap.size := (by have := g1.size; rw [size_alloc] at this; omega); clear g1)
          | (go_at_call 65; (first | (with_reducible refine (j1 _).mono ?_) | (with_reducible refine (j2 _).mono ?_) | (with_reducible refine (j3 _).mono ?_)); rintro e w' ⟨rfl, hw'⟩; rw [hw']; clear hw' w')
          | (go_at_call 66; refine (j4 _ (SB.out _ B1.out).2.1).mono ?_; rintro e w' ⟨rfl, hw'⟩; rw [hw']; clear hw' w')
          | (go_at_call 67; (first | ((with_reducible refine (j5 _ (SB.out _ B1.out).1).mono ?_); rintro e w2 ⟨rfl, g2⟩; have B2 := hid (B1.out.trans (g2.mono B1.out.size)); obtain ⟨c0, c1, c2, c3, c4, c5, c6⟩ := rq_cells ((g2.block _ z1).trans R1.out); have R2 := hid ((g2.block _ z1).trans R1.out); have z2 : w.heap.size < w2.heap.size := (by have := g2.size; omega); clear g2) | ((with_reducible refine (j6 _ (SB.out _ B2.out).1).mono ?_); rintro e w3 ⟨rfl, g3⟩; have B3 := hid (B2.out.trans (g3.mono B2.out.size)); obtain ⟨c0, c1, c2, c3, c4, c5, c6⟩ := rq_cells ((g3.block _ z2).trans R2.out); have R3 := hid ((g3.block _ z2).trans R2.out); have z3 : w.heap.size < w3.heap.size := (by have := g3.size; omega); clear g3)))
          | (go_at_call 68; (first | (with_reducible refine (i101 _).mono ?_) | (with_reducible refine (i105 _).mono ?_) | (with_reducible refine (i104 _).mono ?_)); rintro e w' ⟨rfl, hw'⟩; rw [hw']; clear hw' w'))
        go_ret
        first | exact ⟨rfl, B3.out⟩ | exact ⟨rfl, B1.out⟩
      | true =>
        cases zs with
        | false =>
          go_enter Tryz.func33, Tryz.ntmps33
          go_wp2_with (first
            | (go_at_call 32; refine (i0 _).mono ?_; rintro e w' ⟨rfl, hw'⟩; rw [hw']; clear hw' w')
            | (go_at_call 64; refine (i1 _).mono ?_; rintro e w1 ⟨rfl, g1⟩; have B1 := hid (bA.out.trans (g1.mono bA.out.size)); obtain ⟨c0, c1, c2, c3, c4, c5, c6⟩ := rq_cells (A := w.heap.size) ((g1.block _ (by rw [size_alloc]; omega)).trans (heap_alloc_new w _)); have R1 := hid ((g1.block _ (show w.heap.size < _ by rw [size_alloc]; omega)).trans (heap_alloc_new w _)); have z1 : w.heap.size < w1.heap.size := (by have := g1.size; rw [size_alloc] at this; omega); clear g1)
            | (go_at_call 65; (first | (with_reducible refine (j1 _).mono ?_) | (with_reducible refine (j2 _).mono ?_) | (with_reducible refine (j3 _).mono ?_)); rintro e w' ⟨rfl, hw'⟩; rw [hw']; clear hw' w')
            | (go_at_call 66; refine (j4 _ (SB.out _ B1.out).2.1).mono ?_; rintro e w' ⟨rfl, hw'⟩; rw [hw']; clear hw' w')
            | (go_at_call 67; (first | ((with_reducible refine (j5 _ (SB.out _ B1.out).1).mono ?_); rintro e w2 ⟨rfl, g2⟩; have B2 := hid (B1.out.trans (g2.mono B1.out.size)); obtain ⟨c0, c1, c2, c3, c4, c5, c6⟩ := rq_cells ((g2.block _ z1).trans R1.out); have R2 := hid ((g2.block _ z1).trans R1.out); have z2 : w.heap.size < w2.heap.size := (by have := g2.size; omega); clear g2) | ((with_reducible refine (j6 _ (SB.out _ B2.out).1).mono ?_); rintro e w3 ⟨rfl, g3⟩; have B3 := hid (B2.out.trans (g3.mono B2.out.size)); obtain ⟨c0, c1, c2, c3, c4, c5, c6⟩ := rq_cells ((g3.block _ z2).trans R2.out); have R3 := hid ((g3.block _ z2).trans R2.out); have z3 : w.heap.size < w3.heap.size := (by have := g3.size; omega); clear g3)))
            | (go_at_call 68; (first | (with_reducible refine (i101 _).mono ?_) | (with_reducible refine (i105 _).mono ?_) | (with_reducible refine (i104 _).mono ?_)); rintro e w' ⟨rfl, hw'⟩; rw [hw']; clear hw' w'))
          go_ret
          first | exact ⟨rfl, B3.out⟩ | exact ⟨rfl, B1.out⟩
        | true =>
          show Calls _ _ _ _ fun e w' => e = .returned (.bool (decide (1 ≤ (l.length : Int) ∧ (l.length : Int) ≤ 64) && rtA l)) ∧ _
          by_cases hlo : (l.length : Int) < 1
          · rw [decide_eq_false (fun h => by omega), Bool.false_and]
            go_enter Tryz.func33, Tryz.ntmps33
            go_wp2_with (first
              | (go_at_call 32; refine (i0 _).mono ?_; rintro e w' ⟨rfl, hw'⟩; rw [hw']; clear hw' w')
              | (go_at_call 64; refine (i1 _).mono ?_; rintro e w1 ⟨rfl, g1⟩; have B1 := hid (bA.out.trans (g1.mono bA.out.size)); obtain ⟨c0, c1, c2, c3, c4, c5, c6⟩ := rq_cells (A := w.heap.size) ((g1.block _ (by rw [size_alloc]; omega)).trans (heap_alloc_new w _)); have R1 := hid ((g1.block _ (show w.heap.size < _ by rw [size_alloc]; omega)).trans (heap_alloc_new w _)); have z1 : w.heap.size < w1.heap.size := (by have := g1.size; rw [size_alloc] at this; omega); clear g1)
              | (go_at_call 65; (first | (with_reducible refine (j1 _).mono ?_) | (with_reducible refine (j2 _).mono ?_) | (with_reducible refine (j3 _).mono ?_)); rintro e w' ⟨rfl, hw'⟩; rw [hw']; clear hw' w')
              | (go_at_call 66; refine (j4 _ (SB.out _ B1.out).2.1).mono ?_; rintro e w' ⟨rfl, hw'⟩; rw [hw']; clear hw' w')
              | (go_at_call 67; (first | ((with_reducible refine (j5 _ (SB.out _ B1.out).1).mono ?_); rintro e w2 ⟨rfl, g2⟩; have B2 := hid (B1.out.trans (g2.mono B1.out.size)); obtain ⟨c0, c1, c2, c3, c4, c5, c6⟩ := rq_cells ((g2.block _ z1).trans R1.out); have R2 := hid ((g2.block _ z1).trans R1.out); have z2 : w.heap.size < w2.heap.size := (by have := g2.size; omega); clear g2) | ((with_reducible refine (j6 _ (SB.out _ B2.out).1).mono ?_); rintro e w3 ⟨rfl, g3⟩; have B3 := hid (B2.out.trans (g3.mono B2.out.size)); obtain ⟨c0, c1, c2, c3, c4, c5, c6⟩ := rq_cells ((g3.block _ z2).trans R2.out); have R3 := hid ((g3.block _ z2).trans R2.out); have z3 : w.heap.size < w3.heap.size := (by have := g3.size; omega); clear g3)))
              | (go_at_call 68; (first | (with_reducible refine (i101 _).mono ?_) | (with_reducible refine (i105 _).mono ?_) | (with_reducible refine (i104 _).mono ?_)); rintro e w' ⟨rfl, hw'⟩; rw [hw']; clear hw' w'))
            go_ret
            first | exact ⟨rfl, B3.out⟩ | exact ⟨rfl, B1.out⟩
          · by_cases hhi : (64 : Int) < (l.length : Int)
            · rw [decide_eq_false (fun h => by omega), Bool.false_and]
              go_enter Tryz.func33, Tryz.ntmps33
              go_wp2_with (first
                | (go_at_call 32; refine (i0 _).mono ?_; rintro e w' ⟨rfl, hw'⟩; rw [hw']; clear hw' w')
                | (go_at_call 64; refine (i1 _).mono ?_; rintro e w1 ⟨rfl, g1⟩; have B1 := hid (bA.out.trans (g1.mono bA.out.size)); obtain ⟨c0, c1, c2, c3, c4, c5, c6⟩ := rq_cells (A := w.heap.size) ((g1.block _ (by rw [size_alloc]; omega)).trans (heap_alloc_new w _)); have R1 := hid ((g1.block _ (show w.heap.size < _ by rw [size_alloc]; omega)).trans (heap_alloc_new w _)); have z1 : w.heap.size < w1.heap.size := (by have := g1.size; rw [size_alloc] at this; omega); clear g1)
                | (go_at_call 65; (first | (with_reducible refine (j1 _).mono ?_) | (with_reducible refine (j2 _).mono ?_) | (with_reducible refine (j3 _).mono ?_)); rintro e w' ⟨rfl, hw'⟩; rw [hw']; clear hw' w')
                | (go_at_call 66; refine (j4 _ (SB.out _ B1.out).2.1).mono ?_; rintro e w' ⟨rfl, hw'⟩; rw [hw']; clear hw' w')
                | (go_at_call 67; (first | ((with_reducible refine (j5 _ (SB.out _ B1.out).1).mono ?_); rintro e w2 ⟨rfl, g2⟩; have B2 := hid (B1.out.trans (g2.mono B1.out.size)); obtain ⟨c0, c1, c2, c3, c4, c5, c6⟩ := rq_cells ((g2.block _ z1).trans R1.out); have R2 := hid ((g2.block _ z1).trans R1.out); have z2 : w.heap.size < w2.heap.size := (by have := g2.size; omega); clear g2) | ((with_reducible refine (j6 _ (SB.out _ B2.out).1).mono ?_); rintro e w3 ⟨rfl, g3⟩; have B3 := hid (B2.out.trans (g3.mono B2.out.size)); obtain ⟨c0, c1, c2, c3, c4, c5, c6⟩ := rq_cells ((g3.block _ z2).trans R2.out); have R3 := hid ((g3.block _ z2).trans R2.out); have z3 : w.heap.size < w3.heap.size := (by have := g3.size; omega); clear g3)))
                | (go_at_call 68; (first | (with_reducible refine (i101 _).mono ?_) | (with_reducible refine (i105 _).mono ?_) | (with_reducible refine (i104 _).mono ?_)); rintro e w' ⟨rfl, hw'⟩; rw [hw']; clear hw' w'))
              go_ret
              first | exact ⟨rfl, B3.out⟩ | exact ⟨rfl, B1.out⟩
            · rw [decide_eq_true ⟨by omega, by omega⟩, Bool.true_and]
              obtain ⟨R, hR⟩ : ∃ R, Hid (rtA l = R) := ⟨_, rfl⟩
              rw [hR.out]
              have HEl := hid hE
              clear hE
              go_enter Tryz.func33, Tryz.ntmps33
              go_wp2_with (first
                | (go_at_call 32; refine (i0 _).mono ?_; rintro e w' ⟨rfl, hw'⟩; rw [hw']; clear hw' w')
                | (go_at_call 64; refine (i1 _).mono ?_; rintro e w1 ⟨rfl, g1⟩; have B1 := hid (bA.out.trans (g1.mono bA.out.size)); obtain ⟨c0, c1, c2, c3, c4, c5, c6⟩ := rq_cells (A := w.heap.size) ((g1.block _ (by rw [size_alloc]; omega)).trans (heap_alloc_new w _)); have R1 := hid ((g1.block _ (show w.heap.size < _ by rw [size_alloc]; omega)).trans (heap_alloc_new w _)); have z1 : w.heap.size < w1.heap.size := (by have := g1.size; rw [size_alloc] at this; omega); clear g1)
                | (go_at_call 65; (first | (with_reducible refine (j1 _).mono ?_) | (with_reducible refine (j2 _).mono ?_) | (with_reducible refine (j3 _).mono ?_)); rintro e w' ⟨rfl, hw'⟩; rw [hw']; clear hw' w')
                | (go_at_call 66; refine (j4 _ (SB.out _ B1.out).2.1).mono ?_; rintro e w' ⟨rfl, hw'⟩; rw [hw']; clear hw' w')
                | (go_at_call 67; (first | ((with_reducible refine (j5 _ (SB.out _ B1.out).1).mono ?_); rintro e w2 ⟨rfl, g2⟩; have B2 := hid (B1.out.trans (g2.mono B1.out.size)); obtain ⟨c0, c1, c2, c3, c4, c5, c6⟩ := rq_cells ((g2.block _ z1).trans R1.out); have R2 := hid ((g2.block _ z1).trans R1.out); have z2 : w.heap.size < w2.heap.size := (by have := g2.size; omega); clear g2) | ((with_reducible refine (j6 _ (SB.out _ B2.out).1).mono ?_); rintro e w3 ⟨rfl, g3⟩; have B3 := hid (B2.out.trans (g3.mono B2.out.size)); obtain ⟨c0, c1, c2, c3, c4, c5, c6⟩ := rq_cells ((g3.block _ z2).trans R2.out); have R3 := hid ((g3.block _ z2).trans R2.out); have z3 : w.heap.size < w3.heap.size := (by have := g3.size; omega); clear g3)))
                | (go_at_call 68; (first | (with_reducible refine (i101 _).mono ?_) | (with_reducible refine (i105 _).mono ?_) | (with_reducible refine (i104 _).mono ?_)); rintro e w' ⟨rfl, hw'⟩; rw [hw']; clear hw' w'))
              clear c0 c1 c2 c3 c4 c5 c6
              go_loopw [11] (fun i w' => ∃ k : Nat, k ≤ l.length ∧ i = .int .i64 k ∧ Hid (rtA (l.take k) = true) ∧ Hid (Below w3.heap.size w3 w')) (fun i _ => l.length - (intOf i).toNat)
              case atStart => exact ⟨0, by omega, rfl, hid rfl, hid (Below.refl _ _)⟩
              case round =>
                obtain ⟨k, hk, rfl, hH, hB⟩ := hrel
                have bw : Below w.heap.size w wr := B3.out.trans (hB.out.mono (by omega))
                obtain ⟨d0, d1, d2, d3, d4, d5, d6⟩ := rq_cells ((hB.out.block _ z3).trans R3.out)
                by_cases hlt : k < l.length
                · have b0 : (k : Int) < (l.length : Int) := by omega
                  obtain ⟨pa, ca, he, a4⟩ := (SB.out wr bw).2.2
                  injection he with he1 he2 he3
                  obtain ⟨y, ey, hy, ul, ue, ua, e0, e1, e2, e3, e4, e5, e6, n1, n2, t1, t2, t3⟩ := a4 k l[k] (List.getElem?_eq_getElem hlt)
                  rw [← he1] at ey
                  subst ey
                  clear he1 he2 he3 a4
                  rw [← Go.Deep.add_add] at e1 e2 e3 e4 e5 e6
                  replace e1 : wr.cell? ⟨(y.add (k * 7)).block, (y.add (k * 7)).off + 1, none⟩ = _ := e1
                  replace e2 : wr.cell? ⟨(y.add (k * 7)).block, (y.add (k * 7)).off + 2, none⟩ = _ := e2
                  replace e3 : wr.cell? ⟨(y.add (k * 7)).block, (y.add (k * 7)).off + 3, none⟩ = _ := e3
                  replace e4 : wr.cell? ⟨(y.add (k * 7)).block, (y.add (k * 7)).off + 4, none⟩ = _ := e4
                  replace e5 : wr.cell? ⟨(y.add (k * 7)).block, (y.add (k * 7)).off + 5, none⟩ = _ := e5
                  replace e6 : wr.cell? ⟨(y.add (k * 7)).block, (y.add (k * 7)).off + 6, none⟩ = _ := e6
                  obtain ⟨g1, g2, g3⟩ := HEl.out l[k] (List.getElem_mem hlt)
                  obtain ⟨pp1, qq1, rfl, _⟩ := id t1
                  obtain ⟨pp2, qq2, rfl, _⟩ := id t2
                  obtain ⟨pp3, qq3, rfl⟩ := t3
                  have i9 := right17_leaf l[k] (fun _ => g1) pp1 pp2 pp3 qq1 qq2 qq3 wr t1 t2 g2 g3
                  have HF := hid (fun h => rtA_at hlt h)
                  have HT := hid (fun h1 h2 h3 => rtA_take hlt hH.out h1 h2 h3)
                  have E0 : Hid (∀ w', Below wr.heap.size wr w' → w'.cell? (y.add (k * 7)) = some (.int .i64 l[k].kind) ∧ w'.cell? ⟨w.heap.size, 6, none⟩ = some (.slice (some y) l.length q3)) := fun w' hb => ⟨(hb.cell (p := y.add (k * 7)) (by rw [add_block]; have := bw.size; omega)).trans e0, (hb.cell (p := ⟨w.heap.size, 6, none⟩) (by show w.heap.size < _; have := hB.out.size; omega)).trans d6⟩
                  generalize l[k] = z at *
                  clear t1 t2 n1 n2 g1 g2 g3 d0 d1 d2 d3 d4 d5
                  cases hz : rtE z with
                  | false =>
                    rw [hz] at i9
                    go_wp2_with (go_at_call 33; refine i9.mono ?_; rintro e w5 ⟨rfl, h5⟩; have B5 := hid (bw.trans (h5.mono bw.size)); clear h5)
                    go_ret
                    exact ⟨by rw [← hR.out, HF.out (.inl hz)]; rfl, B5.out⟩
                  | true =>
                    rw [hz] at i9
                    by_cases hk3 : z.kind < 3
                    · go_wp2_with (go_at_call 33; refine i9.mono ?_; rintro e w5 ⟨rfl, h5⟩; have B5 := hid (bw.trans (h5.mono bw.size)); obtain ⟨f0, f6⟩ := E0.out w5 h5; clear h5)
                      go_ret
                      exact ⟨by rw [← hR.out, HF.out (.inr (.inl hk3))]; rfl, B5.out⟩
                    · by_cases hk7 : 7 < z.kind
                      · go_wp2_with (go_at_call 33; refine i9.mono ?_; rintro e w5 ⟨rfl, h5⟩; have B5 := hid (bw.trans (h5.mono bw.size)); obtain ⟨f0, f6⟩ := E0.out w5 h5; clear h5)
                        go_ret
                        exact ⟨by rw [← hR.out, HF.out (.inr (.inr hk7))]; rfl, B5.out⟩
                      · have HN := hid (HT.out hz (by omega) (by omega))
                        go_wp2_with (go_at_call 33; refine i9.mono ?_; rintro e w5 ⟨rfl, h5⟩; have B5 := hid (hB.out.trans (h5.mono hB.out.size)); obtain ⟨f0, f6⟩ := E0.out w5 h5; clear h5)
                        exact ⟨⟨k + 1, by omega, by go_num, HN, B5⟩, by simp [intOf]; omega⟩
                · have b0 : ¬ (k : Int) < (l.length : Int) := by omega
                  obtain rfl : k = l.length := by omega
                  have HE := hH.out
                  rw [List.take_length] at HE
                  have HE := hid HE
                  go_wp2
                  go_ret
                  exact ⟨by rw [← hR.out, HE.out]; rfl, bw⟩
end Msg
end Go.Proofs.YtmhgdcfmfcjagaaGreatDoor
