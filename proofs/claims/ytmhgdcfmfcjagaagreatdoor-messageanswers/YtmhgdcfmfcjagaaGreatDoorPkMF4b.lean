import Derived.Test.YtmhgdcfmfcjagaaGreatDoorPkMF11
namespace Go.Proofs.YtmhgdcfmfcjagaaGreatDoor
open Go.RowKit Cod
namespace Msg
set_option maxRecDepth 100000 in
set_option maxHeartbeats 8000000 in
theorem fine17_sar (k : Int) (hk : tw k = [115, 97, 114]) (x : Part) (hst : x.status = 0) (hm : mrB x [115, 97, 114] = false) (p1 p2 p3 : Option Addr) (q1 q2 q3 : Nat) (w : World) (s1 : Slc w (.slice p1 x.hs.length q1) x.hs) (s2 : Slc w (.slice p2 x.ent.length q2) x.ent) (hl1 : x.hs.length ≤ maxLen) (hl2 : x.ent.length ≤ maxLen) :
    Calls Tryz.prog 43 #[.int .i64 k, .agg #[.int .i64 x.status, .int .i64 x.size, .int .i64 x.a, .int .i64 x.b, sv x.root, .slice p1 x.hs.length q1, .slice p2 x.ent.length q2, .slice p3 x.n q3]] w fun e w' => e = .returned (.bool (fnB x [115, 97, 114])) ∧ Below w.heap.size w w' := by
  have i0 : ∀ w, Calls Tryz.prog 42 #[.int .i64 k] w fun e w' => e = .returned (.string ⟨#[115, 97, 114]⟩) ∧ w' = w := fun w => by
    have := told17_any k w
    rw [hk] at this
    exact this
  have i1 := fun w => more17_sar x p1 p2 p3 q1 q2 q3 w hm
  obtain ⟨P, hP⟩ := pstr x.root
  rw [hP.out.1] at i1 ⊢
  have bA := hid ((Below.refl w.heap.size w).alloc (Nat.le_refl _) (.cells #[.int .i64 x.status, .int .i64 x.size, .int .i64 x.a, .int .i64 x.b, .string P, .slice p1 x.hs.length q1, .slice p2 x.ent.length q2, .slice p3 x.n q3] 45))
  have SB : Hid (∀ w', Below w.heap.size w w' → Slc w' (.slice p1 x.hs.length q1) x.hs ∧ Slc w' (.slice p2 x.ent.length q2) x.ent ∧ True) := fun w' hb => ⟨s1.below hb (Nat.le_refl _), s2.below hb (Nat.le_refl _), trivial⟩
  have j1 := fun w => size17_any x.size w
  have j2 := fun w => size17_any x.a w
  have j3 := fun w (h : Slc w (.slice p1 x.hs.length q1) x.hs) => hashes17_any (.slice p1 x.hs.length q1) x.hs hl1 w h
  have j4 := fun w (h : Slc w (.slice p2 x.ent.length q2) x.ent) => texts17_any (.slice p2 x.ent.length q2) x.ent 0 4096 1000 hl2 w h
  have i114 : ∀ w, Calls Tryz.prog 68 #[.string ⟨#[115, 97, 114]⟩, .int .u8 114] w fun e w' => e = .returned (.bool true) ∧ w' = w := fun w => has17_any ⟨#[115, 97, 114]⟩ 114 (by decide) w
  simp [mrB, hasB] at hm
  obtain ⟨hb, hh, he, hg⟩ := hm
  rw [fnB, show hasB [115, 97, 114] 114 = true from rfl]
  rw [show hhB x.hs = true from by rw [hh]; rfl] at j3 ⊢
  rw [show txB x.ent 0 4096 1000 = true from by rw [he]; rfl] at j4 ⊢
  have b1 : ¬ x.b < 0 := by omega
  have b2 : ¬ 1 < x.b := by omega
  rw [show wi x.b 0 1 = true from by rw [hb]; rfl]
  have y0 : (x.status == 0) = true := by simp [hst]
  have y1 : ¬ x.status < 0 := by omega
  have y2 : ¬ 8 < x.status := by omega
  clear hb hh he hg s1 s2 hst
  generalize isSz x.size = zs at *
  generalize isSz x.a = za at *
  cases zs with
  | false =>
    go_enter Tryz.func43, Tryz.ntmps43
    go_wp2_with (first
      | (go_at_call 42; refine (i0 _).mono ?_; rintro e w' ⟨rfl, hw'⟩; rw [hw']; clear hw' w')
      | (go_at_call 76; refine (i1 _).mono ?_; rintro e w1 ⟨rfl, g1⟩; have B1 := hid (bA.out.trans (g1.mono bA.out.size)); obtain ⟨c0, c1, c2, c3, c4, c5, c6, c7⟩ := rp_cells (A := w.heap.size) ((g1.block _ (by rw [size_alloc]; omega)).trans (heap_alloc_new w _)); have R1 := hid ((g1.block _ (show w.heap.size < _ by rw [size_alloc]; omega)).trans (heap_alloc_new w _)); have z1 : w.heap.size < w1.heap.size := (by have := g1.size; rw [size_alloc] at this; omega); clear g1)
      | (go_at_call 65; (first | (with_reducible refine (j1 _).mono ?_) | (with_reducible refine (j2 _).mono ?_)); rintro e w' ⟨rfl, hw'⟩; rw [hw']; clear hw' w')
      | (go_at_call 77; refine (j3 _ (SB.out _ B1.out).1).mono ?_; rintro e w' ⟨rfl, hw'⟩; rw [hw']; clear hw' w')
      | (go_at_call 66; refine (j4 _ (SB.out _ B1.out).2.1).mono ?_; rintro e w' ⟨rfl, hw'⟩; rw [hw']; clear hw' w')
      | (go_at_call 68; refine (i114 _).mono ?_; rintro e w' ⟨rfl, hw'⟩; rw [hw']; clear hw' w'))
    go_ret
    exact ⟨rfl, B1.out⟩
  | true =>
    cases za with
    | false =>
      go_enter Tryz.func43, Tryz.ntmps43
      go_wp2_with (first
        | (go_at_call 42; refine (i0 _).mono ?_; rintro e w' ⟨rfl, hw'⟩; rw [hw']; clear hw' w')
        | (go_at_call 76; refine (i1 _).mono ?_; rintro e w1 ⟨rfl, g1⟩; have B1 := hid (bA.out.trans (g1.mono bA.out.size)); obtain ⟨c0, c1, c2, c3, c4, c5, c6, c7⟩ := rp_cells (A := w.heap.size) ((g1.block _ (by rw [size_alloc]; omega)).trans (heap_alloc_new w _)); have R1 := hid ((g1.block _ (show w.heap.size < _ by rw [size_alloc]; omega)).trans (heap_alloc_new w _)); have z1 : w.heap.size < w1.heap.size := (by have := g1.size; rw [size_alloc] at this; omega); clear g1)
        | (go_at_call 65; (first | (with_reducible refine (j1 _).mono ?_) | (with_reducible refine (j2 _).mono ?_)); rintro e w' ⟨rfl, hw'⟩; rw [hw']; clear hw' w')
        | (go_at_call 77; refine (j3 _ (SB.out _ B1.out).1).mono ?_; rintro e w' ⟨rfl, hw'⟩; rw [hw']; clear hw' w')
        | (go_at_call 66; refine (j4 _ (SB.out _ B1.out).2.1).mono ?_; rintro e w' ⟨rfl, hw'⟩; rw [hw']; clear hw' w')
        | (go_at_call 68; refine (i114 _).mono ?_; rintro e w' ⟨rfl, hw'⟩; rw [hw']; clear hw' w'))
      go_ret
      exact ⟨rfl, B1.out⟩
    | true =>
      have hz := hP.out.2.2
      by_cases hr : x.root.length = 32
      · have t2 : ((P.size : Int) == 32) = true := by rw [hz]; simp; omega
        have t3 : P.size = 32 := by omega
        have t4 : ((P.size : Int) != 32) = false := by rw [hz]; simp; omega
        rw [decide_eq_true hr]
        clear hz
        go_enter Tryz.func43, Tryz.ntmps43
        go_wp2_with (first
          | (go_at_call 42; refine (i0 _).mono ?_; rintro e w' ⟨rfl, hw'⟩; rw [hw']; clear hw' w')
          | (go_at_call 76; refine (i1 _).mono ?_; rintro e w1 ⟨rfl, g1⟩; have B1 := hid (bA.out.trans (g1.mono bA.out.size)); obtain ⟨c0, c1, c2, c3, c4, c5, c6, c7⟩ := rp_cells (A := w.heap.size) ((g1.block _ (by rw [size_alloc]; omega)).trans (heap_alloc_new w _)); have R1 := hid ((g1.block _ (show w.heap.size < _ by rw [size_alloc]; omega)).trans (heap_alloc_new w _)); have z1 : w.heap.size < w1.heap.size := (by have := g1.size; rw [size_alloc] at this; omega); clear g1)
          | (go_at_call 65; (first | (with_reducible refine (j1 _).mono ?_) | (with_reducible refine (j2 _).mono ?_)); rintro e w' ⟨rfl, hw'⟩; rw [hw']; clear hw' w')
          | (go_at_call 77; refine (j3 _ (SB.out _ B1.out).1).mono ?_; rintro e w' ⟨rfl, hw'⟩; rw [hw']; clear hw' w')
          | (go_at_call 66; refine (j4 _ (SB.out _ B1.out).2.1).mono ?_; rintro e w' ⟨rfl, hw'⟩; rw [hw']; clear hw' w')
          | (go_at_call 68; refine (i114 _).mono ?_; rintro e w' ⟨rfl, hw'⟩; rw [hw']; clear hw' w'))
        go_ret
        exact ⟨rfl, B1.out⟩
      · have t2 : ((P.size : Int) == 32) = false := by rw [hz]; simp; omega
        have t3 : ¬ P.size = 32 := by omega
        have t4 : ((P.size : Int) != 32) = true := by rw [hz]; simp; omega
        rw [decide_eq_false hr]
        clear hz
        go_enter Tryz.func43, Tryz.ntmps43
        go_wp2_with (first
          | (go_at_call 42; refine (i0 _).mono ?_; rintro e w' ⟨rfl, hw'⟩; rw [hw']; clear hw' w')
          | (go_at_call 76; refine (i1 _).mono ?_; rintro e w1 ⟨rfl, g1⟩; have B1 := hid (bA.out.trans (g1.mono bA.out.size)); obtain ⟨c0, c1, c2, c3, c4, c5, c6, c7⟩ := rp_cells (A := w.heap.size) ((g1.block _ (by rw [size_alloc]; omega)).trans (heap_alloc_new w _)); have R1 := hid ((g1.block _ (show w.heap.size < _ by rw [size_alloc]; omega)).trans (heap_alloc_new w _)); have z1 : w.heap.size < w1.heap.size := (by have := g1.size; rw [size_alloc] at this; omega); clear g1)
          | (go_at_call 65; (first | (with_reducible refine (j1 _).mono ?_) | (with_reducible refine (j2 _).mono ?_)); rintro e w' ⟨rfl, hw'⟩; rw [hw']; clear hw' w')
          | (go_at_call 77; refine (j3 _ (SB.out _ B1.out).1).mono ?_; rintro e w' ⟨rfl, hw'⟩; rw [hw']; clear hw' w')
          | (go_at_call 66; refine (j4 _ (SB.out _ B1.out).2.1).mono ?_; rintro e w' ⟨rfl, hw'⟩; rw [hw']; clear hw' w')
          | (go_at_call 68; refine (i114 _).mono ?_; rintro e w' ⟨rfl, hw'⟩; rw [hw']; clear hw' w'))
        go_ret
        exact ⟨rfl, B1.out⟩
set_option maxRecDepth 100000 in
set_option maxHeartbeats 8000000 in
theorem fine17_sr (k : Int) (hk : tw k = [115, 114]) (x : Part) (hst : x.status = 0) (hm : mrB x [115, 114] = false) (p1 p2 p3 : Option Addr) (q1 q2 q3 : Nat) (w : World) (s1 : Slc w (.slice p1 x.hs.length q1) x.hs) (s2 : Slc w (.slice p2 x.ent.length q2) x.ent) (hl1 : x.hs.length ≤ maxLen) (hl2 : x.ent.length ≤ maxLen) :
    Calls Tryz.prog 43 #[.int .i64 k, .agg #[.int .i64 x.status, .int .i64 x.size, .int .i64 x.a, .int .i64 x.b, sv x.root, .slice p1 x.hs.length q1, .slice p2 x.ent.length q2, .slice p3 x.n q3]] w fun e w' => e = .returned (.bool (fnB x [115, 114])) ∧ Below w.heap.size w w' := by
  have i0 : ∀ w, Calls Tryz.prog 42 #[.int .i64 k] w fun e w' => e = .returned (.string ⟨#[115, 114]⟩) ∧ w' = w := fun w => by
    have := told17_any k w
    rw [hk] at this
    exact this
  have i1 := fun w => more17_sr x p1 p2 p3 q1 q2 q3 w hm
  obtain ⟨P, hP⟩ := pstr x.root
  rw [hP.out.1] at i1 ⊢
  have bA := hid ((Below.refl w.heap.size w).alloc (Nat.le_refl _) (.cells #[.int .i64 x.status, .int .i64 x.size, .int .i64 x.a, .int .i64 x.b, .string P, .slice p1 x.hs.length q1, .slice p2 x.ent.length q2, .slice p3 x.n q3] 45))
  have SB : Hid (∀ w', Below w.heap.size w w' → Slc w' (.slice p1 x.hs.length q1) x.hs ∧ Slc w' (.slice p2 x.ent.length q2) x.ent ∧ True) := fun w' hb => ⟨s1.below hb (Nat.le_refl _), s2.below hb (Nat.le_refl _), trivial⟩
  have j1 := fun w => size17_any x.size w
  have j2 := fun w => size17_any x.a w
  have j3 := fun w (h : Slc w (.slice p1 x.hs.length q1) x.hs) => hashes17_any (.slice p1 x.hs.length q1) x.hs hl1 w h
  have j4 := fun w (h : Slc w (.slice p2 x.ent.length q2) x.ent) => texts17_any (.slice p2 x.ent.length q2) x.ent 0 4096 1000 hl2 w h
  have i114 : ∀ w, Calls Tryz.prog 68 #[.string ⟨#[115, 114]⟩, .int .u8 114] w fun e w' => e = .returned (.bool true) ∧ w' = w := fun w => has17_any ⟨#[115, 114]⟩ 114 (by decide) w
  simp [mrB, hasB] at hm
  obtain ⟨ha, hb, hh, he, hg⟩ := hm
  rw [fnB, show hasB [115, 114] 114 = true from rfl]
  rw [show isSz x.a = true from by rw [ha]; rfl] at j2 ⊢
  rw [show hhB x.hs = true from by rw [hh]; rfl] at j3 ⊢
  rw [show txB x.ent 0 4096 1000 = true from by rw [he]; rfl] at j4 ⊢
  have b1 : ¬ x.b < 0 := by omega
  have b2 : ¬ 1 < x.b := by omega
  rw [show wi x.b 0 1 = true from by rw [hb]; rfl]
  have y0 : (x.status == 0) = true := by simp [hst]
  have y1 : ¬ x.status < 0 := by omega
  have y2 : ¬ 8 < x.status := by omega
  clear ha hb hh he hg s1 s2 hst
  generalize isSz x.size = zs at *
  cases zs with
  | false =>
    go_enter Tryz.func43, Tryz.ntmps43
    go_wp2_with (first
      | (go_at_call 42; refine (i0 _).mono ?_; rintro e w' ⟨rfl, hw'⟩; rw [hw']; clear hw' w')
      | (go_at_call 76; refine (i1 _).mono ?_; rintro e w1 ⟨rfl, g1⟩; have B1 := hid (bA.out.trans (g1.mono bA.out.size)); obtain ⟨c0, c1, c2, c3, c4, c5, c6, c7⟩ := rp_cells (A := w.heap.size) ((g1.block _ (by rw [size_alloc]; omega)).trans (heap_alloc_new w _)); have R1 := hid ((g1.block _ (show w.heap.size < _ by rw [size_alloc]; omega)).trans (heap_alloc_new w _)); have z1 : w.heap.size < w1.heap.size := (by have := g1.size; rw [size_alloc] at this; omega); clear g1)
      | (go_at_call 65; (first | (with_reducible refine (j1 _).mono ?_) | (with_reducible refine (j2 _).mono ?_)); rintro e w' ⟨rfl, hw'⟩; rw [hw']; clear hw' w')
      | (go_at_call 77; refine (j3 _ (SB.out _ B1.out).1).mono ?_; rintro e w' ⟨rfl, hw'⟩; rw [hw']; clear hw' w')
      | (go_at_call 66; refine (j4 _ (SB.out _ B1.out).2.1).mono ?_; rintro e w' ⟨rfl, hw'⟩; rw [hw']; clear hw' w')
      | (go_at_call 68; refine (i114 _).mono ?_; rintro e w' ⟨rfl, hw'⟩; rw [hw']; clear hw' w'))
    go_ret
    exact ⟨rfl, B1.out⟩
  | true =>
    have hz := hP.out.2.2
    by_cases hr : x.root.length = 32
    · have t2 : ((P.size : Int) == 32) = true := by rw [hz]; simp; omega
      have t3 : P.size = 32 := by omega
      have t4 : ((P.size : Int) != 32) = false := by rw [hz]; simp; omega
      rw [decide_eq_true hr]
      clear hz
      go_enter Tryz.func43, Tryz.ntmps43
      go_wp2_with (first
        | (go_at_call 42; refine (i0 _).mono ?_; rintro e w' ⟨rfl, hw'⟩; rw [hw']; clear hw' w')
        | (go_at_call 76; refine (i1 _).mono ?_; rintro e w1 ⟨rfl, g1⟩; have B1 := hid (bA.out.trans (g1.mono bA.out.size)); obtain ⟨c0, c1, c2, c3, c4, c5, c6, c7⟩ := rp_cells (A := w.heap.size) ((g1.block _ (by rw [size_alloc]; omega)).trans (heap_alloc_new w _)); have R1 := hid ((g1.block _ (show w.heap.size < _ by rw [size_alloc]; omega)).trans (heap_alloc_new w _)); have z1 : w.heap.size < w1.heap.size := (by have := g1.size; rw [size_alloc] at this; omega); clear g1)
        | (go_at_call 65; (first | (with_reducible refine (j1 _).mono ?_) | (with_reducible refine (j2 _).mono ?_)); rintro e w' ⟨rfl, hw'⟩; rw [hw']; clear hw' w')
        | (go_at_call 77; refine (j3 _ (SB.out _ B1.out).1).mono ?_; rintro e w' ⟨rfl, hw'⟩; rw [hw']; clear hw' w')
        | (go_at_call 66; refine (j4 _ (SB.out _ B1.out).2.1).mono ?_; rintro e w' ⟨rfl, hw'⟩; rw [hw']; clear hw' w')
        | (go_at_call 68; refine (i114 _).mono ?_; rintro e w' ⟨rfl, hw'⟩; rw [hw']; clear hw' w'))
      go_ret
      exact ⟨rfl, B1.out⟩
    · have t2 : ((P.size : Int) == 32) = false := by rw [hz]; simp; omega
      have t3 : ¬ P.size = 32 := by omega
      have t4 : ((P.size : Int) != 32) = true := by rw [hz]; simp; omega
      rw [decide_eq_false hr]
      clear hz
      go_enter Tryz.func43, Tryz.ntmps43
      go_wp2_with (first
        | (go_at_call 42; refine (i0 _).mono ?_; rintro e w' ⟨rfl, hw'⟩; rw [hw']; clear hw' w')
        | (go_at_call 76; refine (i1 _).mono ?_; rintro e w1 ⟨rfl, g1⟩; have B1 := hid (bA.out.trans (g1.mono bA.out.size)); obtain ⟨c0, c1, c2, c3, c4, c5, c6, c7⟩ := rp_cells (A := w.heap.size) ((g1.block _ (by rw [size_alloc]; omega)).trans (heap_alloc_new w _)); have R1 := hid ((g1.block _ (show w.heap.size < _ by rw [size_alloc]; omega)).trans (heap_alloc_new w _)); have z1 : w.heap.size < w1.heap.size := (by have := g1.size; rw [size_alloc] at this; omega); clear g1)
        | (go_at_call 65; (first | (with_reducible refine (j1 _).mono ?_) | (with_reducible refine (j2 _).mono ?_)); rintro e w' ⟨rfl, hw'⟩; rw [hw']; clear hw' w')
        | (go_at_call 77; refine (j3 _ (SB.out _ B1.out).1).mono ?_; rintro e w' ⟨rfl, hw'⟩; rw [hw']; clear hw' w')
        | (go_at_call 66; refine (j4 _ (SB.out _ B1.out).2.1).mono ?_; rintro e w' ⟨rfl, hw'⟩; rw [hw']; clear hw' w')
        | (go_at_call 68; refine (i114 _).mono ?_; rintro e w' ⟨rfl, hw'⟩; rw [hw']; clear hw' w'))
      go_ret
      exact ⟨rfl, B1.out⟩
set_option maxRecDepth 100000 in
set_option maxHeartbeats 8000000 in
theorem fine17_eh (k : Int) (hk : tw k = [101, 104]) (x : Part) (hst : x.status = 0) (hm : mrB x [101, 104] = false) (p1 p2 p3 : Option Addr) (q1 q2 q3 : Nat) (w : World) (s1 : Slc w (.slice p1 x.hs.length q1) x.hs) (s2 : Slc w (.slice p2 x.ent.length q2) x.ent) (hl1 : x.hs.length ≤ maxLen) (hl2 : x.ent.length ≤ maxLen) :
    Calls Tryz.prog 43 #[.int .i64 k, .agg #[.int .i64 x.status, .int .i64 x.size, .int .i64 x.a, .int .i64 x.b, sv x.root, .slice p1 x.hs.length q1, .slice p2 x.ent.length q2, .slice p3 x.n q3]] w fun e w' => e = .returned (.bool (fnB x [101, 104])) ∧ Below w.heap.size w w' := by
  have i0 : ∀ w, Calls Tryz.prog 42 #[.int .i64 k] w fun e w' => e = .returned (.string ⟨#[101, 104]⟩) ∧ w' = w := fun w => by
    have := told17_any k w
    rw [hk] at this
    exact this
  have i1 := fun w => more17_eh x p1 p2 p3 q1 q2 q3 w hm
  obtain ⟨P, hP⟩ := pstr x.root
  rw [hP.out.1] at i1 ⊢
  have bA := hid ((Below.refl w.heap.size w).alloc (Nat.le_refl _) (.cells #[.int .i64 x.status, .int .i64 x.size, .int .i64 x.a, .int .i64 x.b, .string P, .slice p1 x.hs.length q1, .slice p2 x.ent.length q2, .slice p3 x.n q3] 45))
  have SB : Hid (∀ w', Below w.heap.size w w' → Slc w' (.slice p1 x.hs.length q1) x.hs ∧ Slc w' (.slice p2 x.ent.length q2) x.ent ∧ True) := fun w' hb => ⟨s1.below hb (Nat.le_refl _), s2.below hb (Nat.le_refl _), trivial⟩
  have j1 := fun w => size17_any x.size w
  have j2 := fun w => size17_any x.a w
  have j3 := fun w (h : Slc w (.slice p1 x.hs.length q1) x.hs) => hashes17_any (.slice p1 x.hs.length q1) x.hs hl1 w h
  have j4 := fun w (h : Slc w (.slice p2 x.ent.length q2) x.ent) => texts17_any (.slice p2 x.ent.length q2) x.ent 0 4096 1000 hl2 w h
  have i114 : ∀ w, Calls Tryz.prog 68 #[.string ⟨#[101, 104]⟩, .int .u8 114] w fun e w' => e = .returned (.bool false) ∧ w' = w := fun w => has17_any ⟨#[101, 104]⟩ 114 (by decide) w
  simp [mrB, hasB] at hm
  obtain ⟨hs, ha, hb, hr, hg⟩ := hm
  rw [fnB, show hasB [101, 104] 114 = false from rfl]
  rw [show isSz x.size = true from by rw [hs]; rfl] at j1 ⊢
  rw [show isSz x.a = true from by rw [ha]; rfl] at j2 ⊢
  have b1 : ¬ x.b < 0 := by omega
  have b2 : ¬ 1 < x.b := by omega
  rw [show wi x.b 0 1 = true from by rw [hb]; rfl]
  have y0 : (x.status == 0) = true := by simp [hst]
  have y1 : ¬ x.status < 0 := by omega
  have y2 : ¬ 8 < x.status := by omega
  clear hs ha hb hr hg s1 s2 hst
  generalize hhB x.hs = hb at *
  generalize txB x.ent 0 4096 1000 = tb at *
  cases hb with
  | false =>
    go_enter Tryz.func43, Tryz.ntmps43
    go_wp2_with (first
      | (go_at_call 42; refine (i0 _).mono ?_; rintro e w' ⟨rfl, hw'⟩; rw [hw']; clear hw' w')
      | (go_at_call 76; refine (i1 _).mono ?_; rintro e w1 ⟨rfl, g1⟩; have B1 := hid (bA.out.trans (g1.mono bA.out.size)); obtain ⟨c0, c1, c2, c3, c4, c5, c6, c7⟩ := rp_cells (A := w.heap.size) ((g1.block _ (by rw [size_alloc]; omega)).trans (heap_alloc_new w _)); have R1 := hid ((g1.block _ (show w.heap.size < _ by rw [size_alloc]; omega)).trans (heap_alloc_new w _)); have z1 : w.heap.size < w1.heap.size := (by have := g1.size; rw [size_alloc] at this; omega); clear g1)
      | (go_at_call 65; (first | (with_reducible refine (j1 _).mono ?_) | (with_reducible refine (j2 _).mono ?_)); rintro e w' ⟨rfl, hw'⟩; rw [hw']; clear hw' w')
      | (go_at_call 77; refine (j3 _ (SB.out _ B1.out).1).mono ?_; rintro e w' ⟨rfl, hw'⟩; rw [hw']; clear hw' w')
      | (go_at_call 66; refine (j4 _ (SB.out _ B1.out).2.1).mono ?_; rintro e w' ⟨rfl, hw'⟩; rw [hw']; clear hw' w')
      | (go_at_call 68; refine (i114 _).mono ?_; rintro e w' ⟨rfl, hw'⟩; rw [hw']; clear hw' w'))
    go_ret
    exact ⟨rfl, B1.out⟩
  | true =>
    cases tb with
    | false =>
      go_enter Tryz.func43, Tryz.ntmps43
      go_wp2_with (first
        | (go_at_call 42; refine (i0 _).mono ?_; rintro e w' ⟨rfl, hw'⟩; rw [hw']; clear hw' w')
        | (go_at_call 76; refine (i1 _).mono ?_; rintro e w1 ⟨rfl, g1⟩; have B1 := hid (bA.out.trans (g1.mono bA.out.size)); obtain ⟨c0, c1, c2, c3, c4, c5, c6, c7⟩ := rp_cells (A := w.heap.size) ((g1.block _ (by rw [size_alloc]; omega)).trans (heap_alloc_new w _)); have R1 := hid ((g1.block _ (show w.heap.size < _ by rw [size_alloc]; omega)).trans (heap_alloc_new w _)); have z1 : w.heap.size < w1.heap.size := (by have := g1.size; rw [size_alloc] at this; omega); clear g1)
        | (go_at_call 65; (first | (with_reducible refine (j1 _).mono ?_) | (with_reducible refine (j2 _).mono ?_)); rintro e w' ⟨rfl, hw'⟩; rw [hw']; clear hw' w')
        | (go_at_call 77; refine (j3 _ (SB.out _ B1.out).1).mono ?_; rintro e w' ⟨rfl, hw'⟩; rw [hw']; clear hw' w')
        | (go_at_call 66; refine (j4 _ (SB.out _ B1.out).2.1).mono ?_; rintro e w' ⟨rfl, hw'⟩; rw [hw']; clear hw' w')
        | (go_at_call 68; refine (i114 _).mono ?_; rintro e w' ⟨rfl, hw'⟩; rw [hw']; clear hw' w'))
      go_ret
      exact ⟨rfl, B1.out⟩
    | true =>
      go_enter Tryz.func43, Tryz.ntmps43
      go_wp2_with (first
        | (go_at_call 42; refine (i0 _).mono ?_; rintro e w' ⟨rfl, hw'⟩; rw [hw']; clear hw' w')
        | (go_at_call 76; refine (i1 _).mono ?_; rintro e w1 ⟨rfl, g1⟩; have B1 := hid (bA.out.trans (g1.mono bA.out.size)); obtain ⟨c0, c1, c2, c3, c4, c5, c6, c7⟩ := rp_cells (A := w.heap.size) ((g1.block _ (by rw [size_alloc]; omega)).trans (heap_alloc_new w _)); have R1 := hid ((g1.block _ (show w.heap.size < _ by rw [size_alloc]; omega)).trans (heap_alloc_new w _)); have z1 : w.heap.size < w1.heap.size := (by have := g1.size; rw [size_alloc] at this; omega); clear g1)
        | (go_at_call 65; (first | (with_reducible refine (j1 _).mono ?_) | (with_reducible refine (j2 _).mono ?_)); rintro e w' ⟨rfl, hw'⟩; rw [hw']; clear hw' w')
        | (go_at_call 77; refine (j3 _ (SB.out _ B1.out).1).mono ?_; rintro e w' ⟨rfl, hw'⟩; rw [hw']; clear hw' w')
        | (go_at_call 66; refine (j4 _ (SB.out _ B1.out).2.1).mono ?_; rintro e w' ⟨rfl, hw'⟩; rw [hw']; clear hw' w')
        | (go_at_call 68; refine (i114 _).mono ?_; rintro e w' ⟨rfl, hw'⟩; rw [hw']; clear hw' w'))
      go_ret
      exact ⟨rfl, B1.out⟩
end Msg
end Go.Proofs.YtmhgdcfmfcjagaaGreatDoor
