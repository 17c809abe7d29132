import Derived.Test.YtmhgdcfmfcjagaaGreatDoorPkMF11
import Derived.Test.YtmhgdcfmfcjagaaGreatDoorPkMVQ
import Derived.Test.YtmhgdcfmfcjagaaGreatDoorPkMN1
import Derived.Test.YtmhgdcfmfcjagaaGreatDoorPkMX2
import Derived.Test.YtmhgdcfmfcjagaaGreatDoorPkMF6
import Derived.Test.YtmhgdcfmfcjagaaGreatDoorPkMF4a
import Derived.Test.YtmhgdcfmfcjagaaGreatDoorPkMF4b
import Derived.Test.YtmhgdcfmfcjagaaGreatDoorPkYW2
namespace Go.Proofs.YtmhgdcfmfcjagaaGreatDoor
open Go.RowKit Cod
namespace Msg
set_option maxRecDepth 100000 in
set_option maxHeartbeats 8000000 in
theorem fine17_abeh (k : Int) (hk : tw k = [97, 98, 101, 104]) (x : Part) (hst : x.status = 0) (hm : mrB x [97, 98, 101, 104] = false) (p1 p2 p3 : Option Addr) (q1 q2 q3 : Nat) (w : World) (s1 : Slc w (.slice p1 x.hs.length q1) x.hs) (s2 : Slc w (.slice p2 x.ent.length q2) x.ent) (hl1 : x.hs.length ≤ maxLen) (hl2 : x.ent.length ≤ maxLen) :
    Calls Tryz.prog 43 #[.int .i64 k, .agg #[.int .i64 x.status, .int .i64 x.size, .int .i64 x.a, .int .i64 x.b, sv x.root, .slice p1 x.hs.length q1, .slice p2 x.ent.length q2, .slice p3 x.n q3]] w fun e w' => e = .returned (.bool (fnB x [97, 98, 101, 104])) ∧ Below w.heap.size w w' := by
  have i0 : ∀ w, Calls Tryz.prog 42 #[.int .i64 k] w fun e w' => e = .returned (.string ⟨#[97, 98, 101, 104]⟩) ∧ w' = w := fun w => by
    have := told17_any k w
    rw [hk] at this
    exact this
  have i1 := fun w => more17_abeh x p1 p2 p3 q1 q2 q3 w hm
  obtain ⟨P, hP⟩ := pstr x.root
  rw [hP.out.1] at i1 ⊢
  have bA := hid ((Below.refl w.heap.size w).alloc (Nat.le_refl _) (.cells #[.int .i64 x.status, .int .i64 x.size, .int .i64 x.a, .int .i64 x.b, .string P, .slice p1 x.hs.length q1, .slice p2 x.ent.length q2, .slice p3 x.n q3] 45))
  have SB : Hid (∀ w', Below w.heap.size w w' → Slc w' (.slice p1 x.hs.length q1) x.hs ∧ Slc w' (.slice p2 x.ent.length q2) x.ent ∧ True) := fun w' hb => ⟨s1.below hb (Nat.le_refl _), s2.below hb (Nat.le_refl _), trivial⟩
  have j1 := fun w => size17_any x.size w
  have j2 := fun w => size17_any x.a w
  have j3 := fun w (h : Slc w (.slice p1 x.hs.length q1) x.hs) => hashes17_any (.slice p1 x.hs.length q1) x.hs hl1 w h
  have j4 := fun w (h : Slc w (.slice p2 x.ent.length q2) x.ent) => texts17_any (.slice p2 x.ent.length q2) x.ent 0 4096 1000 hl2 w h
  have i114 : ∀ w, Calls Tryz.prog 68 #[.string ⟨#[97, 98, 101, 104]⟩, .int .u8 114] w fun e w' => e = .returned (.bool false) ∧ w' = w := fun w => has17_any ⟨#[97, 98, 101, 104]⟩ 114 (by decide) w
  simp [mrB, hasB] at hm
  obtain ⟨hs, hr, hg⟩ := hm
  rw [fnB, show hasB [97, 98, 101, 104] 114 = false from rfl]
  rw [show isSz x.size = true from by rw [hs]; rfl] at j1 ⊢
  have y0 : (x.status == 0) = true := by simp [hst]
  have y1 : ¬ x.status < 0 := by omega
  have y2 : ¬ 8 < x.status := by omega
  clear hs hr hg s1 s2 hst
  generalize isSz x.a = za at *
  generalize hhB x.hs = hb at *
  generalize txB x.ent 0 4096 1000 = tb at *
  cases za with
  | false =>
    go_enter Tryz.func43, Tryz.ntmps43
    go_wp2_with (first
      | (go_at_call 42; refine (i0 _).mono ?_; rintro e w' ⟨rfl, hw'⟩; rw [hw']; clear hw' w')
      | (go_at_call 76; refine (i1 _).mono ?_; rintro e w1 ⟨rfl, g1⟩; have B1 := hid (bA.out.trans (g1.mono bA.out.size)); obtain ⟨c0, c1, c2, c3, c4, c5, c6, c7⟩ := rp_cells (A := w.heap.size) ((g1.block _ (by rw [size_alloc]; omega)).trans (heap_alloc_new w _)); have R1 := hid ((g1.block _ (show w.heap.size < _ by rw [size_alloc]; omega)).trans (heap_alloc_new w _)); have z1 : w.heap.size < w1.heap.size := (by have := g1.size; rw [size_alloc] at this; omega); clear g1)
      | (go_at_call 65; (first | (with_reducible refine (j1 _).mono ?_) | (with_reducible refine (j2 _).mono ?_)); rintro e w' ⟨rfl, hw'⟩; rw [hw']; clear hw' w')
      | (go_at_call 77; refine (j3 _ (SB.out _ B1.out).1).mono ?_; rintro e w' ⟨rfl, hw'⟩; rw [hw']; clear hw' w')
      | (go_at_call 66; refine (j4 _ (SB.out _ B1.out).2.1).mono ?_; rintro e w' ⟨rfl, hw'⟩; rw [hw']; clear hw' w')
      | (go_at_call 68; refine (i114 _).mono ?_; rintro e w' ⟨rfl, hw'⟩; rw [hw']; clear hw' w'))
    go_ret
    exact ⟨rfl, B1.out⟩
  | true =>
    cases hb with
    | false =>
      go_enter Tryz.func43, Tryz.ntmps43
      go_wp2_with (first
        | (go_at_call 42; refine (i0 _).mono ?_; rintro e w' ⟨rfl, hw'⟩; rw [hw']; clear hw' w')
        | (go_at_call 76; refine (i1 _).mono ?_; rintro e w1 ⟨rfl, g1⟩; have B1 := hid (bA.out.trans (g1.mono bA.out.size)); obtain ⟨c0, c1, c2, c3, c4, c5, c6, c7⟩ := rp_cells (A := w.heap.size) ((g1.block _ (by rw [size_alloc]; omega)).trans (heap_alloc_new w _)); have R1 := hid ((g1.block _ (show w.heap.size < _ by rw [size_alloc]; omega)).trans (heap_alloc_new w _)); have z1 : w.heap.size < w1.heap.size := (by have := g1.size; rw [size_alloc] at this; omega); clear g1)
        | (go_at_call 65; (first | (with_reducible refine (j1 _).mono ?_) | (with_reducible refine (j2 _).mono ?_)); rintro e w' ⟨rfl, hw'⟩; rw [hw']; clear hw' w')
        | (go_at_call 77; refine (j3 _ (SB.out _ B1.out).1).mono ?_; rintro e w' ⟨rfl, hw'⟩; rw [hw']; clear hw' w')
        | (go_at_call 66; refine (j4 _ (SB.out _ B1.out).2.1).mono ?_; rintro e w' ⟨rfl, hw'⟩; rw [hw']; clear hw' w')
        | (go_at_call 68; refine (i114 _).mono ?_; rintro e w' ⟨rfl, hw'⟩; rw [hw']; clear hw' w'))
      go_ret
      exact ⟨rfl, B1.out⟩
    | true =>
      cases tb with
      | false =>
        go_enter Tryz.func43, Tryz.ntmps43
        go_wp2_with (first
          | (go_at_call 42; refine (i0 _).mono ?_; rintro e w' ⟨rfl, hw'⟩; rw [hw']; clear hw' w')
          | (go_at_call 76; refine (i1 _).mono ?_; rintro e w1 ⟨rfl, g1⟩; have B1 := hid (bA.out.trans (g1.mono bA.out.size)); obtain ⟨c0, c1, c2, c3, c4, c5, c6, c7⟩ := rp_cells (A := w.heap.size) ((g1.block _ (by rw [size_alloc]; omega)).trans (heap_alloc_new w _)); have R1 := hid ((g1.block _ (show w.heap.size < _ by rw [size_alloc]; omega)).trans (heap_alloc_new w _)); have z1 : w.heap.size < w1.heap.size := (by have := g1.size; rw [size_alloc] at this; omega); clear g1)
          | (go_at_call 65; (first | (with_reducible refine (j1 _).mono ?_) | (with_reducible refine (j2 _).mono ?_)); rintro e w' ⟨rfl, hw'⟩; rw [hw']; clear hw' w')
          | (go_at_call 77; refine (j3 _ (SB.out _ B1.out).1).mono ?_; rintro e w' ⟨rfl, hw'⟩; rw [hw']; clear hw' w')
          | (go_at_call 66; refine (j4 _ (SB.out _ B1.out).2.1).mono ?_; rintro e w' ⟨rfl, hw'⟩; rw [hw']; clear hw' w')
          | (go_at_call 68; refine (i114 _).mono ?_; rintro e w' ⟨rfl, hw'⟩; rw [hw']; clear hw' w'))
        go_ret
        exact ⟨rfl, B1.out⟩
      | true =>
        by_cases b1 : x.b < 0
        · rw [show wi x.b 0 1 = false from decide_eq_false (by omega)]
          go_enter Tryz.func43, Tryz.ntmps43
          go_wp2_with (first
            | (go_at_call 42; refine (i0 _).mono ?_; rintro e w' ⟨rfl, hw'⟩; rw [hw']; clear hw' w')
            | (go_at_call 76; refine (i1 _).mono ?_; rintro e w1 ⟨rfl, g1⟩; have B1 := hid (bA.out.trans (g1.mono bA.out.size)); obtain ⟨c0, c1, c2, c3, c4, c5, c6, c7⟩ := rp_cells (A := w.heap.size) ((g1.block _ (by rw [size_alloc]; omega)).trans (heap_alloc_new w _)); have R1 := hid ((g1.block _ (show w.heap.size < _ by rw [size_alloc]; omega)).trans (heap_alloc_new w _)); have z1 : w.heap.size < w1.heap.size := (by have := g1.size; rw [size_alloc] at this; omega); clear g1)
            | (go_at_call 65; (first | (with_reducible refine (j1 _).mono ?_) | (with_reducible refine (j2 _).mono ?_)); rintro e w' ⟨rfl, hw'⟩; rw [hw']; clear hw' w')
            | (go_at_call 77; refine (j3 _ (SB.out _ B1.out).1).mono ?_; rintro e w' ⟨rfl, hw'⟩; rw [hw']; clear hw' w')
            | (go_at_call 66; refine (j4 _ (SB.out _ B1.out).2.1).mono ?_; rintro e w' ⟨rfl, hw'⟩; rw [hw']; clear hw' w')
            | (go_at_call 68; refine (i114 _).mono ?_; rintro e w' ⟨rfl, hw'⟩; rw [hw']; clear hw' w'))
          go_ret
          exact ⟨rfl, B1.out⟩
        by_cases b2 : 1 < x.b
        · rw [show wi x.b 0 1 = false from decide_eq_false (by omega)]
          go_enter Tryz.func43, Tryz.ntmps43
          go_wp2_with (first
            | (go_at_call 42; refine (i0 _).mono ?_; rintro e w' ⟨rfl, hw'⟩; rw [hw']; clear hw' w')
            | (go_at_call 76; refine (i1 _).mono ?_; rintro e w1 ⟨rfl, g1⟩; have B1 := hid (bA.out.trans (g1.mono bA.out.size)); obtain ⟨c0, c1, c2, c3, c4, c5, c6, c7⟩ := rp_cells (A := w.heap.size) ((g1.block _ (by rw [size_alloc]; omega)).trans (heap_alloc_new w _)); have R1 := hid ((g1.block _ (show w.heap.size < _ by rw [size_alloc]; omega)).trans (heap_alloc_new w _)); have z1 : w.heap.size < w1.heap.size := (by have := g1.size; rw [size_alloc] at this; omega); clear g1)
            | (go_at_call 65; (first | (with_reducible refine (j1 _).mono ?_) | (with_reducible refine (j2 _).mono ?_)); rintro e w' ⟨rfl, hw'⟩; rw [hw']; clear hw' w')
            | (go_at_call 77; refine (j3 _ (SB.out _ B1.out).1).mono ?_; rintro e w' ⟨rfl, hw'⟩; rw [hw']; clear hw' w')
            | (go_at_call 66; refine (j4 _ (SB.out _ B1.out).2.1).mono ?_; rintro e w' ⟨rfl, hw'⟩; rw [hw']; clear hw' w')
            | (go_at_call 68; refine (i114 _).mono ?_; rintro e w' ⟨rfl, hw'⟩; rw [hw']; clear hw' w'))
          go_ret
          exact ⟨rfl, B1.out⟩
        rw [show wi x.b 0 1 = true from decide_eq_true (by omega)]
        go_enter Tryz.func43, Tryz.ntmps43
        go_wp2_with (first
          | (go_at_call 42; refine (i0 _).mono ?_; rintro e w' ⟨rfl, hw'⟩; rw [hw']; clear hw' w')
          | (go_at_call 76; refine (i1 _).mono ?_; rintro e w1 ⟨rfl, g1⟩; have B1 := hid (bA.out.trans (g1.mono bA.out.size)); obtain ⟨c0, c1, c2, c3, c4, c5, c6, c7⟩ := rp_cells (A := w.heap.size) ((g1.block _ (by rw [size_alloc]; omega)).trans (heap_alloc_new w _)); have R1 := hid ((g1.block _ (show w.heap.size < _ by rw [size_alloc]; omega)).trans (heap_alloc_new w _)); have z1 : w.heap.size < w1.heap.size := (by have := g1.size; rw [size_alloc] at this; omega); clear g1)
          | (go_at_call 65; (first | (with_reducible refine (j1 _).mono ?_) | (with_reducible refine (j2 _).mono ?_)); rintro e w' ⟨rfl, hw'⟩; rw [hw']; clear hw' w')
          | (go_at_call 77; refine (j3 _ (SB.out _ B1.out).1).mono ?_; rintro e w' ⟨rfl, hw'⟩; rw [hw']; clear hw' w')
          | (go_at_call 66; refine (j4 _ (SB.out _ B1.out).2.1).mono ?_; rintro e w' ⟨rfl, hw'⟩; rw [hw']; clear hw' w')
          | (go_at_call 68; refine (i114 _).mono ?_; rintro e w' ⟨rfl, hw'⟩; rw [hw']; clear hw' w'))
        go_ret
        exact ⟨rfl, B1.out⟩
end Msg
end Go.Proofs.YtmhgdcfmfcjagaaGreatDoor

namespace Go.Proofs.YtmhgdcfmfcjagaaGreatDoor
open Go.RowKit Cod
namespace Msg
set_option maxRecDepth 100000 in
set_option maxHeartbeats 8000000 in
theorem fine17_g (k : Int) (hk : tw k = [103]) (x : Part) (hst : x.status = 0) (hm : mrB x [103] = false) (p1 p2 p3 : Option Addr) (q1 q2 q3 : Nat) (w : World) (s1 : Slc w (.slice p1 x.hs.length q1) x.hs) (s2 : Slc w (.slice p2 x.ent.length q2) x.ent) (hl1 : x.hs.length ≤ maxLen) (hl2 : x.ent.length ≤ maxLen) (l : List Part) (hn : x.n = l.length) (hE : ∀ y ∈ l, y.hs.length ≤ maxLen ∧ mrB y (pw y) = false) (s3 : Pq w w.heap.size (.slice p3 x.n q3) l) :
    Calls Tryz.prog 43 #[.int .i64 k, .agg #[.int .i64 x.status, .int .i64 x.size, .int .i64 x.a, .int .i64 x.b, sv x.root, .slice p1 x.hs.length q1, .slice p2 x.ent.length q2, .slice p3 x.n q3]] w fun e w' => e = .returned (.bool (wi (l.length : Int) 1 64 && l.all partB)) ∧ Below w.heap.size w w' := by
  have i0 : ∀ w, Calls Tryz.prog 42 #[.int .i64 k] w fun e w' => e = .returned (.string ⟨#[103]⟩) ∧ w' = w := fun w => by
    have := told17_any k w
    rw [hk] at this
    exact this
  have i1 := fun w => more17_g x p1 p2 p3 q1 q2 q3 w hm
  obtain ⟨P, hP⟩ := pstr x.root
  rw [hP.out.1] at i1 ⊢
  rw [hn] at s3 ⊢
  simp only [hn] at i1
  have bA := hid ((Below.refl w.heap.size w).alloc (Nat.le_refl _) (.cells #[.int .i64 x.status, .int .i64 x.size, .int .i64 x.a, .int .i64 x.b, .string P, .slice p1 x.hs.length q1, .slice p2 x.ent.length q2, .slice p3 l.length q3] 45))
  have SB : Hid (∀ w', Below w.heap.size w w' → Slc w' (.slice p1 x.hs.length q1) x.hs ∧ Slc w' (.slice p2 x.ent.length q2) x.ent ∧ Pq w' w.heap.size (.slice p3 l.length q3) l) := fun w' hb => ⟨s1.below hb (Nat.le_refl _), s2.below hb (Nat.le_refl _), s3.bl hb⟩
  have j1 := fun w => size17_any x.size w
  have j2 := fun w => size17_any x.a w
  have j3 := fun w (h : Slc w (.slice p1 x.hs.length q1) x.hs) => hashes17_any (.slice p1 x.hs.length q1) x.hs hl1 w h
  have j4 := fun w (h : Slc w (.slice p2 x.ent.length q2) x.ent) => texts17_any (.slice p2 x.ent.length q2) x.ent 0 4096 1000 hl2 w h
  have i114 : ∀ w, Calls Tryz.prog 68 #[.string ⟨#[103]⟩, .int .u8 114] w fun e w' => e = .returned (.bool false) ∧ w' = w := fun w => has17_any ⟨#[103]⟩ 114 (by decide) w
  simp [mrB, hasB] at hm
  obtain ⟨hs, ha, hb, hr, hh, he⟩ := hm
  rw [show isSz x.size = true from by rw [hs]; rfl] at j1
  rw [show isSz x.a = true from by rw [ha]; rfl] at j2
  rw [show hhB x.hs = true from by rw [hh]; rfl] at j3
  rw [show txB x.ent 0 4096 1000 = true from by rw [he]; rfl] at j4
  have b1 : ¬ x.b < 0 := by omega
  have b2 : ¬ 1 < x.b := by omega
  have y0 : (x.status == 0) = true := by simp [hst]
  have y1 : ¬ x.status < 0 := by omega
  have y2 : ¬ 8 < x.status := by omega
  clear hs ha hb hr hh he s1 s2 hst s3 hn
  by_cases hlo : (l.length : Int) < 1
  · rw [show wi (l.length : Int) 1 64 = false from decide_eq_false (by omega), Bool.false_and]
    go_enter Tryz.func43, Tryz.ntmps43
    go_wp2_with (first
      | (go_at_call 42; refine (i0 _).mono ?_; rintro e w' ⟨rfl, hw'⟩; rw [hw']; clear hw' w')
      | (go_at_call 76; refine (i1 _).mono ?_; rintro e w1 ⟨rfl, g1⟩; have B1 := hid (bA.out.trans (g1.mono bA.out.size)); obtain ⟨c0, c1, c2, c3, c4, c5, c6, c7⟩ := rp_cells (A := w.heap.size) ((g1.block _ (by rw [size_alloc]; omega)).trans (heap_alloc_new w _)); have R1 := hid ((g1.block _ (show w.heap.size < _ by rw [size_alloc]; omega)).trans (heap_alloc_new w _)); have z1 : w.heap.size < w1.heap.size := (by have := g1.size; rw [size_alloc] at this; omega); clear g1)
      | (go_at_call 65; (first | (with_reducible refine (j1 _).mono ?_) | (with_reducible refine (j2 _).mono ?_)); rintro e w' ⟨rfl, hw'⟩; rw [hw']; clear hw' w')
      | (go_at_call 77; refine (j3 _ (SB.out _ B1.out).1).mono ?_; rintro e w' ⟨rfl, hw'⟩; rw [hw']; clear hw' w')
      | (go_at_call 66; refine (j4 _ (SB.out _ B1.out).2.1).mono ?_; rintro e w' ⟨rfl, hw'⟩; rw [hw']; clear hw' w')
      | (go_at_call 68; refine (i114 _).mono ?_; rintro e w' ⟨rfl, hw'⟩; rw [hw']; clear hw' w'))
    go_ret
    exact ⟨rfl, B1.out⟩
  by_cases hhi : (64 : Int) < (l.length : Int)
  · rw [show wi (l.length : Int) 1 64 = false from decide_eq_false (by omega), Bool.false_and]
    go_enter Tryz.func43, Tryz.ntmps43
    go_wp2_with (first
      | (go_at_call 42; refine (i0 _).mono ?_; rintro e w' ⟨rfl, hw'⟩; rw [hw']; clear hw' w')
      | (go_at_call 76; refine (i1 _).mono ?_; rintro e w1 ⟨rfl, g1⟩; have B1 := hid (bA.out.trans (g1.mono bA.out.size)); obtain ⟨c0, c1, c2, c3, c4, c5, c6, c7⟩ := rp_cells (A := w.heap.size) ((g1.block _ (by rw [size_alloc]; omega)).trans (heap_alloc_new w _)); have R1 := hid ((g1.block _ (show w.heap.size < _ by rw [size_alloc]; omega)).trans (heap_alloc_new w _)); have z1 : w.heap.size < w1.heap.size := (by have := g1.size; rw [size_alloc] at this; omega); clear g1)
      | (go_at_call 65; (first | (with_reducible refine (j1 _).mono ?_) | (with_reducible refine (j2 _).mono ?_)); rintro e w' ⟨rfl, hw'⟩; rw [hw']; clear hw' w')
      | (go_at_call 77; refine (j3 _ (SB.out _ B1.out).1).mono ?_; rintro e w' ⟨rfl, hw'⟩; rw [hw']; clear hw' w')
      | (go_at_call 66; refine (j4 _ (SB.out _ B1.out).2.1).mono ?_; rintro e w' ⟨rfl, hw'⟩; rw [hw']; clear hw' w')
      | (go_at_call 68; refine (i114 _).mono ?_; rintro e w' ⟨rfl, hw'⟩; rw [hw']; clear hw' w'))
    go_ret
    exact ⟨rfl, B1.out⟩
  rw [show wi (l.length : Int) 1 64 = true from decide_eq_true (by omega), Bool.true_and]
  obtain ⟨R, hR⟩ : ∃ R, Hid (l.all partB = R) := ⟨_, rfl⟩
  rw [hR.out]
  have HEl := hid hE
  clear hE
  go_enter Tryz.func43, Tryz.ntmps43
  go_wp2_with (first
    | (go_at_call 42; refine (i0 _).mono ?_; rintro e w' ⟨rfl, hw'⟩; rw [hw']; clear hw' w')
    | (go_at_call 76; refine (i1 _).mono ?_; rintro e w1 ⟨rfl, g1⟩; have B1 := hid (bA.out.trans (g1.mono bA.out.size)); obtain ⟨c0, c1, c2, c3, c4, c5, c6, c7⟩ := rp_cells (A := w.heap.size) ((g1.block _ (by rw [size_alloc]; omega)).trans (heap_alloc_new w _)); have R1 := hid ((g1.block _ (show w.heap.size < _ by rw [size_alloc]; omega)).trans (heap_alloc_new w _)); have z1 : w.heap.size < w1.heap.size := (by have := g1.size; rw [size_alloc] at this; omega); clear g1)
    | (go_at_call 65; (first | (with_reducible refine (j1 _).mono ?_) | (with_reducible refine (j2 _).mono ?_)); rintro e w' ⟨rfl, hw'⟩; rw [hw']; clear hw' w')
    | (go_at_call 77; refine (j3 _ (SB.out _ B1.out).1).mono ?_; rintro e w' ⟨rfl, hw'⟩; rw [hw']; clear hw' w')
    | (go_at_call 66; refine (j4 _ (SB.out _ B1.out).2.1).mono ?_; rintro e w' ⟨rfl, hw'⟩; rw [hw']; clear hw' w')
    | (go_at_call 68; refine (i114 _).mono ?_; rintro e w' ⟨rfl, hw'⟩; rw [hw']; clear hw' w'))
  clear c0 c1 c2 c3 c4 c5 c6 c7
  go_loopw [11] (fun i w' => ∃ k : Nat, k ≤ l.length ∧ i = .int .i64 k ∧ Hid ((l.take k).all partB = true) ∧ Hid (Below w1.heap.size w1 w')) (fun i _ => l.length - (intOf i).toNat)
  case atStart => exact ⟨0, by omega, rfl, hid rfl, hid (Below.refl _ _)⟩
  case round =>
    obtain ⟨k, hk, rfl, hH, hB⟩ := hrel
    have bw : Below w.heap.size w wr := B1.out.trans (hB.out.mono (by omega))
    obtain ⟨d0, d1, d2, d3, d4, d5, d6, d7⟩ := rp_cells ((hB.out.block _ z1).trans R1.out)
    by_cases hlt : k < l.length
    · have b0 : (k : Int) < (l.length : Int) := by omega
      obtain ⟨pa, ca, he, a4⟩ := (SB.out wr bw).2.2
      injection he with he1 he2 he3
      obtain ⟨y, ey, hy, ul, ue, ua, e0, e1, e2, e3, e4, e5, e6, e7, n1, n2, t1, t2, t3⟩ := a4 k l[k] (List.getElem?_eq_getElem hlt)
      rw [← he1] at ey
      subst ey
      clear he1 he2 he3 a4
      rw [← Go.Deep.add_add] at e1 e2 e3 e4 e5 e6 e7
      replace e1 : wr.cell? ⟨(y.add (k * 8)).block, (y.add (k * 8)).off + 1, none⟩ = _ := e1
      replace e2 : wr.cell? ⟨(y.add (k * 8)).block, (y.add (k * 8)).off + 2, none⟩ = _ := e2
      replace e3 : wr.cell? ⟨(y.add (k * 8)).block, (y.add (k * 8)).off + 3, none⟩ = _ := e3
      replace e4 : wr.cell? ⟨(y.add (k * 8)).block, (y.add (k * 8)).off + 4, none⟩ = _ := e4
      replace e5 : wr.cell? ⟨(y.add (k * 8)).block, (y.add (k * 8)).off + 5, none⟩ = _ := e5
      replace e6 : wr.cell? ⟨(y.add (k * 8)).block, (y.add (k * 8)).off + 6, none⟩ = _ := e6
      replace e7 : wr.cell? ⟨(y.add (k * 8)).block, (y.add (k * 8)).off + 7, none⟩ = _ := e7
      obtain ⟨g1, g2⟩ := HEl.out l[k] (List.getElem_mem hlt)
      obtain ⟨pp1, qq1, rfl, _⟩ := id t1
      obtain ⟨pp2, qq2, rfl, _⟩ := id t2
      obtain ⟨pp3, qq3, rfl⟩ := t3
      have i9 := part17_any l[k] pp1 pp2 pp3 qq1 qq2 qq3 wr t1 g1 g2
      obtain ⟨PZ, hPZ⟩ := pstr l[k].root
      rw [hPZ.out.1] at i9 e4
      have HF : Hid (partB l[k] = false → l.all partB = false) := fun h => by rw [List.all_eq_false]; exact ⟨l[k], List.getElem_mem hlt, by rw [h]; simp⟩
      have HT : Hid (partB l[k] = true → (l.take (k + 1)).all partB = true) := fun h => by rw [List.take_add_one, List.getElem?_eq_getElem hlt, List.all_append, hH.out]; simp [h]
      generalize l[k] = z at *
      clear t1 t2 n1 n2 g1 g2 d0 d1 d2 d3 d4 d5 d6
      cases hz : partB z with
      | false =>
        rw [hz] at i9
        go_wp2_with (go_at_call 78; refine i9.mono ?_; rintro e w5 ⟨rfl, h5⟩; have B5 := hid (bw.trans (h5.mono bw.size)); clear h5)
        go_ret
        exact ⟨by rw [← hR.out, HF.out hz]; rfl, B5.out⟩
      | true =>
        rw [hz] at i9
        have HN := hid (HT.out hz)
        go_wp2_with (go_at_call 78; refine i9.mono ?_; rintro e w5 ⟨rfl, h5⟩; have B5 := hid (hB.out.trans (h5.mono hB.out.size)); clear h5)
        exact ⟨⟨k + 1, by omega, by go_num, HN, B5⟩, by simp [intOf]; omega⟩
    · have b0 : ¬ (k : Int) < (l.length : Int) := by omega
      obtain rfl : k = l.length := by omega
      have HE := hH.out
      rw [List.take_length] at HE
      have HE := hid HE
      go_wp2
      go_ret
      exact ⟨by rw [← hR.out, HE.out]; rfl, bw⟩
end Msg
end Go.Proofs.YtmhgdcfmfcjagaaGreatDoor

namespace Go.Proofs.YtmhgdcfmfcjagaaGreatDoor
open Go.RowKit Cod
namespace Msg
theorem nz_fr (x : Part) (db : LS → LS) (hd : NzL db) (g : Fr) : NzL (lFr x db g) := by
  cases g with
  | size => exact nz_lif _ _ _
  | a => exact nz_lif _ _ _
  | over => exact nz_lif _ _ _
  | root => exact nz_lif _ _ _
  | hashes => exact nz_lif _ _ _
  | parts => exact hd
  | entries => exact nz_lif _ _ _
theorem nz_frs (x : Part) (db : LS → LS) (hd : NzL db) (fs : List Fr) : NzL (lFrs x db fs) := nz_fold (fun g s => lFr x db g s) (fun g => nz_fr x db hd g) fs
theorem nz_tail (x : Part) (least : Int) (L : LS → LS) (hL : NzL L) (t : Part) : NzL (lTail x least L t) := fun s h f hf => by
  have hm : Nzs (lMark x.status least 8 s) := nz_lif _ _ _ s h
  rw [lTail] at hf
  split at hf
  · exact hL _ hm f hf
  · exact hm f hf
theorem nz_part (x : Part) : NzL (lPart x) := nz_tail x 0 _ ((nz_lif _ _ _).comp (nz_frs x id NzL.id (fmF x))) _
theorem nz_parts (l : List Part) : NzL (lParts l) := fun s h f hf => by
  rw [lParts] at hf
  split at hf
  · exact nz_fold (fun x s => lPart x s) (fun x => nz_part x) l _ (nz_lif _ _ _ s h) f hf
  · exact h f hf
theorem nz_reply (K : Int) (x : Part) (l : List Part) : NzL (lReply K x l) := (nz_lif _ _ _).comp (nz_tail x _ _ (nz_frs x (lParts l) (nz_parts l) _) _)
end Msg
end Go.Proofs.YtmhgdcfmfcjagaaGreatDoor

namespace Go.Proofs.YtmhgdcfmfcjagaaGreatDoor
open Go.RowKit Cod
namespace Msg
structure Only (K : Nat) (x : Part) : Prop where
  dn : x.status = 0 → mrB x (tw (K : Int)) = false
  nd : ¬ x.status = 0 → mrB x [45] = false
def docF (K : Nat) (x : Part) (l : List Part) : Bool :=
  wi x.status 0 8 && (if x.status = 0 then (if K = 0 then false else if K = 12 then wi (l.length : Int) 1 64 && l.all partB else fnB x (tw (K : Int))) else true)
theorem fine17_any {K : Nat} (hK : K ≤ 12) (x : Part) (l : List Part) (ho : Only K x) (hf : PFit x) (hn : x.n = l.length) (hE : ∀ y ∈ l, y.hs.length ≤ maxLen ∧ mrB y (pw y) = false) (p1 p2 p3 : Option Addr) (q1 q2 q3 : Nat) (w : World) (s1 : Slc w (.slice p1 x.hs.length q1) x.hs) (s2 : Slc w (.slice p2 x.ent.length q2) x.ent) (s3 : Pq w w.heap.size (.slice p3 x.n q3) l) :
    Calls Tryz.prog 43 #[.int .i64 (K : Int), rpV x (.slice p1 x.hs.length q1) (.slice p2 x.ent.length q2) (.slice p3 x.n q3)] w fun e w' => e = .returned (.bool (docF K x l)) ∧ Below w.heap.size w w' := by
  rw [rpV, docF]
  cases hs : wi x.status 0 8 with
  | false => exact fine17_out K x hs p1 p2 p3 q1 q2 q3 w
  | true =>
    rw [Bool.true_and]
    have h8 := wi_iff.1 hs
    by_cases h0 : x.status = 0
    · rw [if_pos h0]
      have hm := ho.dn h0
      by_cases hz : K = 0
      · rw [if_pos hz]
        subst hz
        exact fine17_zero _ rfl x h0 p1 p2 p3 q1 q2 q3 w
      · rw [if_neg hz]
        by_cases h12 : K = 12
        · rw [if_pos h12]
          subst h12
          exact fine17_g _ rfl x h0 hm p1 p2 p3 q1 q2 q3 w s1 s2 hf.hl hf.el l hn hE s3
        · rw [if_neg h12]
          match K, hK, hz, h12, hm with
          | 1, _, _, _, hm => exact fine17_sar _ rfl x h0 hm p1 p2 p3 q1 q2 q3 w s1 s2 hf.hl hf.el
          | 2, _, _, _, hm => exact fine17_sr _ rfl x h0 hm p1 p2 p3 q1 q2 q3 w s1 s2 hf.hl hf.el
          | 3, _, _, _, hm => exact fine17_r _ rfl x h0 hm p1 p2 p3 q1 q2 q3 w s1 s2 hf.hl hf.el
          | 4, _, _, _, hm => exact fine17_h _ rfl x h0 hm p1 p2 p3 q1 q2 q3 w s1 s2 hf.hl hf.el
          | 5, _, _, _, hm => exact fine17_h _ rfl x h0 hm p1 p2 p3 q1 q2 q3 w s1 s2 hf.hl hf.el
          | 6, _, _, _, hm => exact fine17_h _ rfl x h0 hm p1 p2 p3 q1 q2 q3 w s1 s2 hf.hl hf.el
          | 7, _, _, _, hm => exact fine17_h _ rfl x h0 hm p1 p2 p3 q1 q2 q3 w s1 s2 hf.hl hf.el
          | 8, _, _, _, hm => exact fine17_eh _ rfl x h0 hm p1 p2 p3 q1 q2 q3 w s1 s2 hf.hl hf.el
          | 9, _, _, _, hm => exact fine17_a _ rfl x h0 hm p1 p2 p3 q1 q2 q3 w s1 s2 hf.hl hf.el
          | 10, _, _, _, hm => exact fine17_abeh _ rfl x h0 hm p1 p2 p3 q1 q2 q3 w s1 s2 hf.hl hf.el
          | 11, _, _, _, hm => exact fine17_m _ rfl x h0 hm p1 p2 p3 q1 q2 q3 w s1 s2 hf.hl hf.el
          | n + 12, hK, _, h12, _ => omega
    · rw [if_neg h0]
      exact fine17_not _ x ⟨by omega, h8.2⟩ (ho.nd h0) p1 p2 p3 q1 q2 q3 w s1 s2 hf.hl hf.el
theorem tail_iff {x : Part} {least : Int} {L : LS → LS} {t : Part} {S : List UInt8} (h0 : 0 ≤ least) (hw : x.status = 0 → wholeP x t = true) (hw2 : ¬ x.status = 0 → wholeP x (Part.of x.status) = true) :
    (∃ out, lTail x least L t (.ok S, false) = (.ok out, false)) ↔ wi x.status least 8 = true ∧ (x.status = 0 → ∃ out, L (.ok (S ++ [0]), false) = (.ok out, false)) := by
  constructor
  · rintro ⟨out, h⟩
    obtain ⟨h1, h2⟩ := tail_ok h0 h
    refine ⟨h1, fun e => ?_⟩
    rcases h2 with ⟨_, b, _⟩ | ⟨a, _, _⟩
    · exact ⟨out, b⟩
    · exact absurd e a
  · rintro ⟨h1, h2⟩
    have hs := wi_iff.1 h1
    rw [lTail]
    by_cases e : x.status = 0
    · obtain ⟨out, h3⟩ := h2 e
      refine ⟨out, ?_⟩
      have hd : isDn x.status least = true := by rw [isDn, h1, e]; rfl
      have hm : lMark x.status least 8 (.ok S, false) = (.ok (S ++ [0]), false) := by
        rw [mark_eq h1 (by omega) (by omega), e]; rfl
      rw [if_pos hd, hm, h3, hw e]
      rfl
    · refine ⟨S ++ [UInt8.ofNat x.status.toNat], ?_⟩
      have hd : ¬ isDn x.status least = true := fun hd => by
        rw [isDn, Bool.and_eq_true, decide_eq_true_eq] at hd
        exact e hd.2
      rw [if_neg hd, mark_eq h1 (by omega) (by omega), stB, if_pos h1, hw2 e]
      rfl
theorem hh_iff {l : List (List UInt8)} : hhB l = true ↔ hashesErr l 32768 = 0 := by
  rw [hhB, Bool.and_eq_true, decide_eq_true_eq, List.all_eq_true, hashesErr, if_neg (by omega)]
  constructor
  · rintro ⟨h1, h2⟩
    rw [if_neg (by omega), if_pos (fun p hp => by simpa using h2 p hp)]
  · intro h
    by_cases hm : (32768 : Int) < (l.length : Int)
    · rw [if_pos hm] at h; omega
    · rw [if_neg hm] at h
      by_cases ha : ∀ p ∈ l, p.length = 32
      · exact ⟨by omega, fun p hp => by simpa using ha p hp⟩
      · rw [if_neg ha] at h; omega
theorem txR_iff {l : List (List UInt8)} : txB l 0 4096 1000 = true ↔ decide ((0 : Int) ≤ (l.length : Int)) = true ∧ textsErr l 4096 1000 = 0 := by
  rw [txB, Bool.and_eq_true, decide_eq_true_eq, decide_eq_true_eq, List.all_eq_true, textsErr, if_neg (by omega)]
  constructor
  · rintro ⟨⟨h1, h2⟩, h3⟩
    refine ⟨h1, ?_⟩
    rw [if_neg (by omega), if_pos (fun p hp => by simpa using h3 p hp)]
  · rintro ⟨h1, h2⟩
    by_cases hm : (4096 : Int) < (l.length : Int)
    · rw [if_pos hm] at h2; omega
    · rw [if_neg hm] at h2
      by_cases ha : ∀ p ∈ l, (p.length : Int) ≤ 1000
      · exact ⟨⟨h1, by omega⟩, fun p hp => by simpa using ha p hp⟩
      · rw [if_neg ha] at h2; omega
theorem mark01_iff {n : Int} {S : List UInt8} : (∃ out, lMark n 0 1 (.ok S, false) = (.ok out, false)) ↔ wi n 0 1 = true := by
  rw [lMark, lif_iff]
  refine ⟨fun h => h.1, fun h => ⟨h, ?_⟩⟩
  have := wi_iff.1 h
  rw [byteErr, if_neg (by omega)]
def okR (x : Part) : Fr → Bool
  | .size => isSz x.size
  | .a => isSz x.a
  | .over => wi x.b 0 1
  | .root => decide (x.root.length = 32)
  | .hashes => hhB x.hs
  | .entries => txB x.ent 0 4096 1000
  | .parts => true
theorem fr_iff (x : Part) (da : LS → LS) (g : Fr) (hg : g ≠ .parts) {S : List UInt8} : (∃ out, lFr x da g (.ok S, false) = (.ok out, false)) ↔ okR x g = true := by
  cases g with
  | size => exact size_iff
  | a => exact size_iff
  | over => exact mark01_iff
  | root => exact (lif_iff).trans ⟨fun h => h.1, fun h => ⟨h, rfl⟩⟩
  | hashes => exact (lif_iff).trans ⟨fun h => hh_iff.2 h.2, fun h => ⟨rfl, hh_iff.1 h⟩⟩
  | entries => exact (lif_iff).trans txR_iff.symm
  | parts => exact absurd rfl hg
theorem frs_iff (x : Part) (da : LS → LS) (hd : Abs da) : ∀ (fs : List Fr), (∀ g ∈ fs, g ≠ .parts) → ∀ (S : List UInt8), (∃ out, lFrs x da fs (.ok S, false) = (.ok out, false)) ↔ ∀ g ∈ fs, okR x g = true
  | [], _, S => ⟨fun _ g hg => by simp at hg, fun _ => ⟨S, rfl⟩⟩
  | g :: fs, h, S => by
    have ih := frs_iff x da hd fs (fun g hg => h g (by simp [hg]))
    constructor
    · rintro ⟨out, ho⟩ g' hg'
      have ho : lFrs x da fs (lFr x da g (.ok S, false)) = (.ok out, false) := ho
      obtain ⟨m, hm⟩ := (abs_frs x da hd fs).mid ho
      rw [hm] at ho
      rcases List.mem_cons.1 hg' with rfl | hg'
      · exact (fr_iff x da g' (h g' (by simp))).1 ⟨m, hm⟩
      · exact (ih m).1 ⟨out, ho⟩ g' hg'
    · intro ha
      obtain ⟨m, hm⟩ := (fr_iff x da g (h g (by simp)) (S := S)).2 (ha g (by simp))
      obtain ⟨out, ho⟩ := (ih m).2 (fun g' hg' => ha g' (by simp [hg']))
      refine ⟨out, ?_⟩
      show lFrs x da fs (lFr x da g (.ok S, false)) = _
      rw [hm]
      exact ho
theorem zeros {x : Part} (h : mrB x [45] = false) : wholeP x (Part.of x.status) = true := by
  simp [mrB, hasB] at h
  obtain ⟨h1, h2, h3, h4, h5, h6, h7⟩ := h
  simp [wholeP, Part.of, h1, h2, h3, h4, h5, h6, h7]
theorem part_iff {y : Part} (hm : mrB y (pw y) = false) {S : List UInt8} : (∃ out, lPart y (.ok S, false) = (.ok out, false)) ↔ partB y = true := by
  rw [lPart, tail_iff (Int.le_refl 0)]
  · rw [partB, hm, Bool.not_false, Bool.true_and, Bool.and_eq_true]
    refine and_congr Iff.rfl ?_
    by_cases h0 : y.status = 0
    · rw [pw, if_pos h0] at hm
      by_cases hr : y.root = []
      · simp only [fm, fmF, if_pos hr]
        rw [decide_eq_true hr, Bool.true_or, Bool.and_true]
        refine ⟨fun h => ?_, fun h _ => ?_⟩
        · obtain ⟨out, ho⟩ := h h0
          rw [mark_eq (by decide) (by omega) (by omega)] at ho
          exact (frs_iff y id Abs.id [.hashes] (by simp) _).1 ⟨out, ho⟩ .hashes (by simp)
        · rw [mark_eq (by decide) (by omega) (by omega)]
          exact (frs_iff y id Abs.id [.hashes] (by simp) _).2 (fun g hg => by rw [List.mem_singleton.1 hg]; exact h)
      · simp only [fm, fmF, if_neg hr]
        rw [if_neg hr] at hm
        simp [mrB, hasB] at hm
        rw [decide_eq_false hr, Bool.false_or, show hhB y.hs = true from by rw [hm.2.2.2.1]; rfl, Bool.true_and]
        refine ⟨fun h => ?_, fun h _ => ?_⟩
        · obtain ⟨out, ho⟩ := h h0
          rw [mark_eq (by decide) (by omega) (by omega)] at ho
          exact (frs_iff y id Abs.id [.root] (by simp) _).1 ⟨out, ho⟩ .root (by simp)
        · rw [mark_eq (by decide) (by omega) (by omega)]
          exact (frs_iff y id Abs.id [.root] (by simp) _).2 (fun g hg => by rw [List.mem_singleton.1 hg]; exact h)
    · rw [pw, if_neg h0] at hm
      simp [mrB, hasB] at hm
      obtain ⟨h1, h2, h3, h4, h5, h6, h7⟩ := hm
      rw [h4, h5]
      exact ⟨fun _ => rfl, fun _ e => absurd e h0⟩
  · intro h0
    rw [pw, if_pos h0] at hm
    by_cases hr : y.root = []
    · rw [if_pos hr] at hm
      simp [mrB, hasB] at hm
      obtain ⟨h1, h2, h3, h4, h5, h6⟩ := hm
      simp [wholeP, fmF, hr, setRs, setR, Part.of, h0, h1, h2, h3, h5, h6]
    · rw [if_neg hr] at hm
      simp [mrB, hasB] at hm
      obtain ⟨h1, h2, h3, h4, h5, h6⟩ := hm
      simp [wholeP, fmF, hr, setRs, setR, Part.of, h0, h1, h2, h3, h4, h5, h6]
  · intro h0
    rw [pw, if_neg h0] at hm
    exact zeros hm
theorem partsl_iff : ∀ (l : List Part), (∀ y ∈ l, mrB y (pw y) = false) → ∀ (S : List UInt8), (∃ out, l.foldl (fun s x => lPart x s) (.ok S, false) = (.ok out, false)) ↔ l.all partB = true
  | [], _, S => ⟨fun _ => rfl, fun _ => ⟨S, rfl⟩⟩
  | y :: l, h, S => by
    have ih := partsl_iff l (fun z hz => h z (by simp [hz]))
    rw [List.all_cons, Bool.and_eq_true]
    constructor
    · rintro ⟨out, ho⟩
      have ho : l.foldl (fun s x => lPart x s) (lPart y (.ok S, false)) = (.ok out, false) := ho
      obtain ⟨m, hm⟩ := (abs_partsl l).mid ho
      rw [hm] at ho
      exact ⟨(part_iff (h y (by simp))).1 ⟨m, hm⟩, (ih m).1 ⟨out, ho⟩⟩
    · rintro ⟨h1, h2⟩
      obtain ⟨m, hm⟩ := (part_iff (h y (by simp)) (S := S)).2 h1
      obtain ⟨out, ho⟩ := (ih m).2 h2
      refine ⟨out, ?_⟩
      show l.foldl (fun s x => lPart x s) (lPart y (.ok S, false)) = _
      rw [hm]
      exact ho
theorem parts_iff (l : List Part) (h : ∀ y ∈ l, mrB y (pw y) = false) (S : List UInt8) : (∃ out, lParts l (.ok S, false) = (.ok out, false)) ↔ (wi (l.length : Int) 1 64 && l.all partB) = true := by
  rw [Bool.and_eq_true, lParts]
  split
  · rename_i hw
    have hn : lNum (l.length : Int) (.ok S, false) = (.ok (S ++ digs l.length), false) := by
      have := wi_iff.1 hw
      rw [lNum, lif, if_pos rfl, numErr, if_neg (by omega), Int.toNat_natCast]
      rfl
    rw [hn]
    exact (partsl_iff l h _).trans ⟨fun e => ⟨hw, e⟩, fun e => e.2⟩
  · rename_i hw
    refine ⟨fun ⟨out, ho⟩ => ?_, fun e => absurd e.1 hw⟩
    cases (Prod.mk.inj ho).2
theorem fn_iff {K : Nat} (h1 : K ≤ 11) (h0 : K ≠ 0) {x : Part} (hm : mrB x (tw (K : Int)) = false) : fnB x (tw (K : Int)) = true ↔ ∀ g ∈ rflds K, okR x g = true := by
  have z0 := isSz0
  match K, h1, h0, hm with
  | 1, _, _, hm | 2, _, _, hm | 3, _, _, hm | 4, _, _, hm | 5, _, _, hm | 6, _, _, hm | 7, _, _, hm | 9, _, _, hm | 11, _, _, hm =>
    simp [tw, mrB, hasB] at hm
    simp [tw, fnB, hasB, rflds, okR, hm, z0, hhB, txB, wi]
  | 8, _, _, hm =>
    simp [tw, mrB, hasB] at hm
    simp [tw, fnB, hasB, rflds, okR, hm, z0, hhB, txB, wi]
    exact and_comm
  | 10, _, _, hm =>
    simp [tw, mrB, hasB] at hm
    simp [tw, fnB, hasB, rflds, okR, hm, z0, hhB, txB, wi]
    exact fun _ => ⟨fun ⟨a, b, c⟩ => ⟨c, b, a⟩, fun ⟨a, b, c⟩ => ⟨c, b, a⟩⟩
theorem whole_K {K : Nat} (h1 : K ≤ 12) {x : Part} (hst : x.status = 0) (hm : mrB x (tw (K : Int)) = false) (hb : K = 10 → wi x.b 0 1 = true) (hK : K ≠ 0) : wholeP x (setRs x (rflds K) (Part.of 0)) = true := by
  match K, h1, hm, hb, hK with
  | 10, _, hm, hb, _ =>
    have hb := hb rfl
    simp [tw, mrB, hasB] at hm
    simp [wholeP, setRs, setR, rflds, Part.of, hst, hb, hm]
  | 1, _, hm, _, _ | 2, _, hm, _, _ | 3, _, hm, _, _ | 4, _, hm, _, _ | 5, _, hm, _, _ | 6, _, hm, _, _ | 7, _, hm, _, _ | 8, _, hm, _, _ | 9, _, hm, _, _ | 11, _, hm, _, _ | 12, _, hm, _, _ =>
    simp [tw, mrB, hasB] at hm
    simp [wholeP, setRs, setR, rflds, Part.of, hst, hm]
end Msg
end Go.Proofs.YtmhgdcfmfcjagaaGreatDoor
