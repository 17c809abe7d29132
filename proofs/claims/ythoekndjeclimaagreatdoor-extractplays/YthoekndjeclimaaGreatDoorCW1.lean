import Derived.Test.YthoekndjeclimaaGreatDoorProg
import Derived.Test.YthoekndjeclimaaGreatDoorCM1
import Derived.WalkKit
import Derived.WalkSpells
import Derived.WalkLawsBesides
import Derived.Deep.RegionHeld3
import Derived.Deep.QuietTactic
import Derived.BigQuiet
import Derived.Deep.MidRow
import Derived.Deep.Light
namespace Go.Proofs.YthoekndjeclimaaGreatDoor
open Go.RowKit

theorem ret_int {k : IntKind} {a b : Int} (h : a = b) : Ending.returned (.int k a) = .returned (.int k b) := by rw [h]

set_option maxHeartbeats 400000 in
theorem rotl_any (x n : Nat) (hx : x < 4294967296) (h1 : 1 ≤ n) (h2 : n ≤ 31) (w : World) :
    Calls Tryz.prog 117 #[.int .u32 (x : Int), .int .i64 (-(n : Int))] w fun e w' => e = .returned (.int .u32 (Sha.ror n x : Nat)) ∧ w' = w := by
  have hm := Sha.mask_walk n h1 h2
  have hr := Sha.ror_walk x n hx
  have HR : Hid _ := hr
  clear hr
  obtain ⟨k, hk⟩ : ∃ k : Nat, k = 32 - n := ⟨_, rfl⟩
  rw [← hk] at hm
  have hk1 : (k : Int) ≤ 32 := by omega
  have hk2 : (0 : Int) ≤ k := by omega
  have Hk : Hid _ := hk
  clear hk
  go_enter Tryz.func117, Tryz.ntmps117
  go_wp2
  go_ret
  refine ⟨ret_int ?_, rfl⟩
  have e := HR.out
  rw [IntKind.wrap_u32'] at e
  rw [← e, Hk.out, show 32 - (32 - n) = n from by omega]

set_option maxHeartbeats 400000 in
theorem ror_any (x : Nat) (n : Int) (hx : x < 4294967296) (h1 : 1 ≤ n) (h2 : n ≤ 31) (w : World) :
    Calls Tryz.prog 116 #[.int .u32 (x : Int), .int .i64 n] w fun e w' => e = .returned (.int .u32 (Sha.ror n.toNat x : Nat)) ∧ w' = w := by
  obtain ⟨n, rfl⟩ := Int.eq_ofNat_of_zero_le (show 0 ≤ n by omega)
  rw [Int.toNat_natCast]
  go_enter Tryz.func116, Tryz.ntmps116
  go_wp2_with (go_at_call 117; refine (rotl_any x n hx (by omega) (by omega) _).mono ?_; rintro e w' ⟨rfl, rfl⟩)
  go_ret
  exact ⟨rfl, rfl⟩
end Go.Proofs.YthoekndjeclimaaGreatDoor

namespace Go.Proofs.YthoekndjeclimaaGreatDoor
open Go.RowKit

/-- bytes and words as values -/
def bv (l : List UInt8) : List Value := l.map fun b => .int .u8 (b.toNat : Int)
def wv (l : List Nat) : List Value := l.map fun n => .int .u32 ((n : Nat) : Int)

theorem bv_cell {bl : List UInt8} {w' : World} {g : Nat} {t : TypeId} (h : w'.heap[g]? = some (.cells (bv bl).toArray t (0, 0))) (j : Nat) (hj : j < bl.length) :
    ∃ x : Nat, Hid (x = (bl.getD j 0).toNat) ∧ x < 256 ∧ w'.cell? ⟨g, j, none⟩ = some (.int .u8 (x : Int)) := by
  refine ⟨_, rfl, UInt8.toNat_lt _, ?_⟩
  rw [cell_of_row w' g j _ t _ h]
  simp [bv, hj]
theorem wv_cell {l : List Nat} {w' : World} {g : Nat} {t : TypeId} (h : w'.heap[g]? = some (.cells (wv l).toArray t (0, 0))) (j : Nat) (hj : j < l.length) :
    w'.cell? ⟨g, j, none⟩ = some (.int .u32 ((l.getD j 0 : Nat) : Int)) := by
  rw [cell_of_row w' g j _ t _ h]
  simp [wv, hj]

theorem wv_set (l : List Nat) (m v : Nat) (h : 0 < m) : (wv (l ++ List.replicate m 0)).toArray.setIfInBounds l.length (.int .u32 (v : Int)) = (wv ((l ++ [v]) ++ List.replicate (m - 1) 0)).toArray := by
  obtain ⟨m, rfl⟩ : ∃ n, m = n + 1 := ⟨m - 1, by omega⟩
  simp [wv, List.replicate_succ]

theorem Below.setRow {B : Nat} {a w : World} (h : Below B a w) {g : Nat} (hg : B ≤ g) (cs : Array Value) : Below B a (w.setRow g cs) :=
  ⟨h.os, h.tape, h.output, by rw [setRow_size]; exact h.size, fun k hk => (setRow_other w g k cs (by omega)).trans (h.block k hk)⟩
theorem wv_one (l : List Nat) : (wv l).toArray.all (·.oneCell') = true := by
  refine all_oneCell_toArray fun v hv => ?_
  simp only [wv, List.mem_map] at hv
  obtain ⟨n, _, rfl⟩ := hv
  rfl
theorem bv_one (l : List UInt8) : (bv l).toArray.all (·.oneCell') = true := by
  refine all_oneCell_toArray fun v hv => ?_
  simp only [bv, List.mem_map] at hv
  obtain ⟨n, _, rfl⟩ := hv
  rfl
theorem val_int {k : IntKind} {a b : Int} (h : a = b) : Value.int k a = .int k b := by rw [h]
theorem addSt_walk (s : Sha.St) (a b c d e f g h : Nat) :
    #[Value.int .u32 (((s.a : Int) + (a : Int)) % 4294967296), Value.int .u32 (((s.b : Int) + (b : Int)) % 4294967296), Value.int .u32 (((s.c : Int) + (c : Int)) % 4294967296), Value.int .u32 (((s.d : Int) + (d : Int)) % 4294967296), Value.int .u32 (((s.e : Int) + (e : Int)) % 4294967296), Value.int .u32 (((s.f : Int) + (f : Int)) % 4294967296), Value.int .u32 (((s.g : Int) + (g : Int)) % 4294967296), Value.int .u32 (((s.h : Int) + (h : Int)) % 4294967296)]
      = (wv (Sha.addSt s ⟨a, b, c, d, e, f, g, h⟩).l).toArray := by
  simp only [Sha.sum_walk']; rfl
theorem heap_alloc_at (w : World) (o : Obj) (n : Nat) (h : w.heap.size = n) : (w.alloc o).heap[n]? = some o := by
  subst h; exact heap_alloc_new w o
theorem size_alloc (w : World) (o : Obj) : (w.alloc o).heap.size = w.heap.size + 1 := by
  show (w.heap.push o).size = _; simp
theorem alloc3 (w : World) (a b c : Obj) : (((w.alloc a).alloc b).alloc c).heap[w.heap.size]? = some a ∧ (((w.alloc a).alloc b).alloc c).heap[w.heap.size + 1]? = some b ∧ (((w.alloc a).alloc b).alloc c).heap[w.heap.size + 1 + 1]? = some c ∧ (((w.alloc a).alloc b).alloc c).heap.size = w.heap.size + 3 := by
  have s1 := size_alloc w a
  have s2 := size_alloc (w.alloc a) b
  refine ⟨?_, ?_, ?_, ?_⟩
  · rw [Below.heap_alloc _ _ _ (by omega), Below.heap_alloc _ _ _ (by omega)]; exact heap_alloc_new w a
  · rw [Below.heap_alloc _ _ _ (by omega)]; exact heap_alloc_at _ _ _ s1
  · exact heap_alloc_at _ _ _ (by omega)
  · rw [size_alloc]; omega
theorem below_alloc3 (w : World) (a b c : Obj) : Below w.heap.size w (((w.alloc a).alloc b).alloc c) := by
  have s1 := size_alloc w a
  have s2 := size_alloc (w.alloc a) b
  exact (((Below.refl _ _).alloc (Nat.le_refl _) _).alloc (by omega) _).alloc (by omega) _
end Go.Proofs.YthoekndjeclimaaGreatDoor

namespace Go.Proofs.YthoekndjeclimaaGreatDoor
open Go.RowKit

/-- the blocks of 'schedule' behind k words -/
structure SchedInv (bl : List UInt8) (w : World) (k : Nat) (w' : World) : Prop where
  blk0 : w'.heap[w.heap.size]? = some (.cells (bv bl).toArray 108 (0, 0))
  blk1 : ∃ cs, cs.size = 64 ∧ w'.heap[w.heap.size + 1]? = some (.cells cs 125 (0, 0))
  blk2 : w'.heap[w.heap.size + 1 + 1]? = some (.cells (wv (Sha.sched bl k ++ List.replicate (64 - k) 0)).toArray 125 (0, 0))
  size : w'.heap.size = w.heap.size + 3
  below : Below w.heap.size w w'

theorem info64w : (Tryz.prog.info? 125).map (·.size) = some 64 := by kernel_rfl

theorem SchedInv.word {bl : List UInt8} {w : World} {k : Nat} {w' : World} (inv : SchedInv bl w k w') (j : Nat) (hj : j < k) :
    ∃ y : Nat, Hid (y = (Sha.sched bl k).getD j 0) ∧ y < 4294967296 ∧ w'.cell? ⟨w.heap.size + 1 + 1, j, none⟩ = some (.int .u32 (y : Int)) := by
  refine ⟨_, rfl, Sha.sched_getD_lt bl k j, ?_⟩
  rw [wv_cell inv.blk2 j (by simp [Sha.sched_length]; omega)]
  simp only [List.getD_eq_getElem?_getD]
  rw [List.getElem?_append_left (by rw [Sha.sched_length]; exact hj)]

theorem SchedInv.set {bl : List UInt8} {w : World} {k : Nat} {w' : World} (inv : SchedInv bl w k w') (hk : k < 64) :
    SchedInv bl w (k + 1) (w'.setCell ⟨w.heap.size + 1 + 1, k, none⟩ (.int .u32 ((Sha.wNext bl (Sha.sched bl k) k : Nat) : Int))).drew := by
  have hl := Sha.sched_length bl k
  refine ⟨?_, ?_, ?_, ?_, ?_⟩
  · rw [heap_drew, heap_setCell_other _ _ _ _ (by show w.heap.size ≠ w.heap.size + 1 + 1; omega)]; exact inv.blk0
  · obtain ⟨cs, h1, h2⟩ := inv.blk1
    exact ⟨cs, h1, by rw [heap_drew, heap_setCell_other _ _ _ _ (by show w.heap.size + 1 ≠ w.heap.size + 1 + 1; omega)]; exact h2⟩
  · rw [heap_drew, heap_setCell_same _ _ _ _ _ _ inv.blk2]
    have := wv_set (Sha.sched bl k) (64 - k) (Sha.wNext bl (Sha.sched bl k) k) (by omega)
    rw [hl] at this
    rw [this, show 64 - k - 1 = 64 - (k + 1) from by omega]
    rfl
  · rw [heap_drew]; simpa using inv.size
  · exact (inv.below.setCell (by simp; omega) _).drew

theorem schedInv_start (bl : List UInt8) (w : World) :
    SchedInv bl w 0 (((w.alloc (.cells (bv bl).toArray 108)).alloc (.cells (wv (List.replicate 64 0)).toArray 125)).alloc (.cells (wv (List.replicate 64 0)).toArray 125)) := by
  obtain ⟨h0, h1, h2, h3⟩ := alloc3 w (.cells (bv bl).toArray 108) (.cells (wv (List.replicate 64 0)).toArray 125) (.cells (wv (List.replicate 64 0)).toArray 125)
  exact ⟨h0, ⟨_, by simp [wv], h1⟩, h2, h3, below_alloc3 _ _ _ _⟩

set_option maxHeartbeats 400000 in
theorem schedule_any (bl : List UInt8) (hb : bl.length = 64) (w : World) :
    Calls Tryz.prog 115 #[.agg (bv bl).toArray] w fun e w' => e = .returned (.agg (wv (Sha.sched bl 64)).toArray) ∧ Below w.heap.size w w' := by
  go_enter Tryz.func115, Tryz.ntmps115
  go_wp2
  go_loopw [11] (fun i w' => ∃ k : Nat, k ≤ 16 ∧ i = .int .i64 k ∧ SchedInv bl w k w') (fun i _ => 16 - (intOf i).toNat)
  case atStart =>
    exact ⟨0, by omega, rfl, schedInv_start bl w⟩
  case round =>
    obtain ⟨k, hk, rfl, inv⟩ := hrel
    by_cases hlt : k < 16
    · have b1 : (0 : Int) ≤ 4 * (k : Int) := by omega
      have b2 : 4 * (k : Int) < 64 := by omega
      have b4 : 4 * (k : Int) + 1 < 64 := by omega
      have b5 : 4 * (k : Int) + 2 < 64 := by omega
      have b6 : 4 * (k : Int) + 3 < 64 := by omega
      have b7 : 0 ≤ 4 * (k : Int) + 1 := by omega
      have b8 : 0 ≤ 4 * (k : Int) + 2 := by omega
      have b9 : 0 ≤ 4 * (k : Int) + 3 := by omega
      have v1 : IntKind.i64.wrap (4 * (k : Int) + 1) = 4 * (k : Int) + 1 := wrap_small _ (by omega) (by omega)
      have v2 : IntKind.i64.wrap (4 * (k : Int) + 2) = 4 * (k : Int) + 2 := wrap_small _ (by omega) (by omega)
      have v3 : IntKind.i64.wrap (4 * (k : Int) + 3) = 4 * (k : Int) + 3 := wrap_small _ (by omega) (by omega)
      have n1 : ¬ (w.heap.size + 1 + 1 = w.heap.size) := by omega
      have n2 : ¬ (w.heap.size = w.heap.size + 1 + 1) := by omega
      have t0 : (4 * (k : Int)).toNat = 4 * k := by omega
      have t1 : (4 * (k : Int) + 1).toNat = 4 * k + 1 := by omega
      have t2 : (4 * (k : Int) + 2).toNat = 4 * k + 2 := by omega
      have t3 : (4 * (k : Int) + 3).toNat = 4 * k + 3 := by omega
      have b3 : (k : Int) < 64 := by omega
      obtain ⟨x0, e0, l0, c0⟩ := bv_cell inv.blk0 (4 * k) (by omega)
      obtain ⟨x1, e1, l1, c1⟩ := bv_cell inv.blk0 (4 * k + 1) (by omega)
      obtain ⟨x2, e2, l2, c2⟩ := bv_cell inv.blk0 (4 * k + 2) (by omega)
      obtain ⟨x3, e3, l3, c3⟩ := bv_cell inv.blk0 (4 * k + 3) (by omega)
      have c4 := wv_cell inv.blk2 k (by simp [Sha.sched_length]; omega)
      have f4 : wr.frozen? ⟨w.heap.size + 1 + 1, k, none⟩ = false := frozen_of_row _ _ _ _ _ inv.blk2
      go_wp2
      go_region_held3 (fun w' => w'.cell? ⟨w.heap.size, 4 * k, none⟩ = some (.int .u8 x0) ∧ w'.cell? ⟨w.heap.size, 4 * k + 1, none⟩ = some (.int .u8 x1) ∧ w'.cell? ⟨w.heap.size, 4 * k + 2, none⟩ = some (.int .u8 x2) ∧ w'.cell? ⟨w.heap.size, 4 * k + 3, none⟩ = some (.int .u8 x3)) (go_keep) (fail)
      go_wp2
      go_roundw
      case rel =>
        go_light
        refine ⟨k + 1, by omega, by go_num, ?_⟩
        have e := Sha.word_walk x0 x1 x2 x3 l0 l1 l2 l3
        have g := SchedInv.set inv (by omega)
        rw [Sha.wNext, if_pos hlt, ← e0.out, ← e1.out, ← e2.out, ← e3.out, ← e] at g
        exact g
      case measure => simp [intOf]; omega
    · obtain rfl : k = 16 := by omega
      go_wp2
      go_loopw [6] (fun i w' => ∃ t : Nat, 16 ≤ t ∧ t ≤ 64 ∧ i = .int .i64 t ∧ SchedInv bl w t w') (fun i _ => 64 - (intOf i).toNat)
      case atStart => exact ⟨16, by omega, by omega, rfl, inv⟩
      case round =>
        obtain ⟨t, ht0, ht, rfl, inv⟩ := hrel
        by_cases hlt : t < 64
        · have b1 : (0 : Int) ≤ (t : Int) - 2 := by omega
          have b2 : (t : Int) - 2 < 64 := by omega
          have b3 : (t : Int) < 64 := by omega
          have b4 : (0 : Int) ≤ (t : Int) - 7 := by omega
          have b5 : (t : Int) - 7 < 64 := by omega
          have b6 : (0 : Int) ≤ (t : Int) - 15 := by omega
          have b7 : (t : Int) - 15 < 64 := by omega
          have b8 : (0 : Int) ≤ (t : Int) - 16 := by omega
          have b9 : (t : Int) - 16 < 64 := by omega
          have d1 : (7 : Int) ≤ (t : Int) := by omega
          have d2 : (16 : Int) ≤ (t : Int) := by omega
          obtain ⟨o7, ho7⟩ : ∃ o, o = t - 7 := ⟨_, rfl⟩
          obtain ⟨o16, ho16⟩ : ∃ o, o = t - 16 := ⟨_, rfl⟩
          have n1 : ¬ (t = o7) := by omega
          have n2 : ¬ (t = o16) := by omega
          have n3 : ¬ (o7 = t) := by omega
          have n4 : ¬ (o16 = t) := by omega
          have t1 : ((t : Int) - 7).toNat = o7 := by omega
          have t3 : ((t : Int) - 16).toNat = o16 := by omega
          have v1 : IntKind.i64.wrap ((t : Int) - 2) = (t : Int) - 2 := wrap_small _ (by omega) (by omega)
          have v2 : IntKind.i64.wrap ((t : Int) - 7) = (t : Int) - 7 := wrap_small _ (by omega) (by omega)
          have v3 : IntKind.i64.wrap ((t : Int) - 15) = (t : Int) - 15 := wrap_small _ (by omega) (by omega)
          have v4 : IntKind.i64.wrap ((t : Int) - 16) = (t : Int) - 16 := wrap_small _ (by omega) (by omega)
          have t0 : ((t : Int) - 2).toNat = t - 2 := by omega
          have t2 : ((t : Int) - 15).toNat = t - 15 := by omega
          obtain ⟨y2, e2, l2, c2⟩ := SchedInv.word inv (t - 2) (by omega)
          obtain ⟨y7, e7, l7, c7⟩ := SchedInv.word inv o7 (by omega)
          obtain ⟨y15, e15, l15, c15⟩ := SchedInv.word inv (t - 15) (by omega)
          obtain ⟨y16, e16, l16, c16⟩ := SchedInv.word inv o16 (by omega)
          have Ho7 : Hid _ := ho7
          have Ho16 : Hid _ := ho16
          clear ho7 ho16
          have c4 := wv_cell inv.blk2 t (by simp [Sha.sched_length]; omega)
          have f4 : wr.frozen? ⟨w.heap.size + 1 + 1, t, none⟩ = false := frozen_of_row _ _ _ _ _ inv.blk2
          have hs0 := Sha.s0_walk y15 l15
          have hs1 := Sha.s1_walk y2 l2
          go_wp2
          go_quiet (fail)
          go_wp2_with (go_at_call 116; refine (ror_any _ _ (by assumption) (by omega) (by omega) _).mono ?_; rintro e w' ⟨rfl, rfl⟩)
          go_region_held3 (fun w' => w'.cell? ⟨w.heap.size + 1 + 1, o7, none⟩ = some (.int .u32 y7) ∧ w'.cell? ⟨w.heap.size + 1 + 1, o16, none⟩ = some (.int .u32 y16)) (first | go_keep | simp [*, World.cell?_setCell_other]) (fail)
          go_wp2
          go_roundw
          case rel =>
            go_light
            have g := SchedInv.set (w' := wr.drewN nq) ⟨inv.blk0, inv.blk1, inv.blk2, inv.size, below_drewN inv.below nq⟩ hlt
            rw [Sha.wNext, if_neg (by omega), ← e2.out, ← Ho7.out, ← e7.out, ← e15.out, ← Ho16.out, ← e16.out] at g
            (repeat apply Exists.intro)
            refine ⟨⟨t + 1, by omega, by omega, by go_num, ?_⟩, rfl⟩
            rw [Sha.sum4_mod]
            exact g
          case measure => simp [intOf]; omega
        · obtain rfl : t = 64 := by omega
          have hb2 : wr.heap[w.heap.size + 1 + 1]? = some (.cells (wv (Sha.sched bl 64)).toArray 125 (0, 0)) := by simpa using inv.blk2
          obtain ⟨cs, hcs, hb1⟩ := inv.blk1
          have hsz : (Tryz.prog.info? 125).map (·.size) = some (wv (Sha.sched bl 64)).toArray.size := by rw [info64w]; simp [wv, Sha.sched_length]
          go_wp2_with (first | (with_reducible show wpList _ _ _ (Oper.mk _ (Op.load _ _) _ _ _ _ :: _) _ _; refine wpList_load_row rfl 125 _ rfl (w.heap.size + 1 + 1) rfl 125 _ (0, 0) _ hb2 Tryz.underlying125 rfl hsz ?_) | (with_reducible show wpList _ _ _ (Oper.mk _ (Op.store _ _ _) _ _ _ _ :: _) _ _; refine wpList_store_row rfl 125 _ _ rfl (w.heap.size + 1) _ rfl rfl 125 cs hb1 hsz (by simp [wv, Sha.sched_length, hcs]) (wv_one _) ?_))
          refine bodyPost_ret (v := .agg (wv (Sha.sched bl 64)).toArray) (results_cell_row rfl _ _ (w.heap.size + 1) 125 _ (0, 0) _ rfl (setRow_heap _ _ cs _ _ _ hb1) Tryz.underlying125 rfl hsz) rfl ⟨rfl, ?_⟩
          exact Below.setRow inv.below (by omega) _
end Go.Proofs.YthoekndjeclimaaGreatDoor
