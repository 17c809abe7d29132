import Derived.Test.YtacegaljoogfcaaDoorPkK1
namespace Go.Proofs.YtacegaljoogfcaaDoor
open Go.RowKit

/-- the blocks of 'schedule' behind k words -/
structure SchedInv (bl : List UInt8) (w : World) (k : Nat) (w' : World) : Prop where
  blk0 : w'.heap[w.heap.size]? = some (.cells (bv bl).toArray 32 (0, 0))
  blk1 : ∃ cs, cs.size = 64 ∧ w'.heap[w.heap.size + 1]? = some (.cells cs 49 (0, 0))
  blk2 : w'.heap[w.heap.size + 1 + 1]? = some (.cells (wv (Sha.sched bl k ++ List.replicate (64 - k) 0)).toArray 49 (0, 0))
  size : w'.heap.size = w.heap.size + 3
  below : Below w.heap.size w w'

theorem info64w : (Tryd.prog.info? 49).map (·.size) = some 64 := by kernel_rfl

theorem SchedInv.word {bl : List UInt8} {w : World} {k : Nat} {w' : World} (inv : SchedInv bl w k w') (j : Nat) (hj : j < k) :
    ∃ y : Nat, Hid (y = (Sha.sched bl k).getD j 0) ∧ y < 4294967296 ∧ w'.cell? ⟨w.heap.size + 1 + 1, j, none⟩ = some (.int .u32 (y : Int)) := by
  refine ⟨_, rfl, Sha.sched_getD_lt bl k j, ?_⟩
  rw [wv_cell inv.blk2 j (by simp [Sha.sched_length]; omega)]
  simp only [List.getD_eq_getElem?_getD]
  rw [List.getElem?_append_left (by rw [Sha.sched_length]; exact hj)]

theorem SchedInv.set {bl : List UInt8} {w : World} {k : Nat} {w' : World} (inv : SchedInv bl w k w') (hk : k < 64) :
    SchedInv bl w (k + 1) (w'.setCell ⟨w.heap.size + 1 + 1, k, none⟩ (.int .u32 ((Sha.wNext bl (Sha.sched bl k) k : Nat) : Int))).drew := by
  have hl := Sha.sched_length bl k
  refine ⟨?_, ?_, ?_, ?_, ?_⟩
  · rw [heap_drew, heap_setCell_other _ _ _ _ (by show w.heap.size ≠ w.heap.size + 1 + 1; omega)]; exact inv.blk0
  · obtain ⟨cs, h1, h2⟩ := inv.blk1
    exact ⟨cs, h1, by rw [heap_drew, heap_setCell_other _ _ _ _ (by show w.heap.size + 1 ≠ w.heap.size + 1 + 1; omega)]; exact h2⟩
  · rw [heap_drew, heap_setCell_same _ _ _ _ _ _ inv.blk2]
    have := wv_set (Sha.sched bl k) (64 - k) (Sha.wNext bl (Sha.sched bl k) k) (by omega)
    rw [hl] at this
    rw [this, show 64 - k - 1 = 64 - (k + 1) from by omega]
    rfl
  · rw [heap_drew]; simpa using inv.size
  · exact (inv.below.setCell (by simp; omega) _).drew

theorem schedInv_start (bl : List UInt8) (w : World) :
    SchedInv bl w 0 (((w.alloc (.cells (bv bl).toArray 32)).alloc (.cells (wv (List.replicate 64 0)).toArray 49)).alloc (.cells (wv (List.replicate 64 0)).toArray 49)) := by
  obtain ⟨h0, h1, h2, h3⟩ := alloc3 w (.cells (bv bl).toArray 32) (.cells (wv (List.replicate 64 0)).toArray 49) (.cells (wv (List.replicate 64 0)).toArray 49)
  exact ⟨h0, ⟨_, by simp [wv], h1⟩, h2, h3, below_alloc3 _ _ _ _⟩

set_option maxHeartbeats 400000 in
theorem schedule_any (bl : List UInt8) (hb : bl.length = 64) (w : World) :
    Calls Tryd.prog 23 #[.agg (bv bl).toArray] w fun e w' => e = .returned (.agg (wv (Sha.sched bl 64)).toArray) ∧ Below w.heap.size w w' := by
  go_enter Tryd.func23, Tryd.ntmps23
  go_wp2
  go_loopw [11] (fun i w' => ∃ k : Nat, k ≤ 16 ∧ i = .int .i64 k ∧ SchedInv bl w k w') (fun i _ => 16 - (intOf i).toNat)
  case atStart =>
    exact ⟨0, by omega, rfl, schedInv_start bl w⟩
  case round =>
    obtain ⟨k, hk, rfl, inv⟩ := hrel
    by_cases hlt : k < 16
    · have b1 : (0 : Int) ≤ 4 * (k : Int) := by omega
      have b2 : 4 * (k : Int) < 64 := by omega
      have b4 : 4 * (k : Int) + 1 < 64 := by omega
      have b5 : 4 * (k : Int) + 2 < 64 := by omega
      have b6 : 4 * (k : Int) + 3 < 64 := by omega
      have b7 : 0 ≤ 4 * (k : Int) + 1 := by omega
      have b8 : 0 ≤ 4 * (k : Int) + 2 := by omega
      have b9 : 0 ≤ 4 * (k : Int) + 3 := by omega
      have v1 : IntKind.i64.wrap (4 * (k : Int) + 1) = 4 * (k : Int) + 1 := wrap_small _ (by omega) (by omega)
      have v2 : IntKind.i64.wrap (4 * (k : Int) + 2) = 4 * (k : Int) + 2 := wrap_small _ (by omega) (by omega)
      have v3 : IntKind.i64.wrap (4 * (k : Int) + 3) = 4 * (k : Int) + 3 := wrap_small _ (by omega) (by omega)
      have n1 : ¬ (w.heap.size + 1 + 1 = w.heap.size) := by omega
      have n2 : ¬ (w.heap.size = w.heap.size + 1 + 1) := by omega
      have t0 : (4 * (k : Int)).toNat = 4 * k := by omega
      have t1 : (4 * (k : Int) + 1).toNat = 4 * k + 1 := by omega
      have t2 : (4 * (k : Int) + 2).toNat = 4 * k + 2 := by omega
      have t3 : (4 * (k : Int) + 3).toNat = 4 * k + 3 := by omega
      have b3 : (k : Int) < 64 := by omega
      obtain ⟨x0, e0, l0, c0⟩ := bv_cell inv.blk0 (4 * k) (by omega)
      obtain ⟨x1, e1, l1, c1⟩ := bv_cell inv.blk0 (4 * k + 1) (by omega)
      obtain ⟨x2, e2, l2, c2⟩ := bv_cell inv.blk0 (4 * k + 2) (by omega)
      obtain ⟨x3, e3, l3, c3⟩ := bv_cell inv.blk0 (4 * k + 3) (by omega)
      have c4 := wv_cell inv.blk2 k (by simp [Sha.sched_length]; omega)
      have f4 : wr.frozen? ⟨w.heap.size + 1 + 1, k, none⟩ = false := frozen_of_row _ _ _ _ _ inv.blk2
      go_wp2
      go_region_held3 (fun w' => w'.cell? ⟨w.heap.size, 4 * k, none⟩ = some (.int .u8 x0) ∧ w'.cell? ⟨w.heap.size, 4 * k + 1, none⟩ = some (.int .u8 x1) ∧ w'.cell? ⟨w.heap.size, 4 * k + 2, none⟩ = some (.int .u8 x2) ∧ w'.cell? ⟨w.heap.size, 4 * k + 3, none⟩ = some (.int .u8 x3)) (go_keep) (fail)
      go_wp2
      go_roundw
      case rel =>
        go_light
        refine ⟨k + 1, by omega, by go_num, ?_⟩
        have e := Sha.word_walk x0 x1 x2 x3 l0 l1 l2 l3
        have g := SchedInv.set inv (by omega)
        rw [Sha.wNext, if_pos hlt, ← e0.out, ← e1.out, ← e2.out, ← e3.out, ← e] at g
        exact g
      case measure => simp [intOf]; omega
    · obtain rfl : k = 16 := by omega
      go_wp2
      go_loopw [6] (fun i w' => ∃ t : Nat, 16 ≤ t ∧ t ≤ 64 ∧ i = .int .i64 t ∧ SchedInv bl w t w') (fun i _ => 64 - (intOf i).toNat)
      case atStart => exact ⟨16, by omega, by omega, rfl, inv⟩
      case round =>
        obtain ⟨t, ht0, ht, rfl, inv⟩ := hrel
        by_cases hlt : t < 64
        · have b1 : (0 : Int) ≤ (t : Int) - 2 := by omega
          have b2 : (t : Int) - 2 < 64 := by omega
          have b3 : (t : Int) < 64 := by omega
          have b4 : (0 : Int) ≤ (t : Int) - 7 := by omega
          have b5 : (t : Int) - 7 < 64 := by omega
          have b6 : (0 : Int) ≤ (t : Int) - 15 := by omega
          have b7 : (t : Int) - 15 < 64 := by omega
          have b8 : (0 : Int) ≤ (t : Int) - 16 := by omega
          have b9 : (t : Int) - 16 < 64 := by omega
          have d1 : (7 : Int) ≤ (t : Int) := by omega
          have d2 : (16 : Int) ≤ (t : Int) := by omega
          obtain ⟨o7, ho7⟩ : ∃ o, o = t - 7 := ⟨_, rfl⟩
          obtain ⟨o16, ho16⟩ : ∃ o, o = t - 16 := ⟨_, rfl⟩
          have n1 : ¬ (t = o7) := by omega
          have n2 : ¬ (t = o16) := by omega
          have n3 : ¬ (o7 = t) := by omega
          have n4 : ¬ (o16 = t) := by omega
          have t1 : ((t : Int) - 7).toNat = o7 := by omega
          have t3 : ((t : Int) - 16).toNat = o16 := by omega
          have v1 : IntKind.i64.wrap ((t : Int) - 2) = (t : Int) - 2 := wrap_small _ (by omega) (by omega)
          have v2 : IntKind.i64.wrap ((t : Int) - 7) = (t : Int) - 7 := wrap_small _ (by omega) (by omega)
          have v3 : IntKind.i64.wrap ((t : Int) - 15) = (t : Int) - 15 := wrap_small _ (by omega) (by omega)
          have v4 : IntKind.i64.wrap ((t : Int) - 16) = (t : Int) - 16 := wrap_small _ (by omega) (by omega)
          have t0 : ((t : Int) - 2).toNat = t - 2 := by omega
          have t2 : ((t : Int) - 15).toNat = t - 15 := by omega
          obtain ⟨y2, e2, l2, c2⟩ := SchedInv.word inv (t - 2) (by omega)
          obtain ⟨y7, e7, l7, c7⟩ := SchedInv.word inv o7 (by omega)
          obtain ⟨y15, e15, l15, c15⟩ := SchedInv.word inv (t - 15) (by omega)
          obtain ⟨y16, e16, l16, c16⟩ := SchedInv.word inv o16 (by omega)
          have Ho7 : Hid _ := ho7
          have Ho16 : Hid _ := ho16
          clear ho7 ho16
          have c4 := wv_cell inv.blk2 t (by simp [Sha.sched_length]; omega)
          have f4 : wr.frozen? ⟨w.heap.size + 1 + 1, t, none⟩ = false := frozen_of_row _ _ _ _ _ inv.blk2
          have hs0 := Sha.s0_walk y15 l15
          have hs1 := Sha.s1_walk y2 l2
          go_wp2
          go_quiet (fail)
          go_wp2_with (go_at_call 24; refine (ror_any _ _ (by assumption) (by omega) (by omega) _).mono ?_; rintro e w' ⟨rfl, rfl⟩)
          go_region_held3 (fun w' => w'.cell? ⟨w.heap.size + 1 + 1, o7, none⟩ = some (.int .u32 y7) ∧ w'.cell? ⟨w.heap.size + 1 + 1, o16, none⟩ = some (.int .u32 y16)) (first | go_keep | simp [*, World.cell?_setCell_other]) (fail)
          go_wp2
          go_roundw
          case rel =>
            go_light
            have g := SchedInv.set (w' := wr.drewN nq) ⟨inv.blk0, inv.blk1, inv.blk2, inv.size, below_drewN inv.below nq⟩ hlt
            rw [Sha.wNext, if_neg (by omega), ← e2.out, ← Ho7.out, ← e7.out, ← e15.out, ← Ho16.out, ← e16.out] at g
            (repeat apply Exists.intro)
            refine ⟨⟨t + 1, by omega, by omega, by go_num, ?_⟩, rfl⟩
            rw [Sha.sum4_mod]
            exact g
          case measure => simp [intOf]; omega
        · obtain rfl : t = 64 := by omega
          have hb2 : wr.heap[w.heap.size + 1 + 1]? = some (.cells (wv (Sha.sched bl 64)).toArray 49 (0, 0)) := by simpa using inv.blk2
          obtain ⟨cs, hcs, hb1⟩ := inv.blk1
          have hsz : (Tryd.prog.info? 49).map (·.size) = some (wv (Sha.sched bl 64)).toArray.size := by rw [info64w]; simp [wv, Sha.sched_length]
          go_wp2_with (first | (with_reducible show wpList _ _ _ (Oper.mk _ (Op.load _ _) _ _ _ _ :: _) _ _; refine wpList_load_row rfl 49 _ rfl (w.heap.size + 1 + 1) rfl 49 _ (0, 0) _ hb2 Tryd.underlying49 rfl hsz ?_) | (with_reducible show wpList _ _ _ (Oper.mk _ (Op.store _ _ _) _ _ _ _ :: _) _ _; refine wpList_store_row rfl 49 _ _ rfl (w.heap.size + 1) _ rfl rfl 49 cs hb1 hsz (by simp [wv, Sha.sched_length, hcs]) (wv_one _) ?_))
          refine bodyPost_ret (v := .agg (wv (Sha.sched bl 64)).toArray) (results_cell_row rfl _ _ (w.heap.size + 1) 49 _ (0, 0) _ rfl (setRow_heap _ _ cs _ _ _ hb1) Tryd.underlying49 rfl hsz) rfl ⟨rfl, ?_⟩
          exact Below.setRow inv.below (by omega) _
end Go.Proofs.YtacegaljoogfcaaDoor
