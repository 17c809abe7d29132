import Derived.Test.YtacegaljoogfcaaDoorPkW2
namespace Go.Proofs.YtacegaljoogfcaaDoor
open Go.RowKit

/-- the two tables of constants -/
structure Tabs (w : World) : Prop where
  rounds : ∀ j, j < 64 → w.cell? ⟨0, j, none⟩ = some (.int .u32 ((Sha.kTab.getD j 0 : Nat) : Int))
  start : ∀ j, j < 8 → w.cell? ⟨1, j, none⟩ = some (.int .u32 ((Sha.iv.l.getD j 0 : Nat) : Int))
theorem Tabs.lt {w : World} (h : Tabs w) : 2 ≤ w.heap.size := by
  have a := block_lt_of_cell (h.rounds 0 (by omega))
  have b := block_lt_of_cell (h.start 0 (by omega))
  simp at a b; omega
theorem Tabs.below {w w' : World} {B : Nat} (h : Tabs w) (hb : Below B w w') (hB : 2 ≤ B) : Tabs w' :=
  ⟨fun j hj => (hb.cell (p := ⟨0, j, none⟩) (Nat.lt_of_lt_of_le (by simp) hB)).trans (h.rounds j hj), fun j hj => (hb.cell (p := ⟨1, j, none⟩) (Nat.lt_of_lt_of_le (by simp) hB)).trans (h.start j hj)
  ⟩

theorem info64b : (Tryd.prog.info? 32).map (·.size) = some 64 := by kernel_rfl
theorem info8w : (Tryd.prog.info? 31).map (·.size) = some 8 := by kernel_rfl

structure FoldInv (s : Sha.St) (bl : List UInt8) (w : World) (M : Nat) (w' : World) : Prop where
  b0 : w'.heap[w.heap.size]? = some (.cells (wv s.l).toArray 31 (0, 0))
  b2 : ∃ C : Array Value, C.size = 8 ∧ w'.heap[w.heap.size + 1 + 1]? = some (.cells C 31 (0, 0))
  bM : w'.heap[M]? = some (.cells (wv (Sha.sched bl 64)).toArray 49 (0, 0))
  lt : w.heap.size + 3 ≤ M
  below : Below w.heap.size w w'
theorem foldInv_start (s : Sha.St) (bl : List UInt8) (w w1 : World) (B C Z : Array Value) (tB : TypeId) (hC : C.size = 8)
    (h : Below (((w.alloc (.cells (wv s.l).toArray 31)).alloc (.cells B tB)).alloc (.cells C 31)).heap.size (((w.alloc (.cells (wv s.l).toArray 31)).alloc (.cells B tB)).alloc (.cells C 31)) w1) :
    FoldInv s bl w w1.heap.size ((w1.alloc (.cells Z 49)).setRow w1.heap.size (wv (Sha.sched bl 64)).toArray) := by
  obtain ⟨h0, _, h2, h3⟩ := alloc3 w (.cells (wv s.l).toArray 31) (.cells B tB) (.cells C 31)
  have hs : w.heap.size + 3 ≤ w1.heap.size := by have := h.size; omega
  refine ⟨?_, ⟨C, hC, ?_⟩, setRow_heap _ _ _ _ _ _ (heap_alloc_new w1 _), hs, ?_⟩
  · rw [setRow_other _ _ _ _ (by omega), Below.heap_alloc _ _ _ (by omega), h.block _ (by omega)]; exact h0
  · rw [setRow_other _ _ _ _ (by omega), Below.heap_alloc _ _ _ (by omega), h.block _ (by omega)]; exact h2
  · exact Below.setRow (((below_alloc3 w _ _ _).trans (h.mono (by omega))).alloc (by omega) _) (by omega) _

theorem wv_size64 (bl : List UInt8) : (wv (Sha.sched bl 64)).toArray.size = 64 := by simp [wv, Sha.sched_length]

set_option maxRecDepth 100000 in
set_option maxHeartbeats 400000 in
theorem fold_any (s : Sha.St) (hs : s.ok) (bl : List UInt8) (hb : bl.length = 64) (w : World) (T : Tabs w) :
    Calls Tryd.prog 14 #[.agg (wv s.l).toArray, .agg (bv bl).toArray] w fun e w' => e = .returned (.agg (wv (Sha.fold s bl).l).toArray) ∧ Below w.heap.size w w' := by
  have hsz : (Tryd.prog.info? 32).map (·.size) = some (bv bl).toArray.size := by rw [info64b]; simp [bv, hb]
  have hsw : (Tryd.prog.info? 49).map (·.size) = some (wv (Sha.sched bl 64)).toArray.size := by rw [info64w]; simp [wv, Sha.sched_length]
  have Hsz : Hid _ := hsz
  have Hsw : Hid _ := hsw
  clear hsz hsw
  go_enter Tryd.func14, Tryd.ntmps14
  go_wp2_with (with_reducible show wpList _ _ _ (Oper.mk _ (Op.load _ _) _ _ _ _ :: _) _ _; refine wpList_load_row rfl 32 _ rfl (w.heap.size + 1) rfl 32 _ (0, 0) _ (alloc3 w _ _ _).2.1 Tryd.underlying32 rfl Hsz.out ?_)
  refine (schedule_any bl hb _).mono ?_; rintro e w1 ⟨rfl, hb1⟩
  go_wp2_with (with_reducible show wpList _ _ _ (Oper.mk _ (Op.store _ _ _) _ _ _ _ :: _) _ _; go_must (refine wpList_store_row rfl 49 _ _ rfl w1.heap.size _ rfl rfl 49 _ (heap_alloc_new w1 _) Hsw.out (by rw [wv_size64 bl]; decide +kernel) (wv_one _) ?_))
  have inv := foldInv_start s bl w w1 _ _ (wv (List.replicate 64 0)).toArray _ rfl hb1
  generalize hW2 : (w1.alloc _).setRow w1.heap.size (wv (Sha.sched bl 64)).toArray = w2
  replace inv : FoldInv s bl w w1.heap.size w2 := hW2 ▸ inv
  generalize w1.heap.size = M at *
  clear hW2 hb1
  have T2 := T.below inv.below T.lt
  have z0 := wv_cell inv.b0 0 (by simp [Sha.St.l])
  have z1 := wv_cell inv.b0 1 (by simp [Sha.St.l])
  have z2 := wv_cell inv.b0 2 (by simp [Sha.St.l])
  have z3 := wv_cell inv.b0 3 (by simp [Sha.St.l])
  have z4 := wv_cell inv.b0 4 (by simp [Sha.St.l])
  have z5 := wv_cell inv.b0 5 (by simp [Sha.St.l])
  have z6 := wv_cell inv.b0 6 (by simp [Sha.St.l])
  have z7 := wv_cell inv.b0 7 (by simp [Sha.St.l])
  simp only [Sha.St.l, List.getD_cons_zero, List.getD_cons_succ] at z0 z1 z2 z3 z4 z5 z6 z7
  go_quiet (fail)
  go_wp2
  go_quiet (fail)
  go_wp2
  go_loopw [6, 7, 8, 9, 10, 11, 12, 13, 37] (fun va vb vc vd ve vf vg vh i w' => ∃ (k : Nat) (v : Sha.St), k ≤ 64 ∧ i = .int .i64 k ∧ Hid (v = Sha.rnds (Sha.sched bl 64) s k) ∧ v.ok ∧ va = .int .u32 v.a ∧ vb = .int .u32 v.b ∧ vc = .int .u32 v.c ∧ vd = .int .u32 v.d ∧ ve = .int .u32 v.e ∧ vf = .int .u32 v.f ∧ vg = .int .u32 v.g ∧ vh = .int .u32 v.h ∧ FoldInv s bl w M w') (fun _ _ _ _ _ _ _ _ i _ => 64 - (intOf i).toNat)
  case atStart => exact ⟨0, s, by omega, rfl, rfl, hs, rfl, rfl, rfl, rfl, rfl, rfl, rfl, rfl, inv.b0, inv.b2, inv.bM, inv.lt, below_drewN (below_drewN inv.below _) _⟩
  case round =>
    clear T2 z0 z1 z2 z3 z4 z5 z6 z7 inv
    obtain ⟨k, ⟨a, b, c, d, e, f, g, h⟩, hk, rfl, hv, ⟨va, vb, vc, vd, ve, vf, vg, vh⟩, rfl, rfl, rfl, rfl, rfl, rfl, rfl, rfl, inv⟩ := hrel
    dsimp only at va vb vc vd ve vf vg vh ⊢
    by_cases hlt : k < 64
    · have b3 : (k : Int) < 64 := by omega
      obtain ⟨kk, ek, lk, ck⟩ : ∃ y : Nat, Hid (y = Sha.kTab.getD k 0) ∧ y < 4294967296 ∧ wr.cell? ⟨0, k, none⟩ = some (.int .u32 (y : Int)) := ⟨_, rfl, Sha.kTab_getD_lt k, (T.below inv.below T.lt).rounds k hlt⟩
      obtain ⟨ww, ew, lw, cw⟩ : ∃ y : Nat, Hid (y = (Sha.sched bl 64).getD k 0) ∧ y < 4294967296 ∧ wr.cell? ⟨M, k, none⟩ = some (.int .u32 (y : Int)) := ⟨_, rfl, Sha.sched_getD_lt bl 64 k, wv_cell inv.bM k (by rw [Sha.sched_length]; exact hlt)⟩
      have hS1 := Sha.S1_walk e ve
      have hS0 := Sha.S0_walk a va
      have hch := Sha.ch_walk e f g ve vf vg
      have hmaj := Sha.maj_walk a b c va vb vc
      go_wp2_with (go_at_call 24; refine (ror_any _ _ (by assumption) (by omega) (by omega) _).mono ?_; rintro e w' ⟨rfl, rfl⟩)
      go_quiet (fail)
      go_wp2_with (go_at_call 24; refine (ror_any _ _ (by assumption) (by omega) (by omega) _).mono ?_; rintro e w' ⟨rfl, rfl⟩)
      refine ⟨⟨k + 1, Sha.step kk ww ⟨a, b, c, d, e, f, g, h⟩, by omega, by go_num, ?_, Sha.step_ok _ _ _ ⟨va, vb, vc, vd, ve, vf, vg, vh⟩, val_int (Sha.stepA_walk kk ww a b c d e f g h), rfl, rfl, rfl, val_int (Sha.stepE_walk kk ww a b c d e f g h), rfl, rfl, rfl, ⟨inv.b0, inv.b2, inv.bM, inv.lt, below_drewN inv.below _⟩⟩, by simp [intOf]; omega⟩
      show Sha.step kk ww ⟨a, b, c, d, e, f, g, h⟩ = Sha.step (Sha.kTab.getD k 0) ((Sha.sched bl 64).getD k 0) (Sha.rnds (Sha.sched bl 64) s k)
      rw [← hv.out, ← ek.out, ← ew.out]
    · obtain rfl : k = 64 := by omega
      have T2 := T.below inv.below T.lt
      have z0 := wv_cell inv.b0 0 (by simp [Sha.St.l])
      have z1 := wv_cell inv.b0 1 (by simp [Sha.St.l])
      have z2 := wv_cell inv.b0 2 (by simp [Sha.St.l])
      have z3 := wv_cell inv.b0 3 (by simp [Sha.St.l])
      have z4 := wv_cell inv.b0 4 (by simp [Sha.St.l])
      have z5 := wv_cell inv.b0 5 (by simp [Sha.St.l])
      have z6 := wv_cell inv.b0 6 (by simp [Sha.St.l])
      have z7 := wv_cell inv.b0 7 (by simp [Sha.St.l])
      simp only [Sha.St.l, List.getD_cons_zero, List.getD_cons_succ] at z0 z1 z2 z3 z4 z5 z6 z7
      obtain ⟨C, hC, hb2⟩ := inv.b2
      go_wp2_with (with_reducible show wpList _ _ _ (Oper.mk _ (Op.store _ _ _) _ _ _ _ :: _) _ _; go_must (refine wpList_store_row rfl 31 _ _ rfl (w.heap.size + 1 + 1) _ rfl rfl 31 C hb2 (by rw [info8w]; simp) (by rw [hC]; simp) (by simp [Value.oneCell']) ?_))
      have hf : Sha.addSt s ⟨a, b, c, d, e, f, g, h⟩ = Sha.fold s bl := by rw [hv.out]; rfl
      rw [addSt_walk, hf]
      refine bodyPost_ret (v := .agg (wv (Sha.fold s bl).l).toArray) (results_cell_row rfl _ _ (w.heap.size + 1 + 1) 31 _ (0, 0) _ rfl (setRow_heap _ _ C _ _ _ hb2) Tryd.underlying31 rfl info8w) rfl ⟨rfl, ?_⟩
      exact Below.setRow inv.below (by omega) _
end Go.Proofs.YtacegaljoogfcaaDoor
