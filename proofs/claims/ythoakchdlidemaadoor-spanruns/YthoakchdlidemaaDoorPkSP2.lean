import Derived.Test.YthoakchdlidemaaDoorPkFR2
import Derived.BigQuiet
import Derived.Deep.RegionHeld3
import Derived.Laws.StructEq
namespace Go.Proofs.YthoakchdlidemaaDoor
open Go.RowKit
theorem drewBelow8 {w w' : World} (h : Below w.drew.heap.size w.drew w') : Below w.heap.size w w' := (Below.refl _ w).drew.trans h
theorem sizeSp8 : (Tryd.prog.info? 29).map (·.size) = some 2 := by kernel_rfl
theorem sizeSp8' (a b : Value) : (Tryd.prog.info? 29).map (·.size) = some #[a, b].size := sizeSp8
theorem SpI.two {w : World} {g : Nat} {b e : Int} (h : SpI w g b e) (b' e' : Int) : SpI ((w.setCell ⟨g, 0, none⟩ (.int .i64 b')).setCell ⟨g, 1, none⟩ (.int .i64 e')) g b' e' :=
  heap_setCell_same _ g 1 _ _ _ (heap_setCell_same w g 0 _ _ _ h)
theorem SpI.far {w : World} {g : Nat} {b e : Int} (h : SpI w g b e) (k o : Nat) (v : Value) (hk : g ≠ k) : SpI (w.setCell ⟨k, o, none⟩ v) g b e :=
  (Below.heap_setCell w _ v g hk).trans h
set_option maxRecDepth 100000 in
set_option maxHeartbeats 4000000 in
theorem parts_at (b e m : Nat) (h2 : 2 ≤ e - b) (he : e ≤ 1099511627776) (hm : Hid (m = b + Tree.sp (e - b))) (w : World) :
    Calls Tryd.prog 63 #[sg b e] w fun r w' => r = .returned (.tuple #[sg b m, sg m e]) ∧ Below w.heap.size w w' := by
  have hb := bitLen_log _ ((((e - b : Nat) : Int) - 1).toNat) (Nat.le_refl _) (by omega) (by omega)
  have hL := log_le (x := (((e - b : Nat) : Int) - 1).toNat) (by omega) (by omega)
  have hc := lenU_any (((e - b : Nat) : Int) - 1) (by omega) (by omega)
  have hm2 : Hid (m = b + 2 ^ (((e - b : Nat) : Int) - 1).toNat.log2) := by
    unfold Hid
    rw [hm.out, Tree.sp_eq (by omega), show e - b - 1 = (((e - b : Nat) : Int) - 1).toNat from by omega]
  have hme : m < e := by rw [hm.out]; have := Tree.sp_lt (n := e - b) h2; omega
  rw [hb] at hc
  clear hb
  generalize (((e - b : Nat) : Int) - 1).toNat.log2 = L at *
  have hw1 : IntKind.i64.wrap (((e - b : Nat) : Int) - 1) = ((e - b : Nat) : Int) - 1 := by rw [IntKind.wrap_i64]; omega
  have hw2 : IntKind.u64.wrap (((e - b : Nat) : Int) - 1) = ((e - b : Nat) : Int) - 1 := by rw [IntKind.wrap_u64]; omega
  have hp := wrap_pow hL
  obtain ⟨N, hN⟩ : ∃ N : Nat, Hid (2 ^ L = N) := ⟨_, rfl⟩
  rw [hN.out] at hp hm2
  have hN1 : (2 : Int) ^ L = (N : Int) := by rw [← hN.out]; simp
  have hN2 : IntKind.i64.wrap (N : Int) = (N : Int) := by rw [IntKind.wrap_i64]; have := hm2.out; omega
  have hL1 : IntKind.i64.wrap (L : Int) = (L : Int) := by rw [IntKind.wrap_i64]; omega
  have hL2 : (L : Int) ≤ 64 := by omega
  have hL3 : (0 : Int) ≤ (L : Int) := by omega
  have hadd : IntKind.i64.wrap ((b : Int) + (N : Int)) = (m : Int) := by rw [hm2.out, IntKind.wrap_i64]; have := hm2.out; omega
  clear hp
  have i1 := fun w' => slen_nat b e (by omega) he w'
  obtain ⟨n, hn⟩ : ∃ n, Hid (e - b = n) := ⟨_, rfl⟩
  rw [hn.out] at hc hw1 hw2 i1
  have S0 := SpI.new w b e
  have B0 := (Below.refl w.heap.size w).alloc (Nat.le_refl _) (.cells #[Value.int .i64 (b : Int), .int .i64 (e : Int)] 29)
  go_enter Tryd.func63, Tryd.ntmps63
  go_wp2
  obtain ⟨w3, hw3⟩ : ∃ w3, Hid ((((w.alloc (.cells #[.int .i64 (b : Int), .int .i64 (e : Int)] 29)).alloc (.cells #[.int .i64 0, .int .i64 0] 29)).alloc (.cells #[.int .i64 0, .int .i64 0] 29)) = w3) := ⟨_, rfl⟩
  rw [hw3.out]
  have B3 : Hid (Below w.heap.size w w3) := by unfold Hid; rw [← hw3.out]; exact (B0.alloc (by rw [size_alloc]; omega) _).alloc (by rw [size_alloc, size_alloc]; omega) _
  have z3 : Hid (w3.heap.size = w.heap.size + 3) := by unfold Hid; rw [← hw3.out]; simp
  have R0 : Hid (SpI w3 w.heap.size b e) := by unfold Hid; rw [← hw3.out]; exact (S0.below ((Below.refl _ _).alloc (Nat.le_refl _) _)).below ((Below.refl _ _).alloc (Nat.le_refl _) _)
  have R1 : Hid (SpI w3 (w.heap.size + 1) 0 0) := by
    unfold Hid; rw [← hw3.out]
    have := SpI.new (w.alloc (.cells #[.int .i64 (b : Int), .int .i64 (e : Int)] 29)) 0 0
    rw [size_alloc] at this
    exact this.below ((Below.refl _ _).alloc (Nat.le_refl _) _)
  have R2 : Hid (SpI w3 (w.heap.size + 1 + 1) 0 0) := by
    unfold Hid; rw [← hw3.out]
    have := SpI.new ((w.alloc (.cells #[.int .i64 (b : Int), .int .i64 (e : Int)] 29)).alloc (.cells #[.int .i64 0, .int .i64 0] 29)) 0 0
    rw [size_alloc, size_alloc] at this
    exact this
  clear hw3 S0 B0
  have x0 := And.intro R0.out.c0 R0.out.c1
  go_region_held3 (fun w' => w'.cell? ⟨w.heap.size, 0, none⟩ = some (.int .i64 (b : Int)) ∧ w'.cell? ⟨w.heap.size, 1, none⟩ = some (.int .i64 (e : Int))) (first | exact x4 | exact x0) (first
    | (go_at_call 62; refine (i1 _).mono ?_; rintro r w4 ⟨rfl, h4⟩; have B4 := hid (drewBelow8 h4); have R4 := R0.out.below B4.out; have x4 := And.intro R4.c0 R4.c1)
    | (go_at_call 58; refine (hc _).mono ?_; rintro r w5 ⟨rfl, rfl⟩))
  go_wp2
  have B5 := hid (B3.out.trans (B4.out.mono B3.out.size))
  have T0 := hid (R0.out.below B4.out)
  have T1 := hid (R1.out.below B4.out)
  have T2 := hid (R2.out.below B4.out)
  clear R0 R1 R2 R4 x0 x4 B3 B4 z3
  have y0 := And.intro T0.out.c0 T0.out.c1
  have p1 : w5.drew.cell? ⟨w.heap.size + 1, 0, none⟩ = some (.int .i64 0) := T1.out.c0
  have p2 : w5.drew.cell? ⟨w.heap.size + 1, 1, none⟩ = some (.int .i64 0) := T1.out.c1
  have p3 : w5.drew.frozen? ⟨w.heap.size + 1, 0, none⟩ = false := T1.out.f0
  have p4 : w5.drew.frozen? ⟨w.heap.size + 1, 1, none⟩ = false := T1.out.f1
  have q1 : w5.drew.cell? ⟨w.heap.size + 1 + 1, 0, none⟩ = some (.int .i64 0) := T2.out.c0
  have q2 : w5.drew.cell? ⟨w.heap.size + 1 + 1, 1, none⟩ = some (.int .i64 0) := T2.out.c1
  have q3 : w5.drew.frozen? ⟨w.heap.size + 1 + 1, 0, none⟩ = false := T2.out.f0
  have q4 : w5.drew.frozen? ⟨w.heap.size + 1 + 1, 1, none⟩ = false := T2.out.f1
  have y1 : w5.drew.cell? ⟨w.heap.size, 0, none⟩ = some (.int .i64 (b : Int)) := T0.out.c0
  have y2 : w5.drew.cell? ⟨w.heap.size, 1, none⟩ = some (.int .i64 (e : Int)) := T0.out.c1
  have p5 : w5.cell? ⟨w.heap.size + 1, 0, none⟩ = some (.int .i64 0) := T1.out.c0
  have p6 : w5.cell? ⟨w.heap.size + 1, 1, none⟩ = some (.int .i64 0) := T1.out.c1
  have p7 : w5.frozen? ⟨w.heap.size + 1, 0, none⟩ = false := T1.out.f0
  have p8 : w5.frozen? ⟨w.heap.size + 1, 1, none⟩ = false := T1.out.f1
  have q5 : w5.cell? ⟨w.heap.size + 1 + 1, 0, none⟩ = some (.int .i64 0) := T2.out.c0
  have q6 : w5.cell? ⟨w.heap.size + 1 + 1, 1, none⟩ = some (.int .i64 0) := T2.out.c1
  have q7 : w5.frozen? ⟨w.heap.size + 1 + 1, 0, none⟩ = false := T2.out.f0
  have q8 : w5.frozen? ⟨w.heap.size + 1 + 1, 1, none⟩ = false := T2.out.f1
  have s1 : ¬ w.heap.size + 1 = w.heap.size := by omega
  have s2 : ¬ w.heap.size + 1 + 1 = w.heap.size := by omega
  go_region_held3 (fun w' => w'.cell? ⟨w.heap.size, 0, none⟩ = some (.int .i64 (b : Int)) ∧ w'.cell? ⟨w.heap.size, 1, none⟩ = some (.int .i64 (e : Int))) (first | exact y0 | go_keep) (fail)
  go_wp2
  have U1 := (T1.out.two (b : Int) (m : Int))
  have U1' := (U1.far (w.heap.size + 1 + 1) 0 (.int .i64 (m : Int)) (by omega)).far (w.heap.size + 1 + 1) 1 (.int .i64 (e : Int)) (by omega)
  have U2 := ((T2.out.far (w.heap.size + 1) 0 (.int .i64 (b : Int)) (by omega)).far (w.heap.size + 1) 1 (.int .i64 (m : Int)) (by omega)).two (m : Int) (e : Int)
  refine bodyPost_ret (results_row_row rfl _ _ (w.heap.size + 1) (w.heap.size + 1 + 1) 29 29 #[.int .i64 (b : Int), .int .i64 (m : Int)] #[.int .i64 (m : Int), .int .i64 (e : Int)] (0, 0) (0, 0) _ _ rfl U1' Tryd.underlying29 rfl sizeSp8 rfl U2 Tryd.underlying29 rfl sizeSp8) rfl ⟨rfl, ?_⟩
  exact (((((B5.out.setCell (p := ⟨w.heap.size + 1, 0, none⟩) (by show w.heap.size ≤ w.heap.size + 1; omega) _).setCell (p := ⟨w.heap.size + 1, 1, none⟩) (by show w.heap.size ≤ w.heap.size + 1; omega) _).setCell (p := ⟨w.heap.size + 1 + 1, 0, none⟩) (by show w.heap.size ≤ w.heap.size + 1 + 1; omega) _).setCell (p := ⟨w.heap.size + 1 + 1, 1, none⟩) (by show w.heap.size ≤ w.heap.size + 1 + 1; omega) _)).drew
theorem parts_any (b n : Nat) (h2 : 2 ≤ n) (he : b + n ≤ 1099511627776) (w : World) :
    Calls Tryd.prog 63 #[sg b ((b + n : Nat) : Int)] w fun r w' => r = .returned (.tuple #[sg b ((b + Tree.sp n : Nat) : Int), sg ((b + Tree.sp n : Nat) : Int) ((b + n : Nat) : Int)]) ∧ Below w.heap.size w w' :=
  parts_at b (b + n) (b + Tree.sp n) (by omega) he (by unfold Hid; rw [show b + n - b = n by omega]) w
end Go.Proofs.YthoakchdlidemaaDoor

namespace Go.Proofs.YthoakchdlidemaaDoor
open Go.RowKit
set_option maxRecDepth 100000 in
set_option maxHeartbeats 4000000 in
theorem toward_at (b e m i : Nat) (h2 : 2 ≤ e - b) (he : e ≤ 1099511627776) (hm : Hid (m = b + Tree.sp (e - b))) (w : World) :
    Calls Tryd.prog 79 #[sg b e, .int .i64 (i : Int)] w fun r w' => r = .returned (if i < m then sg b m else sg m e) ∧ Below w.heap.size w w' := by
  have i1 := fun w' => parts_at b e m h2 he hm w'
  have S0 := SpI.new w b e
  have c0 := S0.c0
  have c1 := S0.c1
  have B0 := hid (((Below.refl w.heap.size w).alloc (Nat.le_refl _) (.cells #[Value.int .i64 (b : Int), .int .i64 (e : Int)] 29)).alloc (by rw [size_alloc]; omega) (.cells #[Value.int .i64 0, .int .i64 0] 29))
  have R1 := SpI.new (w.alloc (.cells #[Value.int .i64 (b : Int), .int .i64 (e : Int)] 29)) 0 0
  rw [size_alloc] at R1
  have R1 := hid R1
  have z0 : Hid (((w.alloc (.cells #[Value.int .i64 (b : Int), .int .i64 (e : Int)] 29)).alloc (.cells #[Value.int .i64 0, .int .i64 0] 29)).heap.size = w.heap.size + 2) := by unfold Hid; simp
  by_cases hi : i < m
  · rw [if_pos hi]
    have hi' : (i : Int) < (m : Int) := by omega
    go_enter Tryd.func79, Tryd.ntmps79
    go_wp2_with (go_at_call 63; refine (i1 _).mono ?_; rintro r w1 ⟨rfl, hw1⟩; have T1 := R1.out.below hw1; have B1 := hid (B0.out.trans (hw1.mono B0.out.size)); have z1 := hid hw1.size; clear hw1; have T2 := (T1.below ((Below.refl _ w1).alloc (Nat.le_refl _) (.cells #[Value.int .i64 (b : Int), .int .i64 (m : Int)] 29))).below ((Below.refl _ _).alloc (Nat.le_refl _) (.cells #[Value.int .i64 (m : Int), .int .i64 (e : Int)] 29)); have d0 := T2.c0; have d1 := T2.c1; have g0 := T2.f0; have g1 := T2.f1; have T2 := hid T2; have T1 := hid T1)
    have U := T2.out.two (b : Int) (m : Int)
    refine bodyPost_ret (v := sg b m) (results_cell_row rfl _ _ (w.heap.size + 1) 29 #[.int .i64 (b : Int), .int .i64 (m : Int)] (0, 0) _ rfl U Tryd.underlying29 rfl sizeSp8) rfl ⟨rfl, ?_⟩
    have z1 := z1.out
    have z0 := z0.out
    exact ((((B1.out.alloc (by omega) _).alloc (by rw [size_alloc]; omega) _).setCell (p := ⟨w.heap.size + 1, 0, none⟩) (by show w.heap.size ≤ w.heap.size + 1; omega) _).setCell (p := ⟨w.heap.size + 1, 1, none⟩) (by show w.heap.size ≤ w.heap.size + 1; omega) _)
  · rw [if_neg hi]
    have hi' : ¬ (i : Int) < (m : Int) := by omega
    go_enter Tryd.func79, Tryd.ntmps79
    go_wp2_with (go_at_call 63; refine (i1 _).mono ?_; rintro r w1 ⟨rfl, hw1⟩; have T1 := R1.out.below hw1; have B1 := hid (B0.out.trans (hw1.mono B0.out.size)); have z1 := hid hw1.size; clear hw1; have T2 := (T1.below ((Below.refl _ w1).alloc (Nat.le_refl _) (.cells #[Value.int .i64 (b : Int), .int .i64 (m : Int)] 29))).below ((Below.refl _ _).alloc (Nat.le_refl _) (.cells #[Value.int .i64 (m : Int), .int .i64 (e : Int)] 29)); have d0 := T2.c0; have d1 := T2.c1; have g0 := T2.f0; have g1 := T2.f1; have T2 := hid T2; have T1 := hid T1)
    have U := T2.out.two (m : Int) (e : Int)
    refine bodyPost_ret (v := sg m e) (results_cell_row rfl _ _ (w.heap.size + 1) 29 #[.int .i64 (m : Int), .int .i64 (e : Int)] (0, 0) _ rfl U Tryd.underlying29 rfl sizeSp8) rfl ⟨rfl, ?_⟩
    have z1 := z1.out
    have z0 := z0.out
    exact ((((B1.out.alloc (by omega) _).alloc (by rw [size_alloc]; omega) _).setCell (p := ⟨w.heap.size + 1, 0, none⟩) (by show w.heap.size ≤ w.heap.size + 1; omega) _).setCell (p := ⟨w.heap.size + 1, 1, none⟩) (by show w.heap.size ≤ w.heap.size + 1; omega) _)
theorem toward_any (b e i : Nat) (h2 : 2 ≤ e - b) (he : e ≤ 1099511627776) (w : World) :
    Calls Tryd.prog 79 #[sg b e, .int .i64 (i : Int)] w fun r w' => r = .returned (sg (Tree.twd i (b, e)).1 (Tree.twd i (b, e)).2) ∧ Below w.heap.size w w' := by
  refine (toward_at b e _ i h2 he rfl w).mono ?_
  rintro r w' ⟨rfl, h⟩
  refine ⟨?_, h⟩
  unfold Tree.twd
  by_cases hi : i < b + Tree.sp (e - b)
  · simp only [if_pos hi]
  · simp only [if_neg hi]
end Go.Proofs.YthoakchdlidemaaDoor

namespace Go.Proofs.YthoakchdlidemaaDoor
open Go.RowKit Go.Shelf
attribute [local go_sem] Oper.semAt_some
set_option maxRecDepth 100000 in
theorem way_any (n i : Int) (w : World) : Calls Tryd.prog 61 #[.int .i64 n, .int .i64 i] w fun r w' =>
    r = .returned (.func (.func 78) #[] #[.pointer (some ⟨w.heap.size, 0, none⟩), .pointer (some ⟨w.heap.size + 1, 0, none⟩)]) ∧ w' = (w.alloc (.cells #[.int .i64 n] 3)).alloc (.cells #[.int .i64 i] 3) := by
  go_enter Tryd.func61, Tryd.ntmps61
  go_wp2
  go_ret
  exact ⟨rfl, rfl⟩
/-- a span as it is handed to a loop -/
abbrev enS (s : Nat × Nat) : Array Value := #[sg s.1 s.2]
set_option maxRecDepth 100000 in
set_option maxHeartbeats 4000000 in
theorem way_iter (n i p q : Nat) (hn : 1 ≤ n) (hn2 : n ≤ 1099511627776) (hi : i < n) (w : World) (hp : w.cell? ⟨p, 0, none⟩ = some (.int .i64 (n : Int))) (hq : w.cell? ⟨q, 0, none⟩ = some (.int .i64 (i : Int))) :
    IterC Tryd.prog 78 #[.pointer (some ⟨p, 0, none⟩), .pointer (some ⟨q, 0, none⟩)] enS (Tree.wayF n 0 n i) (fun k => k = p ∨ k = q) (fun _ => False) w := by
  intro N l J Jx F W fJ fX hW hFC hY h0
  have hpl : p < w.heap.size := World.block_lt_of_cell? w ⟨p, 0, none⟩ hp
  have hql : q < w.heap.size := World.block_lt_of_cell? w ⟨q, 0, none⟩ hq
  have hp1 : W.cell? ⟨p, 0, none⟩ = some (.int .i64 (n : Int)) := (hW.cell (p := ⟨p, 0, none⟩) hpl).trans hp
  have hq1 : W.cell? ⟨q, 0, none⟩ = some (.int .i64 (i : Int)) := (hW.cell (p := ⟨q, 0, none⟩) hql).trans hq
  have hs := hW.size
  refine callsIn_of_wp Tryd.func78 rfl trivial ?_ rfl
  simp only [Tryd.ntmps78, List.size_toArray, List.length_cons, List.length_nil, Nat.reduceAdd, Nat.reduceSub, Array.replicate_succ, Array.replicate_zero, List.push_toArray, List.append_toArray, List.nil_append, List.cons_append]
  gi_wp2
  have S0 := SpI.new W 0 n
  have hFl := fJ.lt _ _ _ h0
  obtain ⟨g, hg⟩ : ∃ g, Hid (W.heap.size = g) := ⟨_, rfl⟩
  have K0 : Hid (Keep F W (W.alloc (.cells #[.int .i64 0, .int .i64 (n : Int)] 29))) := Keep.ofBelow ((Below.refl _ _).alloc (Nat.le_refl _) _)
  have J0 := hid (fJ.keep _ _ _ _ (fun _ => False) h0 (Keep.ofBelow ((Below.refl _ W).alloc (Nat.le_refl _) (.cells #[.int .i64 0, .int .i64 (n : Int)] 29))) (fun _ _ e => e))
  rw [hg.out] at S0
  rw [hg.out]
  have S0 := hid S0
  gi_loopw [7] (fun _ wr => ∃ (pre : List (Nat × Nat)) (f b e : Nat) (F' : Nat → Prop), Hid (Tree.wayF n 0 n i = pre ++ Tree.wayF f b (e - b) i) ∧ Hid (e - b ≤ f) ∧ b ≤ i ∧ i < e ∧ e ≤ n ∧ Hid (SpI wr g b e) ∧ Hid (J F' pre wr) ∧ Hid (Keep F W wr) ∧ Hid (∀ k, F' k → F k ∨ g < k)) (fun _ wr => memN wr g 1 - memN wr g 0)
  case atStart =>
    exact ⟨[], n, 0, n, F, rfl, Nat.le_refl _, by omega, hi, Nat.le_refl _, S0, J0, K0, fun k hk => .inl hk⟩
  case round =>
    obtain ⟨pre, f, b, e, F', hx, hf, hbi, hie, hen, hS, hJ, hK, hN⟩ := hrel
    clear S0 J0 K0
    have hng : ¬ F' g := fun h => by
      rcases hN.out g h with h | h
      · have := hFl g h; have := hg.out; omega
      · omega
    obtain ⟨rest, hr⟩ : ∃ rest, Hid (Tree.wayF f b (e - b) i = (b, e) :: rest) := by
      have := hf.out
      obtain ⟨f', rfl⟩ : ∃ f', f = f' + 1 := ⟨f - 1, by omega⟩
      refine ⟨(Tree.wayF (f' + 1) b (e - b) i).tail, ?_⟩
      unfold Hid
      rw [Tree.wayF, show b + (e - b) = e by omega]; rfl
    have hYy := hY F' pre (b, e) rest wr hJ.out (by rw [hx.out, hr.out])
    obtain ⟨fn, tmps, assign, body, hy, hR⟩ := hYy
    have c0 := hS.out.c0
    have c1 := hS.out.c1
    gi_wp2
    refine ⟨fun h => (by cases h), hR.mono ?_⟩
    clear hR hy c0 c1
    rintro e' W3 ⟨F3, hm, hh⟩
    have hn3 : Hid (∀ k, F3 k → F k ∨ g < k) := fun k hk => by
      rcases hm.new k hk with h | h
      · exact hN.out k h
      · have := lt_of_heap hS.out; exact .inr (by omega)
    have hng3 : ¬ F3 g := fun h => by
      rcases hn3.out g h with h | h
      · have := hFl g h; have := hg.out; omega
      · omega
    have hk3 : Hid (Keep F W W3) := hK.out.trans hm.keep fun k hk hf => by
      rcases hN.out k hf with h | h
      · exact h
      · have := hg.out; omega
    have hS3 := hS.out.keep hm.keep hng
    have c0 := hS3.c0
    have c1 := hS3.c1
    have hq3 : W3.cell? ⟨q, 0, none⟩ = some (.int .i64 (i : Int)) := by
      have hb := hk3.out.block q (by omega) (fun h => hFC q h (.inr rfl))
      exact (World.cell?_of_block (a := ⟨q, 0, none⟩) hb).trans hq1
    rcases hh with ⟨rfl, hJ3⟩ | ⟨rfl, hX3⟩
    · have i1 := slen_nat b e (by omega) (by omega) W3
      by_cases h1 : 1 < e - b
      · have h1' : (1 : Int) < ((e - b : Nat) : Int) := by omega
        gi_wp2
        refine ⟨trivial, fun h => (by cases h), (callsIn_wide.2 i1).mono ?_⟩
        clear i1 c0 c1
        rintro r W4 ⟨rfl, hb4⟩
        have hS4 := hS3.below hb4
        have c0 := hS4.c0
        have c1 := hS4.c1
        have hq4 : W4.cell? ⟨q, 0, none⟩ = some (.int .i64 (i : Int)) := (hb4.cell (p := ⟨q, 0, none⟩) (World.block_lt_of_cell? W3 ⟨q, 0, none⟩ hq3)).trans hq3
        have i2 := toward_any b e i (by omega) (by omega) W4
        gi_wp2
        refine ⟨trivial, fun h => (by cases h), (callsIn_wide.2 i2).mono ?_⟩
        clear i2 c0 c1
        rintro r W5 ⟨rfl, hb5⟩
        have hS5 := hS4.below hb5
        have c0 := hS5.c0
        have c1 := hS5.c1
        have f0 := hS5.f0
        have f1 := hS5.f1
        have hs2 : Hid ((Tree.twd i (b, e)).1 ≤ i ∧ i < (Tree.twd i (b, e)).2 ∧ b ≤ (Tree.twd i (b, e)).1 ∧ (Tree.twd i (b, e)).2 ≤ e ∧ (Tree.twd i (b, e)).2 - (Tree.twd i (b, e)).1 < e - b) := by
          have s1 := Tree.sp_lt (n := e - b) (by omega)
          have s2 := Tree.sp_pos (n := e - b) (by omega)
          unfold Hid Tree.twd
          by_cases h : i < b + Tree.sp (e - b)
          · simp only [if_pos h]; omega
          · simp only [if_neg h]; omega
        have hr2 : Hid (rest = Tree.wayF (f - 1) (Tree.twd i (b, e)).1 ((Tree.twd i (b, e)).2 - (Tree.twd i (b, e)).1) i) := by
          have hf := hf.out
          have hr := hr.out
          obtain ⟨f', rfl⟩ : ∃ f', f = f' + 1 := ⟨f - 1, by omega⟩
          unfold Hid
          rw [Nat.add_sub_cancel]
          unfold Tree.twd
          by_cases h : i < b + Tree.sp (e - b)
          · rw [Tree.wayF_left (by omega) h] at hr
            simp only [if_pos h]
            rw [show b + Tree.sp (e - b) - b = Tree.sp (e - b) by omega]
            injection hr with _ hr
            exact hr.symm
          · rw [Tree.wayF_right (by omega) h] at hr
            simp only [if_neg h]
            rw [show e - (b + Tree.sp (e - b)) = e - b - Tree.sp (e - b) by omega]
            injection hr with _ hr
            exact hr.symm
        generalize (Tree.twd i (b, e)).1 = b2 at *
        generalize (Tree.twd i (b, e)).2 = e2 at *
        gi_wp2
        go_roundw
        case rel =>
          refine ⟨pre ++ [(b, e)], f - 1, b2, e2, F3, ?_, ?_, hs2.out.1, hs2.out.2.1, by have := hs2.out; omega, hS5.two _ _, ?_, ?_, hn3⟩
          · unfold Hid; rw [hx.out, hr.out, hr2.out, List.append_assoc]; rfl
          · unfold Hid; have := hs2.out; have := hf.out; omega
          · exact fJ.keep _ _ _ _ (fun k => k = g) (fJ.keep _ _ _ _ (fun _ => False) hJ3 (Keep.ofBelow (hb4.trans (hb5.mono hb4.size))) (fun _ _ h => h)) ((Keep.ofSet (S := fun k => k = g) _ g 0 _ rfl).trans (Keep.ofSet (S := fun k => k = g) _ g 1 _ rfl) fun _ _ h => h) (fun k hk h => hng3 (h ▸ hk))
          · exact ((hk3.out.trans (Keep.ofBelow (S := F) (hb4.trans (hb5.mono hb4.size))) fun _ _ h => h).trans (Keep.ofSet (S := fun k => k = g) _ g 0 _ rfl) fun k hk h => by have := hg.out; omega).trans (Keep.ofSet (S := fun k => k = g) _ g 1 _ rfl) fun k hk h => by have := hg.out; omega
        case measure =>
          have h5 := (hS5.two (b2 : Int) (e2 : Int))
          have e1 : memN ((W5.setCell ⟨g, 0, none⟩ (.int .i64 (b2 : Int))).setCell ⟨g, 1, none⟩ (.int .i64 (e2 : Int))) g 1 = e2 := by unfold memN; rw [h5.c1]; exact Int.toNat_natCast _
          have e0 : memN ((W5.setCell ⟨g, 0, none⟩ (.int .i64 (b2 : Int))).setCell ⟨g, 1, none⟩ (.int .i64 (e2 : Int))) g 0 = b2 := by unfold memN; rw [h5.c0]; exact Int.toNat_natCast _
          have d1 : memN wr g 1 = e := by unfold memN; rw [hS.out.c1]; exact Int.toNat_natCast _
          have d0 : memN wr g 0 = b := by unfold memN; rw [hS.out.c0]; exact Int.toNat_natCast _
          rw [e1, e0, d1, d0]
          exact hs2.out.2.2.2.2
      · have h1' : ¬ (1 : Int) < ((e - b : Nat) : Int) := by omega
        gi_wp2
        refine ⟨trivial, fun h => (by cases h), (callsIn_wide.2 i1).mono ?_⟩
        clear i1 c0 c1
        rintro r W4 ⟨rfl, hb4⟩
        gi_wp2
        go_end0
        refine ⟨⟨_, rfl⟩, F3, ?_, fun k hk => ?_, .inl ?_⟩
        · exact (hk3.out.trans (Keep.ofBelow (S := F) hb4) fun _ _ h => h).mono fun k _ h => .inl h
        · rcases hn3.out k hk with h | h
          · exact .inl h
          · exact .inr (by have := hg.out; omega)
        · have e1 : rest = [] := by
            have hf := hf.out
            have hr := hr.out
            obtain ⟨f', rfl⟩ : ∃ f', f = f' + 1 := ⟨f - 1, by omega⟩
            rw [Tree.wayF_one (by omega)] at hr
            injection hr with _ hr
            exact hr.symm
          rw [hx.out, hr.out, e1]
          exact fJ.keep _ _ _ _ (fun _ => False) hJ3 (Keep.ofBelow hb4) (fun _ _ h => h)
    · gi_wp2
      refine ⟨trivial, ?_⟩
      gi_wp2
      go_end0
      refine ⟨⟨_, rfl⟩, F3, hk3.out.mono fun k _ h => .inl h, fun k hk => ?_, .inr ⟨pre ++ [(b, e)], ⟨rest, ?_⟩, hX3⟩⟩
      · rcases hn3.out k hk with h | h
        · exact .inl h
        · exact .inr (by have := hg.out; omega)
      · rw [hx.out, hr.out, List.append_assoc]; rfl
end Go.Proofs.YthoakchdlidemaaDoor

namespace Go.Proofs.YthoakchdlidemaaDoor
open Go.RowKit
theorem spU : Tryd.prog.underlying 29 = some (.struct (Tryd.prog.fieldsOf 29)) := by kernel_rfl
theorem spP : Tryd.prog.stoodInHeld 29 = false := by kernel_rfl
theorem spF : (Tryd.prog.fieldsOf 29).toList.map (fun f => (f.name, f.type, f.offset)) = [("Begin", 3, 0), ("End", 3, 1)] := by kernel_rfl
theorem two_fields {fs : List Field} {a b : String × TypeId × Nat} (h : fs.map (fun f => (f.name, f.type, f.offset)) = [a, b]) : ∃ f g, fs = [f, g] ∧ f.name = a.1 ∧ f.type = a.2.1 ∧ f.offset = a.2.2 ∧ g.name = b.1 ∧ g.type = b.2.1 ∧ g.offset = b.2.2 := by
  match fs, h with
  | [f, g], h =>
    simp only [List.map_cons, List.map_nil, List.cons.injEq, and_true] at h
    obtain ⟨h1, h2⟩ := h
    exact ⟨f, g, rfl, by rw [← h1], by rw [← h1], by rw [← h1], by rw [← h2], by rw [← h2], by rw [← h2]⟩
theorem part0 (a b : Value) (w : World) : (part 3 #[a, b] 0).run Tryd.prog w = .ok a w := by kernel_rfl
theorem part1 (a b : Value) (w : World) : (part 3 #[a, b] 1).run Tryd.prog w = .ok b w := by kernel_rfl
theorem eq_sp (p f q e : Int) (w : World) : (binOp .eql 29 (.agg #[.int .i64 p, .int .i64 f]) (.agg #[.int .i64 q, .int .i64 e])).run Tryd.prog w = .ok (.bool (p == q && f == e)) w := by
  rw [run_eql_struct, run_equalIn_agg w 9999 _ _ _ spU spP]
  obtain ⟨f1, f2, hf, a1, a2, a3, b1, b2, b3⟩ := two_fields spF
  rw [hf]
  simp only [Op.eqFields, a1, a2, a3, b1, b2, b3]
  simp only [Sem.run_ite, Sem.run_bind, part0, part1, Result.andThen_ok, run_equalIn_int w 9998 3 .i64 .i64 _ _ Tryd.underlying3]
  generalize (p == q) = u
  generalize (f == e) = v
  cases u <;> cases v <;> simp
end Go.Proofs.YthoakchdlidemaaDoor
