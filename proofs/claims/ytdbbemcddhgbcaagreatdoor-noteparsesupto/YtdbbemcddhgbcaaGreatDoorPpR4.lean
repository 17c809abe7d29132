import Derived.Test.YtdbbemcddhgbcaaGreatDoorPpNA1
import Derived.BigRegion
namespace Go.Proofs.YtdbbemcddhgbcaaGreatDoor
open Go.RowKit

/-- the blocks of the reference's 'block' while it lays down the words -/
structure RSched (s : Sha.St) (bl : List UInt8) (w : World) (k : Nat) (w' : World) : Prop where
  b0 : w'.heap[w.heap.size]? = some (.cells (nv s.l).toArray 92 (0, 0))
  b1 : ∃ C : Array Value, C.size = 8 ∧ w'.heap[w.heap.size + 1]? = some (.cells C 92 (0, 0))
  b2 : w'.heap[w.heap.size + 1 + 1]? = some (.cells (nv (Sha.sched bl k ++ List.replicate (64 - k) 0)).toArray 123 (0, 0))
  size : w'.heap.size = w.heap.size + 3
  below : Below w.heap.size w w'
theorem nv_set (l : List Nat) (m v : Nat) (h : 0 < m) : (nv (l ++ List.replicate m 0)).toArray.setIfInBounds l.length (.int .i64 (v : Int)) = (nv ((l ++ [v]) ++ List.replicate (m - 1) 0)).toArray := by
  obtain ⟨m, rfl⟩ : ∃ n, m = n + 1 := ⟨m - 1, by omega⟩
  simp [nv, List.replicate_succ]
theorem RSched.word {s : Sha.St} {bl : List UInt8} {w : World} {k : Nat} {w' : World} (inv : RSched s bl w k w') (j : Nat) (hj : j < k) :
    ∃ y : Nat, Hid (y = (Sha.sched bl k).getD j 0) ∧ y < 4294967296 ∧ w'.cell? ⟨w.heap.size + 1 + 1, j, none⟩ = some (.int .i64 (y : Int)) := by
  refine ⟨_, rfl, Sha.sched_getD_lt bl k j, ?_⟩
  rw [nv_cell inv.b2 j (by simp [Sha.sched_length]; omega)]
  simp only [List.getD_eq_getElem?_getD]
  rw [List.getElem?_append_left (by rw [Sha.sched_length]; exact hj)]
theorem RSched.drewN {s : Sha.St} {bl : List UInt8} {w : World} {k : Nat} {w' : World} (inv : RSched s bl w k w') (n : Nat) : RSched s bl w k (w'.drewN n) :=
  ⟨inv.b0, inv.b1, inv.b2, inv.size, below_drewN inv.below n⟩
theorem RSched.set {s : Sha.St} {bl : List UInt8} {w : World} {k : Nat} {w' : World} (inv : RSched s bl w k w') (hk : k < 64) :
    RSched s bl w (k + 1) (w'.setCell ⟨w.heap.size + 1 + 1, k, none⟩ (.int .i64 ((Sha.wNext bl (Sha.sched bl k) k : Nat) : Int))) := by
  have hl := Sha.sched_length bl k
  refine ⟨?_, ?_, ?_, ?_, ?_⟩
  · rw [heap_setCell_other _ _ _ _ (by show w.heap.size ≠ w.heap.size + 1 + 1; omega)]; exact inv.b0
  · obtain ⟨cs, h1, h2⟩ := inv.b1
    exact ⟨cs, h1, by rw [heap_setCell_other _ _ _ _ (by show w.heap.size + 1 ≠ w.heap.size + 1 + 1; omega)]; exact h2⟩
  · rw [heap_setCell_same _ _ _ _ _ _ inv.b2]
    have := nv_set (Sha.sched bl k) (64 - k) (Sha.wNext bl (Sha.sched bl k) k) (by omega)
    rw [hl] at this
    rw [this, show 64 - k - 1 = 64 - (k + 1) from by omega]
    rfl
  · simpa using inv.size
  · exact inv.below.setCell (by simp; omega) _
theorem rsched_start (s : Sha.St) (bl : List UInt8) (w : World) :
    RSched s bl w 0 (((w.alloc (.cells (nv s.l).toArray 92)).alloc (.cells (nv (List.replicate 8 0)).toArray 92)).alloc (.cells (nv (List.replicate 64 0)).toArray 123)) := by
  obtain ⟨h0, h1, h2, h3⟩ := alloc3 w (.cells (nv s.l).toArray 92) (.cells (nv (List.replicate 8 0)).toArray 92) (.cells (nv (List.replicate 64 0)).toArray 123)
  exact ⟨h0, ⟨_, by simp [nv], h1⟩, h2, h3, below_alloc3 _ _ _ _⟩
theorem inv_size {s : Sha.St} {bl : List UInt8} {w : World} {k : Nat} {w' : World} (inv : RSched s bl w k w') : w'.heap.size = w.heap.size + 3 := inv.size
/-- what the reference's 'block' holds behind the words: its state, its words, its table -/
structure RHold (s : Sha.St) (bl : List UInt8) (w : World) (w' : World) : Prop where
  b0 : w'.heap[w.heap.size]? = some (.cells (nv s.l).toArray 92 (0, 0))
  b1 : ∃ C : Array Value, C.size = 8 ∧ w'.heap[w.heap.size + 1]? = some (.cells C 92 (0, 0))
  b2 : w'.heap[w.heap.size + 1 + 1]? = some (.cells (nv (Sha.sched bl 64)).toArray 123 (0, 0))
  size : w.heap.size + 3 ≤ w'.heap.size
  below : Below w.heap.size w w'
theorem RHold.later {s : Sha.St} {bl : List UInt8} {w w' w'' : World} (h : RHold s bl w w') {B : Nat} (hb : Below B w' w'') (hB : w.heap.size + 3 ≤ B) : RHold s bl w w'' := by
  obtain ⟨C, h1, h2⟩ := h.b1
  exact ⟨(hb.block _ (by omega)).trans h.b0, ⟨C, h1, (hb.block _ (by omega)).trans h2⟩, (hb.block _ (by omega)).trans h.b2, Nat.le_trans h.size hb.size, h.below.trans (hb.mono (by omega))⟩
theorem RSched.hold {s : Sha.St} {bl : List UInt8} {w : World} {w' : World} (inv : RSched s bl w 64 w') : RHold s bl w w' :=
  ⟨inv.b0, inv.b1, by simpa using inv.b2, by rw [inv.size]; omega, inv.below⟩
theorem rk_start {s : Sha.St} {bl : List UInt8} {w wr w1 w2 : World} {K Z : Array Value} (hW2 : (w1.alloc (.cells Z 123)).setRow w1.heap.size K = w2) (hw1 : Below wr.heap.size wr w1) (h : RSched s bl w 64 wr) :
    w2.heap[w1.heap.size]? = some (.cells K 123 (0, 0)) ∧ RHold s bl w w2 ∧ w.heap.size + 3 ≤ w1.heap.size := by
  subst hW2
  have h1 := hw1.size
  have hsz := h.size
  refine ⟨setRow_heap _ _ _ _ _ _ (heap_alloc_new w1 _), ?_, by omega⟩
  exact h.hold.later (B := w.heap.size + 3) ((hw1.mono (by omega)).trans (Below.setRow ((Below.refl _ _).alloc (by omega) _) (by omega) _)) (Nat.le_refl _)
theorem rv_start {s : Sha.St} {bl : List UInt8} {w w2 w3 : World} {M : Nat} {V Z K : Array Value} (hW3 : (w2.alloc (.cells Z 92)).setRow w2.heap.size V = w3) (h : RHold s bl w w2) (hk : w2.heap[M]? = some (.cells K 123 (0, 0))) :
    w3.heap[w2.heap.size]? = some (.cells V 92 (0, 0)) ∧ RHold s bl w w3 ∧ w.heap.size + 3 ≤ w2.heap.size ∧ w3.heap[M]? = some (.cells K 123 (0, 0)) ∧ M < w2.heap.size := by
  subst hW3
  have hb : Below w2.heap.size w2 ((w2.alloc (.cells Z 92)).setRow w2.heap.size V) := Below.setRow ((Below.refl _ _).alloc (Nat.le_refl _) _) (Nat.le_refl _) _
  have hl := lt_of_heap hk
  exact ⟨setRow_heap _ _ _ _ _ _ (heap_alloc_new w2 _), h.later hb h.size, h.size, (hb.block M hl).trans hk, hl⟩
theorem RHold.setRow {s : Sha.St} {bl : List UInt8} {w w' : World} (h : RHold s bl w w') {V : Nat} (hV : w.heap.size + 3 ≤ V) (cs : Array Value) : RHold s bl w (w'.setRow V cs) :=
  h.later (B := w.heap.size + 3) (Below.setRow (Below.refl _ _) hV cs) (Nat.le_refl _)
theorem RHold.drewN {s : Sha.St} {bl : List UInt8} {w w' : World} (h : RHold s bl w w') (n : Nat) : RHold s bl w (w'.drewN n) :=
  ⟨h.b0, h.b1, h.b2, h.size, below_drewN h.below n⟩
/-- a round of the reference's 'block' -/
structure RLoop (s : Sha.St) (bl : List UInt8) (w : World) (V M : Nat) (v : Sha.St) (w' : World) : Prop where
  v : w'.heap[V]? = some (.cells (nv v.l).toArray 92 (0, 0))
  m : w'.heap[M]? = some (.cells (nv Sha.kTab).toArray 123 (0, 0))
  h : RHold s bl w w'
theorem RLoop.set {s : Sha.St} {bl : List UInt8} {w : World} {V M : Nat} {v v' : Sha.St} {w' : World} (hl : RLoop s bl w V M v w') (hV : w.heap.size + 3 ≤ V) (hM : M < V) {cs : Array Value} (hc : cs = (nv v'.l).toArray) (n : Nat) : RLoop s bl w V M v' ((w'.drewN n).setRow V cs) := by
  subst hc
  exact ⟨setRow_heap _ _ _ _ _ _ hl.v, (setRow_other _ _ _ _ (by omega)).trans hl.m, (hl.h.drewN n).setRow hV _⟩
/-- the last loop: the state's words are added -/
structure RAdd (s v : Sha.St) (w : World) (V : Nat) (k : Nat) (w' : World) : Prop where
  b0 : w'.heap[w.heap.size]? = some (.cells (nv ((Sha.addSt s v).l.take k ++ s.l.drop k)).toArray 92 (0, 0))
  b1 : ∃ C : Array Value, C.size = 8 ∧ w'.heap[w.heap.size + 1]? = some (.cells C 92 (0, 0))
  bV : w'.heap[V]? = some (.cells (nv v.l).toArray 92 (0, 0))
  lt : w.heap.size + 3 ≤ V
  below : Below w.heap.size w w'
theorem rAdd_start {s : Sha.St} {bl : List UInt8} {w : World} {V M : Nat} {v : Sha.St} {w' : World} (hV : w.heap.size + 3 ≤ V) (h : RLoop s bl w V M v w') : RAdd s v w V 0 w' :=
  ⟨by simpa using h.h.b0, h.h.b1, h.v, hV, h.h.below⟩
theorem RAdd.cell0 {s v : Sha.St} {w : World} {V k : Nat} {w' : World} (h : RAdd s v w V k w') (hk : k < 8) : w'.cell? ⟨w.heap.size, k, none⟩ = some (.int .i64 ((s.l.getD k 0 : Nat) : Int)) := by
  have h8 : (Sha.addSt s v).l.length = 8 := rfl
  have h8' : s.l.length = 8 := rfl
  rw [nv_cell h.b0 k (by simp [h8, h8']; omega)]
  simp only [List.getD_eq_getElem?_getD]
  rw [List.getElem?_append_right (by simp [h8]; omega)]
  simp [h8, Nat.min_eq_left (Nat.le_of_lt hk)]
theorem RAdd.set {s v : Sha.St} {w : World} {V k : Nat} {w' : World} (h : RAdd s v w V k w') (hk : k < 8) (n : Nat) (hn : n = (s.l.getD k 0 + v.l.getD k 0) % 4294967296) :
    RAdd s v w V (k + 1) (w'.setCell ⟨w.heap.size, k, none⟩ (.int .i64 (n : Int))) := by
  obtain ⟨C, h1, h2⟩ := h.b1
  have hlt := h.lt
  refine ⟨?_, ⟨C, h1, (heap_setCell_other _ _ _ _ (by show w.heap.size + 1 ≠ w.heap.size; omega)).trans h2⟩, (heap_setCell_other _ _ _ _ (by show V ≠ w.heap.size; omega)).trans h.bV, h.lt, h.below.setCell (Nat.le_refl _) _⟩
  rw [heap_setCell_same _ _ _ _ _ _ h.b0]
  congr 2
  subst hn
  match k, hk with
  | 0, _ => rfl
  | 1, _ => rfl
  | 2, _ => rfl
  | 3, _ => rfl
  | 4, _ => rfl
  | 5, _ => rfl
  | 6, _ => rfl
  | 7, _ => rfl
theorem rstep_cells (kk ww a b c d e f g h X Y : Nat) (hX : X = Sha.xOf kk ww ⟨a, b, c, d, e, f, g, h⟩) (hY : Y = Sha.yOf ⟨a, b, c, d, e, f, g, h⟩) :
    #[Value.int .i64 (((X + Y) % 4294967296 : Nat) : Int), Value.int .i64 (a : Int), Value.int .i64 (b : Int), Value.int .i64 (c : Int), Value.int .i64 (((d + X) % 4294967296 : Nat) : Int), Value.int .i64 (e : Int), Value.int .i64 (f : Int), Value.int .i64 (g : Int)] = (nv (Sha.step kk ww ⟨a, b, c, d, e, f, g, h⟩).l).toArray := by
  subst hX hY; rfl
theorem nvk_size : (nv Sha.kTab).toArray.size = 64 := by rw [List.size_toArray, nv_length, kTab_length]
theorem nv8_size (s : Sha.St) : (nv s.l).toArray.size = 8 := rfl
/-- s[i] of a string -/
theorem index_str (s : ByteArray) (i : Int) (k : Nat) (hi : i = (k : Int)) (h : k < s.size) :
    ∃ x : Nat, Hid (x = (s.data.toList.getD k 0).toNat) ∧ x < 256 ∧ ∀ w, (Instr.index 9 (.string s) (.int .i64 i)).run Tryz.prog w = .ok (.int .u8 (x : Int)) w := by
  refine ⟨_, rfl, UInt8.toNat_lt _, fun w => ?_⟩
  subst hi
  rw [run_index_string w 9 s .i64 (k : Int) Tryz.underlying9]
  simp [h]
  rfl

theorem w64_2 (a b : Nat) (ha : a < 4294967296) (hb : b < 4294967296) : wrap64 ((a : Int) + (b : Int)) = (a : Int) + (b : Int) := by unfold wrap64; omega
theorem w64 (n : Int) (h0 : 0 ≤ n) (h1 : n < 9223372036854775808) : wrap64 n = n := by unfold wrap64; omega

set_option maxRecDepth 100000 in
set_option maxHeartbeats 2000000 in
theorem block_any (s : Sha.St) (hs : s.ok) (bl : ByteArray) (hb : bl.size = 64) (w : World) :
    Calls Tryz.prog 64 #[.agg (nv s.l).toArray, .string bl] w fun e w' => e = .returned (.agg (nv (Sha.fold s bl.data.toList).l).toArray) ∧ Below w.heap.size w w' := by
  go_enter Tryz.func64, Tryz.ntmps64
  go_wp2
  go_loopw [6] (fun i w' => ∃ k : Nat, k ≤ 64 ∧ i = .int .i64 k ∧ RSched s bl.data.toList w k w') (fun i _ => 64 - (intOf i).toNat)
  case atStart => exact ⟨0, by omega, rfl, rsched_start s bl.data.toList w⟩
  case round =>
    obtain ⟨t, ht, rfl, inv⟩ := hrel
    by_cases hlt : t < 64
    · have b0 : (t : Int) < 64 := by omega
      have c4 := nv_cell inv.b2 t (by simp [Sha.sched_length]; omega)
      have f4 : wr.frozen? ⟨w.heap.size + 1 + 1, t, none⟩ = false := frozen_of_row _ _ _ _ _ inv.b2
      by_cases h16 : t < 16
      · have h16' : (t : Int) < 16 := by omega
        have v0 : IntKind.i64.wrap (4 * (t : Int)) = 4 * (t : Int) := wrap_small _ (by omega) (by omega)
        have v1 : IntKind.i64.wrap (4 * (t : Int) + 1) = 4 * (t : Int) + 1 := wrap_small _ (by omega) (by omega)
        have v2 : IntKind.i64.wrap (4 * (t : Int) + 2) = 4 * (t : Int) + 2 := wrap_small _ (by omega) (by omega)
        have v3 : IntKind.i64.wrap (4 * (t : Int) + 3) = 4 * (t : Int) + 3 := wrap_small _ (by omega) (by omega)
        obtain ⟨x0, e0, l0, i0⟩ := index_str bl (4 * (t : Int)) (4 * t) (by omega) (by omega)
        obtain ⟨x1, e1, l1, i1⟩ := index_str bl (4 * (t : Int) + 1) (4 * t + 1) (by omega) (by omega)
        obtain ⟨x2, e2, l2, i2⟩ := index_str bl (4 * (t : Int) + 2) (4 * t + 2) (by omega) (by omega)
        obtain ⟨x3, e3, l3, i3⟩ := index_str bl (4 * (t : Int) + 3) (4 * t + 3) (by omega) (by omega)
        go_wp2
        go_region
        go_wp2
        refine ⟨?_, by simp [intOf]; omega⟩
        have g := RSched.drewN (RSched.set inv hlt) 1
        rw [Sha.wNext, if_pos h16, ← e0.out, ← e1.out, ← e2.out, ← e3.out, ← Sha.rword_walk x0 x1 x2 x3 l0 l1 l2 l3] at g
        first | exact ⟨t + 1, by omega, by go_num, g⟩ | ((repeat apply Exists.intro); exact ⟨⟨t + 1, by omega, by go_num, g⟩, rfl⟩)
      · have h16' : ¬ (t : Int) < 16 := by omega
        have b1 : (0 : Int) ≤ (t : Int) - 2 := by omega
        have b2 : (t : Int) - 2 < 64 := by omega
        have b4 : (0 : Int) ≤ (t : Int) - 7 := by omega
        have b5 : (t : Int) - 7 < 64 := by omega
        have b6 : (0 : Int) ≤ (t : Int) - 15 := by omega
        have b7 : (t : Int) - 15 < 64 := by omega
        have b8 : (0 : Int) ≤ (t : Int) - 16 := by omega
        have b9 : (t : Int) - 16 < 64 := by omega
        have d1 : (7 : Int) ≤ (t : Int) := by omega
        have d2 : (16 : Int) ≤ (t : Int) := by omega
        obtain ⟨o7, ho7⟩ : ∃ o, o = t - 7 := ⟨_, rfl⟩
        obtain ⟨o16, ho16⟩ : ∃ o, o = t - 16 := ⟨_, rfl⟩
        have n1 : ¬ (t = o7) := by omega
        have n2 : ¬ (t = o16) := by omega
        have n3 : ¬ (o7 = t) := by omega
        have n4 : ¬ (o16 = t) := by omega
        have t1 : ((t : Int) - 7).toNat = o7 := by omega
        have t3 : ((t : Int) - 16).toNat = o16 := by omega
        have v1 : IntKind.i64.wrap ((t : Int) - 2) = (t : Int) - 2 := wrap_small _ (by omega) (by omega)
        have v2 : IntKind.i64.wrap ((t : Int) - 7) = (t : Int) - 7 := wrap_small _ (by omega) (by omega)
        have v3 : IntKind.i64.wrap ((t : Int) - 15) = (t : Int) - 15 := wrap_small _ (by omega) (by omega)
        have v4 : IntKind.i64.wrap ((t : Int) - 16) = (t : Int) - 16 := wrap_small _ (by omega) (by omega)
        have t0 : ((t : Int) - 2).toNat = t - 2 := by omega
        have t2 : ((t : Int) - 15).toNat = t - 15 := by omega
        obtain ⟨y2, e2, l2, c2⟩ := RSched.word inv (t - 2) (by omega)
        obtain ⟨y7, e7, l7, c7⟩ := RSched.word inv o7 (by omega)
        obtain ⟨y15, e15, l15, c15⟩ := RSched.word inv (t - 15) (by omega)
        obtain ⟨y16, e16, l16, c16⟩ := RSched.word inv o16 (by omega)
        have Ho7 := hid ho7
        have Ho16 := hid ho16
        clear ho7 ho16
        have hs0 := Sha.rs0_walk y15 l15
        have hs1 := Sha.rs1_walk y2 l2
        have q0 := Sha.s0_lt y15 l15
        have q1 := Sha.s1_lt y2 l2
        have hlow := Sha.low4 (Sha.s1 y2) y7 (Sha.s0 y15) y16 q1 l7 q0 l16
        go_wp2_with (go_at_call 88; fail)
        refine (rror_any y2 _ l2 (by decide) (by decide) _).mono ?_; rintro e' w' ⟨rfl, nq, rfl⟩
        go_wp2_with (go_at_call 88; fail)
        refine (rror_any y2 _ l2 (by decide) (by decide) _).mono ?_; rintro e' w' ⟨rfl, nq, rfl⟩
        go_wp2_with (go_at_call 88; fail)
        refine (rror_any y15 _ l15 (by decide) (by decide) _).mono ?_; rintro e' w' ⟨rfl, nq, rfl⟩
        go_wp2_with (go_at_call 88; fail)
        refine (rror_any y15 _ l15 (by decide) (by decide) _).mono ?_; rintro e' w' ⟨rfl, nq, rfl⟩
        go_wp2
        generalize hN : wr.drewN _ = wn
        have inv2 : RSched s bl.data.toList w t wn := hN ▸ inv.drewN _
        have c7' : wn.cell? ⟨w.heap.size + 1 + 1, o7, none⟩ = some (.int .i64 (y7 : Int)) := by rw [← hN]; exact c7
        have c16' : wn.cell? ⟨w.heap.size + 1 + 1, o16, none⟩ = some (.int .i64 (y16 : Int)) := by rw [← hN]; exact c16
        have c4' := nv_cell inv2.b2 t (by simp [Sha.sched_length]; omega)
        have f4' : wn.frozen? ⟨w.heap.size + 1 + 1, t, none⟩ = false := frozen_of_row _ _ _ _ _ inv2.b2
        clear hN c2 c7 c15 c16 c4 f4 hs0 hs1 inv
        have p1 : IntKind.i64.wrap (((Sha.s1 y2 : Nat) : Int) + (y7 : Int)) = ((Sha.s1 y2 : Nat) : Int) + (y7 : Int) := Sha.wrap2 _ _ q1 l7
        have p2 : IntKind.i64.wrap (((Sha.s1 y2 : Nat) : Int) + (y7 : Int) + ((Sha.s0 y15 : Nat) : Int)) = ((Sha.s1 y2 : Nat) : Int) + (y7 : Int) + ((Sha.s0 y15 : Nat) : Int) := Sha.wrap3 _ _ _ q1 l7 q0
        have p3 : IntKind.i64.wrap (((Sha.s1 y2 : Nat) : Int) + (y7 : Int) + ((Sha.s0 y15 : Nat) : Int) + (y16 : Int)) = ((Sha.s1 y2 : Nat) : Int) + (y7 : Int) + ((Sha.s0 y15 : Nat) : Int) + (y16 : Int) := Sha.wrap4 _ _ _ _ q1 l7 q0 l16
        go_region_held3 (fun w' => w'.cell? ⟨w.heap.size + 1 + 1, o7, none⟩ = some (.int .i64 y7) ∧ w'.cell? ⟨w.heap.size + 1 + 1, o16, none⟩ = some (.int .i64 y16)) (first | exact ⟨c7', c16'⟩ | exact ⟨(World.cell?_setCell_other _ _ _ _ (by simp)).trans c7', (World.cell?_setCell_other _ _ _ _ (by simp)).trans c16'⟩) (fail)
        clear p1 p2 p3
        go_wp2
        refine ⟨?_, by simp [intOf]; omega⟩
        have g := RSched.drewN (RSched.set inv2 hlt) 1
        rw [Sha.wNext, if_neg h16, ← e2.out, ← Ho7.out, ← e7.out, ← e15.out, ← Ho16.out, ← e16.out] at g
        exact ⟨t + 1, by omega, by go_num, g⟩
    · obtain rfl : t = 64 := by omega
      have hb2 : wr.heap[w.heap.size + 1 + 1]? = some (.cells (nv (Sha.sched bl.data.toList 64)).toArray 123 (0, 0)) := by simpa using inv.b2
      have Hb2 := hid hb2
      have Inv := hid inv
      clear hb2 inv
      go_wp2_with (first
        | (go_at_call 89; refine (rounds_any _).mono ?_; rintro e w1 ⟨rfl, hw1⟩)
        | (with_reducible show wpList _ _ _ (Oper.mk _ (Op.store 123 _ _) _ _ _ _ :: _) _ _; go_must (refine wpList_store_row rfl 123 _ _ rfl w1.heap.size _ rfl rfl 123 _ (heap_alloc_new w1 _) (size64n kTab_length) (by rw [nvk_size]; decide +kernel) (nv_one _) ?_); go_must (generalize hW2 : (w1.alloc _).setRow w1.heap.size (nv Sha.kTab).toArray = w2; obtain ⟨hk2, inv2, hsz2⟩ := rk_start hW2 hw1 Inv.out; clear hW2 hw1 Inv; have Inv2 := hid inv2; have hk3 := hid hk2; clear hk2 inv2; generalize w1.heap.size = M at *))
        | (with_reducible show wpList _ _ _ (Oper.mk _ (Op.load 92 _) _ _ _ _ :: _) _ _; go_must (refine wpList_load_row rfl 92 _ rfl w.heap.size rfl 92 _ (0, 0) _ Inv2.out.b0 Tryz.underlying92 rfl (size8n rfl) ?_))
        | (with_reducible show wpList _ _ _ (Oper.mk _ (Op.store 92 _ _) _ _ _ _ :: _) _ _; go_must (refine wpList_store_row rfl 92 _ _ rfl w2.heap.size _ rfl rfl 92 _ (heap_alloc_new w2 _) (size8n rfl) (by rw [nv8_size]; decide +kernel) (nv_one _) ?_); go_must (generalize hW3 : (w2.alloc _).setRow w2.heap.size (nv s.l).toArray = w3; obtain ⟨hv3, inv3, hsz3, hk4, hM⟩ := rv_start hW3 Inv2.out hk3.out; clear hW3 Inv2 hk3; generalize w2.heap.size = V at *)))
      have Inv3 := hid inv3
      have Hv3 := hid hv3
      have Hk4 := hid hk4
      clear inv3 hv3 hk4
      go_loopw [13] (fun i w' => ∃ (t : Nat) (v : Sha.St), t ≤ 64 ∧ i = .int .i64 t ∧ Hid (v = Sha.rnds (Sha.sched bl.data.toList 64) s t) ∧ v.ok ∧ RLoop s bl.data.toList w V M v w') (fun i _ => 64 - (intOf i).toNat)
      case atStart => exact ⟨0, s, by omega, rfl, rfl, hs, Hv3.out, Hk4.out, Inv3.out⟩
      case round =>
        clear Inv3 Hv3 Hk4
        obtain ⟨t, ⟨a, b, c, d, e, f, g, h⟩, ht, rfl, hv, ⟨va, vb, vc, vd, ve, vf, vg, vh⟩, hloop⟩ := hrel
        have hV := hloop.v
        have hK := hloop.m
        have inv := hloop.h
        dsimp only at va vb vc vd ve vf vg vh
        by_cases hlt : t < 64
        · have b0 : (t : Int) < 64 := by omega
          have z0 := nv_cell hV 0 (by simp [Sha.St.l])
          have z1 := nv_cell hV 1 (by simp [Sha.St.l])
          have z2 := nv_cell hV 2 (by simp [Sha.St.l])
          have z3 := nv_cell hV 3 (by simp [Sha.St.l])
          have z4 := nv_cell hV 4 (by simp [Sha.St.l])
          have z5 := nv_cell hV 5 (by simp [Sha.St.l])
          have z6 := nv_cell hV 6 (by simp [Sha.St.l])
          have z7 := nv_cell hV 7 (by simp [Sha.St.l])
          simp only [Sha.St.l, List.getD_cons_zero, List.getD_cons_succ] at z0 z1 z2 z3 z4 z5 z6 z7
          obtain ⟨kk, ek, lk, ck⟩ : ∃ y : Nat, Hid (y = Sha.kTab.getD t 0) ∧ y < 4294967296 ∧ wr.cell? ⟨M, t, none⟩ = some (.int .i64 (y : Int)) := ⟨_, rfl, Sha.kTab_getD_lt t, nv_cell hK t (by rw [kTab_length]; exact hlt)⟩
          obtain ⟨ww, ew, lw, cw⟩ : ∃ y : Nat, Hid (y = (Sha.sched bl.data.toList 64).getD t 0) ∧ y < 4294967296 ∧ wr.cell? ⟨w.heap.size + 1 + 1, t, none⟩ = some (.int .i64 (y : Int)) := ⟨_, rfl, Sha.sched_getD_lt _ 64 t, nv_cell inv.b2 t (by rw [Sha.sched_length]; exact hlt)⟩
          have hS1 := Sha.rS1_walk e ve
          have hS0 := Sha.rS0_walk a va
          have hch := Sha.rch_walk e f g ve vf vg
          have hmaj := Sha.rmaj_walk a b c va vb vc
          have q1 := Sha.S1_lt e ve
          have q2 := Sha.S0_lt a va
          have q3 := Sha.ch_lt e f g ve
          have q4 := Sha.maj_lt a b c va vb
          obtain ⟨X, hX, lX, rX⟩ : ∃ X : Nat, Hid (X = Sha.xOf kk ww ⟨a, b, c, d, e, f, g, h⟩) ∧ X < 4294967296 ∧ bits .and .i64 ((h : Int) + (Sha.S1 e : Nat) + (Sha.ch e f g : Nat) + (kk : Int) + (ww : Int)) 4294967295 = (X : Int) := ⟨_, rfl, Sha.xOf_lt _ _ _, Sha.low5 _ _ _ _ _ vh q1 q3 lk lw⟩
          obtain ⟨Y, hY, lY, rY⟩ : ∃ Y : Nat, Hid (Y = Sha.yOf ⟨a, b, c, d, e, f, g, h⟩) ∧ Y < 4294967296 ∧ bits .and .i64 (((Sha.S0 a : Nat) : Int) + (Sha.maj a b c : Nat)) 4294967295 = (Y : Int) := ⟨_, rfl, Nat.mod_lt _ (by decide), Sha.low2 _ _ q2 q4⟩
          obtain ⟨XY, hXY, rXY⟩ : ∃ n : Nat, Hid (n = (X + Y) % 4294967296) ∧ bits .and .i64 ((X : Int) + (Y : Int)) 4294967295 = (n : Int) := ⟨_, rfl, Sha.low2 _ _ lX lY⟩
          obtain ⟨DX, hDX, rDX⟩ : ∃ n : Nat, Hid (n = (d + X) % 4294967296) ∧ bits .and .i64 ((d : Int) + (X : Int)) 4294967295 = (n : Int) := ⟨_, rfl, Sha.low2 _ _ vd lX⟩
          have HL := hid hloop
          have HV := hid hV
          have RX := hid rX
          have RY := hid rY
          have RXY := hid rXY
          have RDX := hid rDX
          have HS0 := hid hS0
          have Hmaj := hid hmaj
          clear inv hV hK hloop rX rY rXY rDX hS0 hmaj
          go_wp2_with (go_at_call 88; refine (rror_any e _ ve (by decide) (by decide) _).mono ?_; rintro e' w' ⟨rfl, nq, rfl⟩)
          clear hS1 hch
          go_quiet (fail)
          rw [RX.out]
          have hS0 := HS0.out
          have hmaj := Hmaj.out
          have rY := RY.out
          go_wp2_with (go_at_call 88; fail)
          refine (rror_any a _ va (by decide) (by decide) _).mono ?_; rintro e' w' ⟨rfl, nq, rfl⟩
          go_wp2_with (go_at_call 88; fail)
          refine (rror_any a _ va (by decide) (by decide) _).mono ?_; rintro e' w' ⟨rfl, nq, rfl⟩
          go_wp2_with (go_at_call 88; fail)
          refine (rror_any a _ va (by decide) (by decide) _).mono ?_; rintro e' w' ⟨rfl, nq, rfl⟩
          have rXY := RXY.out
          have rDX := RDX.out
          go_wp2_with (with_reducible show wpList _ _ _ (Oper.mk _ (Op.store 92 _ _) _ _ _ _ :: _) _ _; go_must (refine wpList_store_row rfl 92 _ _ rfl V _ rfl rfl 92 (nv (Sha.St.mk a b c d e f g h).l).toArray (by rw [World.heap_drewN]; exact HV.out) (by rw [info8n]; simp) (by rw [nv8_size]; simp) (by simp [Value.oneCell']) ?_))
          refine ⟨?_, by simp [intOf]; omega⟩
          rw [w64_2 (Sha.S0 a) (Sha.maj a b c) q2 q4, RY.out, w64_2 X Y lX lY, RXY.out]
          have hcells := rstep_cells kk ww a b c d e f g h X Y hX.out hY.out
          rw [← hXY.out, ← hDX.out] at hcells
          refine ⟨t + 1, Sha.step kk ww ⟨a, b, c, d, e, f, g, h⟩, by omega, by go_num, ?_, Sha.step_ok _ _ _ ⟨va, vb, vc, vd, ve, vf, vg, vh⟩, RLoop.set HL.out hsz3 hM hcells _⟩
          show Sha.step kk ww ⟨a, b, c, d, e, f, g, h⟩ = Sha.step (Sha.kTab.getD t 0) ((Sha.sched bl.data.toList 64).getD t 0) (Sha.rnds (Sha.sched bl.data.toList 64) s t)
          rw [← hv.out, ← ek.out, ← ew.out]
        · obtain rfl : t = 64 := by omega
          have Hf := hid (show Sha.fold s bl.data.toList = Sha.addSt s ⟨a, b, c, d, e, f, g, h⟩ by rw [hv.out]; rfl)
          clear hV hK inv
          go_wp2
          go_loopw [22] (fun i w' => ∃ t : Nat, t ≤ 8 ∧ i = .int .i64 t ∧ RAdd s ⟨a, b, c, d, e, f, g, h⟩ w V t w') (fun i _ => 8 - (intOf i).toNat)
          case atStart => exact ⟨0, by omega, rfl, rAdd_start hsz3 hloop⟩
          case round =>
            obtain ⟨t, ht, rfl, hadd⟩ := hrel
            by_cases hlt8 : t < 8
            · have b0 : (t : Int) < 8 := by omega
              obtain ⟨x, ex, lx, cx⟩ : ∃ y : Nat, Hid (y = s.l.getD t 0) ∧ y < 4294967296 ∧ wr.cell? ⟨w.heap.size, t, none⟩ = some (.int .i64 (y : Int)) := ⟨_, rfl, Sha.l_lt hs t, hadd.cell0 hlt8⟩
              obtain ⟨y, ey, ly, cy⟩ : ∃ y : Nat, Hid (y = (Sha.St.mk a b c d e f g h).l.getD t 0) ∧ y < 4294967296 ∧ wr.cell? ⟨V, t, none⟩ = some (.int .i64 (y : Int)) := ⟨_, rfl, Sha.l_lt ⟨va, vb, vc, vd, ve, vf, vg, vh⟩ t, nv_cell hadd.bV t (by simpa [Sha.St.l] using hlt8)⟩
              have f0 : wr.frozen? ⟨w.heap.size, t, none⟩ = false := frozen_of_row _ _ _ _ _ hadd.b0
              obtain ⟨xy, hxy, rxy⟩ : ∃ n : Nat, Hid (n = (x + y) % 4294967296) ∧ bits .and .i64 ((x : Int) + (y : Int)) 4294967295 = (n : Int) := ⟨_, rfl, Sha.low2 _ _ lx ly⟩
              have ne1 : ¬ (w.heap.size = V) := by omega
              have ne2 : ¬ (V = w.heap.size) := by omega
              have Hadd := hid hadd
              clear hadd va vb vc vd ve vf vg vh
              go_wp2
              go_region
              go_wp2
              refine ⟨?_, by simp [intOf]; omega⟩
              have g' := RAdd.set Hadd.out hlt8 xy (by rw [hxy.out, ex.out, ey.out])
              exact ⟨t + 1, by omega, by go_num, ⟨g'.b0, g'.b1, g'.bV, g'.lt, g'.below.drew⟩⟩
            · obtain rfl : t = 8 := by omega
              have h0 : wr.heap[w.heap.size]? = some (.cells (nv (Sha.fold s bl.data.toList).l).toArray 92 (0, 0)) := by rw [Hf.out]; exact hadd.b0
              obtain ⟨C, hC, h1⟩ := hadd.b1
              have hbl := hadd.below
              clear hadd
              have H0 := hid h0
              have H1 := hid h1
              clear h0 h1
              go_wp2_with (first
                | (with_reducible show wpList _ _ _ (Oper.mk _ (Op.load 92 _) _ _ _ _ :: _) _ _; go_must (refine wpList_load_row rfl 92 _ rfl w.heap.size rfl 92 _ (0, 0) _ H0.out Tryz.underlying92 rfl (size8n rfl) ?_))
                | (with_reducible show wpList _ _ _ (Oper.mk _ (Op.store 92 _ _) _ _ _ _ :: _) _ _; go_must (refine wpList_store_row rfl 92 _ _ rfl (w.heap.size + 1) _ rfl rfl 92 C H1.out (size8n rfl) (by rw [nv8_size]; exact hC) (nv_one _) ?_)))
              refine bodyPost_ret (v := .agg (nv (Sha.fold s bl.data.toList).l).toArray) (results_cell_row rfl _ _ (w.heap.size + 1) 92 _ (0, 0) _ rfl (setRow_heap _ _ C _ _ _ H1.out) Tryz.underlying92 rfl (size8n rfl)) rfl ⟨rfl, ?_⟩
              exact Below.setRow hbl (by omega) _
end Go.Proofs.YtdbbemcddhgbcaaGreatDoor
