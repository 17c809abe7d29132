import Derived.Test.YtappjeepajjioaaDoorPkW7
import Derived.BigRegion
import Derived.Test.YtappjeepajjioaaDoorPkM1
import Derived.Lib.Strings
import Derived.Lib.Slices
import Derived.Lib.Small
import Derived.Lib.Walk
import Derived.Lib.BitFns
import Derived.Laws.EntriesVeiled
namespace Go.Proofs.YtappjeepajjioaaDoor
open Go.RowKit

/-- the blocks of the reference's 'block' while it lays down the words -/
structure RSched (s : Sha.St) (bl : List UInt8) (w : World) (k : Nat) (w' : World) : Prop where
  b0 : w'.heap[w.heap.size]? = some (.cells (nv s.l).toArray 74 (0, 0))
  b1 : ∃ C : Array Value, C.size = 8 ∧ w'.heap[w.heap.size + 1]? = some (.cells C 74 (0, 0))
  b2 : w'.heap[w.heap.size + 1 + 1]? = some (.cells (nv (Sha.sched bl k ++ List.replicate (64 - k) 0)).toArray 91 (0, 0))
  size : w'.heap.size = w.heap.size + 3
  below : Below w.heap.size w w'
theorem nv_set (l : List Nat) (m v : Nat) (h : 0 < m) : (nv (l ++ List.replicate m 0)).toArray.setIfInBounds l.length (.int .i64 (v : Int)) = (nv ((l ++ [v]) ++ List.replicate (m - 1) 0)).toArray := by
  obtain ⟨m, rfl⟩ : ∃ n, m = n + 1 := ⟨m - 1, by omega⟩
  simp [nv, List.replicate_succ]
theorem RSched.word {s : Sha.St} {bl : List UInt8} {w : World} {k : Nat} {w' : World} (inv : RSched s bl w k w') (j : Nat) (hj : j < k) :
    ∃ y : Nat, Hid (y = (Sha.sched bl k).getD j 0) ∧ y < 4294967296 ∧ w'.cell? ⟨w.heap.size + 1 + 1, j, none⟩ = some (.int .i64 (y : Int)) := by
  refine ⟨_, rfl, Sha.sched_getD_lt bl k j, ?_⟩
  rw [nv_cell inv.b2 j (by simp [Sha.sched_length]; omega)]
  simp only [List.getD_eq_getElem?_getD]
  rw [List.getElem?_append_left (by rw [Sha.sched_length]; exact hj)]
theorem RSched.drewN {s : Sha.St} {bl : List UInt8} {w : World} {k : Nat} {w' : World} (inv : RSched s bl w k w') (n : Nat) : RSched s bl w k (w'.drewN n) :=
  ⟨inv.b0, inv.b1, inv.b2, inv.size, below_drewN inv.below n⟩
theorem RSched.set {s : Sha.St} {bl : List UInt8} {w : World} {k : Nat} {w' : World} (inv : RSched s bl w k w') (hk : k < 64) :
    RSched s bl w (k + 1) (w'.setCell ⟨w.heap.size + 1 + 1, k, none⟩ (.int .i64 ((Sha.wNext bl (Sha.sched bl k) k : Nat) : Int))) := by
  have hl := Sha.sched_length bl k
  refine ⟨?_, ?_, ?_, ?_, ?_⟩
  · rw [heap_setCell_other _ _ _ _ (by show w.heap.size ≠ w.heap.size + 1 + 1; omega)]; exact inv.b0
  · obtain ⟨cs, h1, h2⟩ := inv.b1
    exact ⟨cs, h1, by rw [heap_setCell_other _ _ _ _ (by show w.heap.size + 1 ≠ w.heap.size + 1 + 1; omega)]; exact h2⟩
  · rw [heap_setCell_same _ _ _ _ _ _ inv.b2]
    have := nv_set (Sha.sched bl k) (64 - k) (Sha.wNext bl (Sha.sched bl k) k) (by omega)
    rw [hl] at this
    rw [this, show 64 - k - 1 = 64 - (k + 1) from by omega]
    rfl
  · simpa using inv.size
  · exact inv.below.setCell (by simp; omega) _
theorem rsched_start (s : Sha.St) (bl : List UInt8) (w : World) :
    RSched s bl w 0 (((w.alloc (.cells (nv s.l).toArray 74)).alloc (.cells (nv (List.replicate 8 0)).toArray 74)).alloc (.cells (nv (List.replicate 64 0)).toArray 91)) := by
  obtain ⟨h0, h1, h2, h3⟩ := alloc3 w (.cells (nv s.l).toArray 74) (.cells (nv (List.replicate 8 0)).toArray 74) (.cells (nv (List.replicate 64 0)).toArray 91)
  exact ⟨h0, ⟨_, by simp [nv], h1⟩, h2, h3, below_alloc3 _ _ _ _⟩
theorem inv_size {s : Sha.St} {bl : List UInt8} {w : World} {k : Nat} {w' : World} (inv : RSched s bl w k w') : w'.heap.size = w.heap.size + 3 := inv.size
/-- what the reference's 'block' holds behind the words: its state, its words, its table -/
structure RHold (s : Sha.St) (bl : List UInt8) (w : World) (w' : World) : Prop where
  b0 : w'.heap[w.heap.size]? = some (.cells (nv s.l).toArray 74 (0, 0))
  b1 : ∃ C : Array Value, C.size = 8 ∧ w'.heap[w.heap.size + 1]? = some (.cells C 74 (0, 0))
  b2 : w'.heap[w.heap.size + 1 + 1]? = some (.cells (nv (Sha.sched bl 64)).toArray 91 (0, 0))
  size : w.heap.size + 3 ≤ w'.heap.size
  below : Below w.heap.size w w'
theorem RHold.later {s : Sha.St} {bl : List UInt8} {w w' w'' : World} (h : RHold s bl w w') {B : Nat} (hb : Below B w' w'') (hB : w.heap.size + 3 ≤ B) : RHold s bl w w'' := by
  obtain ⟨C, h1, h2⟩ := h.b1
  exact ⟨(hb.block _ (by omega)).trans h.b0, ⟨C, h1, (hb.block _ (by omega)).trans h2⟩, (hb.block _ (by omega)).trans h.b2, Nat.le_trans h.size hb.size, h.below.trans (hb.mono (by omega))⟩
theorem RSched.hold {s : Sha.St} {bl : List UInt8} {w : World} {w' : World} (inv : RSched s bl w 64 w') : RHold s bl w w' :=
  ⟨inv.b0, inv.b1, by simpa using inv.b2, by rw [inv.size]; omega, inv.below⟩
theorem rk_start {s : Sha.St} {bl : List UInt8} {w wr w1 w2 : World} {K Z : Array Value} (hW2 : (w1.alloc (.cells Z 91)).setRow w1.heap.size K = w2) (hw1 : Below wr.heap.size wr w1) (h : RSched s bl w 64 wr) :
    w2.heap[w1.heap.size]? = some (.cells K 91 (0, 0)) ∧ RHold s bl w w2 ∧ w.heap.size + 3 ≤ w1.heap.size := by
  subst hW2
  have h1 := hw1.size
  have hsz := h.size
  refine ⟨setRow_heap _ _ _ _ _ _ (heap_alloc_new w1 _), ?_, by omega⟩
  exact h.hold.later (B := w.heap.size + 3) ((hw1.mono (by omega)).trans (Below.setRow ((Below.refl _ _).alloc (by omega) _) (by omega) _)) (Nat.le_refl _)
theorem rv_start {s : Sha.St} {bl : List UInt8} {w w2 w3 : World} {M : Nat} {V Z K : Array Value} (hW3 : (w2.alloc (.cells Z 74)).setRow w2.heap.size V = w3) (h : RHold s bl w w2) (hk : w2.heap[M]? = some (.cells K 91 (0, 0))) :
    w3.heap[w2.heap.size]? = some (.cells V 74 (0, 0)) ∧ RHold s bl w w3 ∧ w.heap.size + 3 ≤ w2.heap.size ∧ w3.heap[M]? = some (.cells K 91 (0, 0)) ∧ M < w2.heap.size := by
  subst hW3
  have hb : Below w2.heap.size w2 ((w2.alloc (.cells Z 74)).setRow w2.heap.size V) := Below.setRow ((Below.refl _ _).alloc (Nat.le_refl _) _) (Nat.le_refl _) _
  have hl := lt_of_heap hk
  exact ⟨setRow_heap _ _ _ _ _ _ (heap_alloc_new w2 _), h.later hb h.size, h.size, (hb.block M hl).trans hk, hl⟩
theorem RHold.setRow {s : Sha.St} {bl : List UInt8} {w w' : World} (h : RHold s bl w w') {V : Nat} (hV : w.heap.size + 3 ≤ V) (cs : Array Value) : RHold s bl w (w'.setRow V cs) :=
  h.later (B := w.heap.size + 3) (Below.setRow (Below.refl _ _) hV cs) (Nat.le_refl _)
theorem RHold.drewN {s : Sha.St} {bl : List UInt8} {w w' : World} (h : RHold s bl w w') (n : Nat) : RHold s bl w (w'.drewN n) :=
  ⟨h.b0, h.b1, h.b2, h.size, below_drewN h.below n⟩
/-- a round of the reference's 'block' -/
structure RLoop (s : Sha.St) (bl : List UInt8) (w : World) (V M : Nat) (v : Sha.St) (w' : World) : Prop where
  v : w'.heap[V]? = some (.cells (nv v.l).toArray 74 (0, 0))
  m : w'.heap[M]? = some (.cells (nv Sha.kTab).toArray 91 (0, 0))
  h : RHold s bl w w'
theorem RLoop.set {s : Sha.St} {bl : List UInt8} {w : World} {V M : Nat} {v v' : Sha.St} {w' : World} (hl : RLoop s bl w V M v w') (hV : w.heap.size + 3 ≤ V) (hM : M < V) {cs : Array Value} (hc : cs = (nv v'.l).toArray) (n : Nat) : RLoop s bl w V M v' ((w'.drewN n).setRow V cs) := by
  subst hc
  exact ⟨setRow_heap _ _ _ _ _ _ hl.v, (setRow_other _ _ _ _ (by omega)).trans hl.m, (hl.h.drewN n).setRow hV _⟩
/-- the last loop: the state's words are added -/
structure RAdd (s v : Sha.St) (w : World) (V : Nat) (k : Nat) (w' : World) : Prop where
  b0 : w'.heap[w.heap.size]? = some (.cells (nv ((Sha.addSt s v).l.take k ++ s.l.drop k)).toArray 74 (0, 0))
  b1 : ∃ C : Array Value, C.size = 8 ∧ w'.heap[w.heap.size + 1]? = some (.cells C 74 (0, 0))
  bV : w'.heap[V]? = some (.cells (nv v.l).toArray 74 (0, 0))
  lt : w.heap.size + 3 ≤ V
  below : Below w.heap.size w w'
theorem rAdd_start {s : Sha.St} {bl : List UInt8} {w : World} {V M : Nat} {v : Sha.St} {w' : World} (hV : w.heap.size + 3 ≤ V) (h : RLoop s bl w V M v w') : RAdd s v w V 0 w' :=
  ⟨by simpa using h.h.b0, h.h.b1, h.v, hV, h.h.below⟩
theorem RAdd.cell0 {s v : Sha.St} {w : World} {V k : Nat} {w' : World} (h : RAdd s v w V k w') (hk : k < 8) : w'.cell? ⟨w.heap.size, k, none⟩ = some (.int .i64 ((s.l.getD k 0 : Nat) : Int)) := by
  have h8 : (Sha.addSt s v).l.length = 8 := rfl
  have h8' : s.l.length = 8 := rfl
  rw [nv_cell h.b0 k (by simp [h8, h8']; omega)]
  simp only [List.getD_eq_getElem?_getD]
  rw [List.getElem?_append_right (by simp [h8]; omega)]
  simp [h8, Nat.min_eq_left (Nat.le_of_lt hk)]
theorem RAdd.set {s v : Sha.St} {w : World} {V k : Nat} {w' : World} (h : RAdd s v w V k w') (hk : k < 8) (n : Nat) (hn : n = (s.l.getD k 0 + v.l.getD k 0) % 4294967296) :
    RAdd s v w V (k + 1) (w'.setCell ⟨w.heap.size, k, none⟩ (.int .i64 (n : Int))) := by
  obtain ⟨C, h1, h2⟩ := h.b1
  have hlt := h.lt
  refine ⟨?_, ⟨C, h1, (heap_setCell_other _ _ _ _ (by show w.heap.size + 1 ≠ w.heap.size; omega)).trans h2⟩, (heap_setCell_other _ _ _ _ (by show V ≠ w.heap.size; omega)).trans h.bV, h.lt, h.below.setCell (Nat.le_refl _) _⟩
  rw [heap_setCell_same _ _ _ _ _ _ h.b0]
  congr 2
  subst hn
  match k, hk with
  | 0, _ => rfl
  | 1, _ => rfl
  | 2, _ => rfl
  | 3, _ => rfl
  | 4, _ => rfl
  | 5, _ => rfl
  | 6, _ => rfl
  | 7, _ => rfl
theorem rstep_cells (kk ww a b c d e f g h X Y : Nat) (hX : X = Sha.xOf kk ww ⟨a, b, c, d, e, f, g, h⟩) (hY : Y = Sha.yOf ⟨a, b, c, d, e, f, g, h⟩) :
    #[Value.int .i64 (((X + Y) % 4294967296 : Nat) : Int), Value.int .i64 (a : Int), Value.int .i64 (b : Int), Value.int .i64 (c : Int), Value.int .i64 (((d + X) % 4294967296 : Nat) : Int), Value.int .i64 (e : Int), Value.int .i64 (f : Int), Value.int .i64 (g : Int)] = (nv (Sha.step kk ww ⟨a, b, c, d, e, f, g, h⟩).l).toArray := by
  subst hX hY; rfl
theorem nvk_size : (nv Sha.kTab).toArray.size = 64 := by rw [List.size_toArray, nv_length, kTab_length]
theorem nv8_size (s : Sha.St) : (nv s.l).toArray.size = 8 := rfl
/-- s[i] of a string -/
theorem index_str (s : ByteArray) (i : Int) (k : Nat) (hi : i = (k : Int)) (h : k < s.size) :
    ∃ x : Nat, Hid (x = (s.data.toList.getD k 0).toNat) ∧ x < 256 ∧ ∀ w, (Instr.index 9 (.string s) (.int .i64 i)).run Tryd.prog w = .ok (.int .u8 (x : Int)) w := by
  refine ⟨_, rfl, UInt8.toNat_lt _, fun w => ?_⟩
  subst hi
  rw [run_index_string w 9 s .i64 (k : Int) Tryd.underlying9]
  simp [h]
  rfl

theorem w64_2 (a b : Nat) (ha : a < 4294967296) (hb : b < 4294967296) : wrap64 ((a : Int) + (b : Int)) = (a : Int) + (b : Int) := by unfold wrap64; omega
theorem w64 (n : Int) (h0 : 0 ≤ n) (h1 : n < 9223372036854775808) : wrap64 n = n := by unfold wrap64; omega

set_option maxRecDepth 100000 in
set_option maxHeartbeats 2000000 in
theorem block_any (s : Sha.St) (hs : s.ok) (bl : ByteArray) (hb : bl.size = 64) (w : World) :
    Calls Tryd.prog 40 #[.agg (nv s.l).toArray, .string bl] w fun e w' => e = .returned (.agg (nv (Sha.fold s bl.data.toList).l).toArray) ∧ Below w.heap.size w w' := by
  go_enter Tryd.func40, Tryd.ntmps40
  go_wp2
  go_loopw [6] (fun i w' => ∃ k : Nat, k ≤ 64 ∧ i = .int .i64 k ∧ RSched s bl.data.toList w k w') (fun i _ => 64 - (intOf i).toNat)
  case atStart => exact ⟨0, by omega, rfl, rsched_start s bl.data.toList w⟩
  case round =>
    obtain ⟨t, ht, rfl, inv⟩ := hrel
    by_cases hlt : t < 64
    · have b0 : (t : Int) < 64 := by omega
      have c4 := nv_cell inv.b2 t (by simp [Sha.sched_length]; omega)
      have f4 : wr.frozen? ⟨w.heap.size + 1 + 1, t, none⟩ = false := frozen_of_row _ _ _ _ _ inv.b2
      by_cases h16 : t < 16
      · have h16' : (t : Int) < 16 := by omega
        have v0 : IntKind.i64.wrap (4 * (t : Int)) = 4 * (t : Int) := wrap_small _ (by omega) (by omega)
        have v1 : IntKind.i64.wrap (4 * (t : Int) + 1) = 4 * (t : Int) + 1 := wrap_small _ (by omega) (by omega)
        have v2 : IntKind.i64.wrap (4 * (t : Int) + 2) = 4 * (t : Int) + 2 := wrap_small _ (by omega) (by omega)
        have v3 : IntKind.i64.wrap (4 * (t : Int) + 3) = 4 * (t : Int) + 3 := wrap_small _ (by omega) (by omega)
        obtain ⟨x0, e0, l0, i0⟩ := index_str bl (4 * (t : Int)) (4 * t) (by omega) (by omega)
        obtain ⟨x1, e1, l1, i1⟩ := index_str bl (4 * (t : Int) + 1) (4 * t + 1) (by omega) (by omega)
        obtain ⟨x2, e2, l2, i2⟩ := index_str bl (4 * (t : Int) + 2) (4 * t + 2) (by omega) (by omega)
        obtain ⟨x3, e3, l3, i3⟩ := index_str bl (4 * (t : Int) + 3) (4 * t + 3) (by omega) (by omega)
        go_wp2
        go_region
        go_wp2
        refine ⟨?_, by simp [intOf]; omega⟩
        have g := RSched.drewN (RSched.set inv hlt) 1
        rw [Sha.wNext, if_pos h16, ← e0.out, ← e1.out, ← e2.out, ← e3.out, ← Sha.rword_walk x0 x1 x2 x3 l0 l1 l2 l3] at g
        first | exact ⟨t + 1, by omega, by go_num, g⟩ | ((repeat apply Exists.intro); exact ⟨⟨t + 1, by omega, by go_num, g⟩, rfl⟩)
      · have h16' : ¬ (t : Int) < 16 := by omega
        have b1 : (0 : Int) ≤ (t : Int) - 2 := by omega
        have b2 : (t : Int) - 2 < 64 := by omega
        have b4 : (0 : Int) ≤ (t : Int) - 7 := by omega
        have b5 : (t : Int) - 7 < 64 := by omega
        have b6 : (0 : Int) ≤ (t : Int) - 15 := by omega
        have b7 : (t : Int) - 15 < 64 := by omega
        have b8 : (0 : Int) ≤ (t : Int) - 16 := by omega
        have b9 : (t : Int) - 16 < 64 := by omega
        have d1 : (7 : Int) ≤ (t : Int) := by omega
        have d2 : (16 : Int) ≤ (t : Int) := by omega
        obtain ⟨o7, ho7⟩ : ∃ o, o = t - 7 := ⟨_, rfl⟩
        obtain ⟨o16, ho16⟩ : ∃ o, o = t - 16 := ⟨_, rfl⟩
        have n1 : ¬ (t = o7) := by omega
        have n2 : ¬ (t = o16) := by omega
        have n3 : ¬ (o7 = t) := by omega
        have n4 : ¬ (o16 = t) := by omega
        have t1 : ((t : Int) - 7).toNat = o7 := by omega
        have t3 : ((t : Int) - 16).toNat = o16 := by omega
        have v1 : IntKind.i64.wrap ((t : Int) - 2) = (t : Int) - 2 := wrap_small _ (by omega) (by omega)
        have v2 : IntKind.i64.wrap ((t : Int) - 7) = (t : Int) - 7 := wrap_small _ (by omega) (by omega)
        have v3 : IntKind.i64.wrap ((t : Int) - 15) = (t : Int) - 15 := wrap_small _ (by omega) (by omega)
        have v4 : IntKind.i64.wrap ((t : Int) - 16) = (t : Int) - 16 := wrap_small _ (by omega) (by omega)
        have t0 : ((t : Int) - 2).toNat = t - 2 := by omega
        have t2 : ((t : Int) - 15).toNat = t - 15 := by omega
        obtain ⟨y2, e2, l2, c2⟩ := RSched.word inv (t - 2) (by omega)
        obtain ⟨y7, e7, l7, c7⟩ := RSched.word inv o7 (by omega)
        obtain ⟨y15, e15, l15, c15⟩ := RSched.word inv (t - 15) (by omega)
        obtain ⟨y16, e16, l16, c16⟩ := RSched.word inv o16 (by omega)
        have Ho7 := hid ho7
        have Ho16 := hid ho16
        clear ho7 ho16
        have hs0 := Sha.rs0_walk y15 l15
        have hs1 := Sha.rs1_walk y2 l2
        have q0 := Sha.s0_lt y15 l15
        have q1 := Sha.s1_lt y2 l2
        have hlow := Sha.low4 (Sha.s1 y2) y7 (Sha.s0 y15) y16 q1 l7 q0 l16
        go_wp2_with (go_at_call 50; fail)
        refine (rror_any y2 _ l2 (by decide) (by decide) _).mono ?_; rintro e' w' ⟨rfl, nq, rfl⟩
        go_wp2_with (go_at_call 50; fail)
        refine (rror_any y2 _ l2 (by decide) (by decide) _).mono ?_; rintro e' w' ⟨rfl, nq, rfl⟩
        go_wp2_with (go_at_call 50; fail)
        refine (rror_any y15 _ l15 (by decide) (by decide) _).mono ?_; rintro e' w' ⟨rfl, nq, rfl⟩
        go_wp2_with (go_at_call 50; fail)
        refine (rror_any y15 _ l15 (by decide) (by decide) _).mono ?_; rintro e' w' ⟨rfl, nq, rfl⟩
        go_wp2
        generalize hN : wr.drewN _ = wn
        have inv2 : RSched s bl.data.toList w t wn := hN ▸ inv.drewN _
        have c7' : wn.cell? ⟨w.heap.size + 1 + 1, o7, none⟩ = some (.int .i64 (y7 : Int)) := by rw [← hN]; exact c7
        have c16' : wn.cell? ⟨w.heap.size + 1 + 1, o16, none⟩ = some (.int .i64 (y16 : Int)) := by rw [← hN]; exact c16
        have c4' := nv_cell inv2.b2 t (by simp [Sha.sched_length]; omega)
        have f4' : wn.frozen? ⟨w.heap.size + 1 + 1, t, none⟩ = false := frozen_of_row _ _ _ _ _ inv2.b2
        clear hN c2 c7 c15 c16 c4 f4 hs0 hs1 inv
        have p1 : IntKind.i64.wrap (((Sha.s1 y2 : Nat) : Int) + (y7 : Int)) = ((Sha.s1 y2 : Nat) : Int) + (y7 : Int) := Sha.wrap2 _ _ q1 l7
        have p2 : IntKind.i64.wrap (((Sha.s1 y2 : Nat) : Int) + (y7 : Int) + ((Sha.s0 y15 : Nat) : Int)) = ((Sha.s1 y2 : Nat) : Int) + (y7 : Int) + ((Sha.s0 y15 : Nat) : Int) := Sha.wrap3 _ _ _ q1 l7 q0
        have p3 : IntKind.i64.wrap (((Sha.s1 y2 : Nat) : Int) + (y7 : Int) + ((Sha.s0 y15 : Nat) : Int) + (y16 : Int)) = ((Sha.s1 y2 : Nat) : Int) + (y7 : Int) + ((Sha.s0 y15 : Nat) : Int) + (y16 : Int) := Sha.wrap4 _ _ _ _ q1 l7 q0 l16
        go_region_held3 (fun w' => w'.cell? ⟨w.heap.size + 1 + 1, o7, none⟩ = some (.int .i64 y7) ∧ w'.cell? ⟨w.heap.size + 1 + 1, o16, none⟩ = some (.int .i64 y16)) (first | exact ⟨c7', c16'⟩ | exact ⟨(World.cell?_setCell_other _ _ _ _ (by simp)).trans c7', (World.cell?_setCell_other _ _ _ _ (by simp)).trans c16'⟩) (fail)
        clear p1 p2 p3
        go_wp2
        refine ⟨?_, by simp [intOf]; omega⟩
        have g := RSched.drewN (RSched.set inv2 hlt) 1
        rw [Sha.wNext, if_neg h16, ← e2.out, ← Ho7.out, ← e7.out, ← e15.out, ← Ho16.out, ← e16.out] at g
        exact ⟨t + 1, by omega, by go_num, g⟩
    · obtain rfl : t = 64 := by omega
      have hb2 : wr.heap[w.heap.size + 1 + 1]? = some (.cells (nv (Sha.sched bl.data.toList 64)).toArray 91 (0, 0)) := by simpa using inv.b2
      have Hb2 := hid hb2
      have Inv := hid inv
      clear hb2 inv
      go_wp2_with (first
        | (go_at_call 51; refine (rounds_any _).mono ?_; rintro e w1 ⟨rfl, hw1⟩)
        | (with_reducible show wpList _ _ _ (Oper.mk _ (Op.store 91 _ _) _ _ _ _ :: _) _ _; go_must (refine wpList_store_row rfl 91 _ _ rfl w1.heap.size _ rfl rfl 91 _ (heap_alloc_new w1 _) (size64n kTab_length) (by rw [nvk_size]; decide +kernel) (nv_one _) ?_); go_must (generalize hW2 : (w1.alloc _).setRow w1.heap.size (nv Sha.kTab).toArray = w2; obtain ⟨hk2, inv2, hsz2⟩ := rk_start hW2 hw1 Inv.out; clear hW2 hw1 Inv; have Inv2 := hid inv2; have hk3 := hid hk2; clear hk2 inv2; generalize w1.heap.size = M at *))
        | (with_reducible show wpList _ _ _ (Oper.mk _ (Op.load 74 _) _ _ _ _ :: _) _ _; go_must (refine wpList_load_row rfl 74 _ rfl w.heap.size rfl 74 _ (0, 0) _ Inv2.out.b0 Tryd.underlying74 rfl (size8n rfl) ?_))
        | (with_reducible show wpList _ _ _ (Oper.mk _ (Op.store 74 _ _) _ _ _ _ :: _) _ _; go_must (refine wpList_store_row rfl 74 _ _ rfl w2.heap.size _ rfl rfl 74 _ (heap_alloc_new w2 _) (size8n rfl) (by rw [nv8_size]; decide +kernel) (nv_one _) ?_); go_must (generalize hW3 : (w2.alloc _).setRow w2.heap.size (nv s.l).toArray = w3; obtain ⟨hv3, inv3, hsz3, hk4, hM⟩ := rv_start hW3 Inv2.out hk3.out; clear hW3 Inv2 hk3; generalize w2.heap.size = V at *)))
      have Inv3 := hid inv3
      have Hv3 := hid hv3
      have Hk4 := hid hk4
      clear inv3 hv3 hk4
      go_loopw [13] (fun i w' => ∃ (t : Nat) (v : Sha.St), t ≤ 64 ∧ i = .int .i64 t ∧ Hid (v = Sha.rnds (Sha.sched bl.data.toList 64) s t) ∧ v.ok ∧ RLoop s bl.data.toList w V M v w') (fun i _ => 64 - (intOf i).toNat)
      case atStart => exact ⟨0, s, by omega, rfl, rfl, hs, Hv3.out, Hk4.out, Inv3.out⟩
      case round =>
        clear Inv3 Hv3 Hk4
        obtain ⟨t, ⟨a, b, c, d, e, f, g, h⟩, ht, rfl, hv, ⟨va, vb, vc, vd, ve, vf, vg, vh⟩, hloop⟩ := hrel
        have hV := hloop.v
        have hK := hloop.m
        have inv := hloop.h
        dsimp only at va vb vc vd ve vf vg vh
        by_cases hlt : t < 64
        · have b0 : (t : Int) < 64 := by omega
          have z0 := nv_cell hV 0 (by simp [Sha.St.l])
          have z1 := nv_cell hV 1 (by simp [Sha.St.l])
          have z2 := nv_cell hV 2 (by simp [Sha.St.l])
          have z3 := nv_cell hV 3 (by simp [Sha.St.l])
          have z4 := nv_cell hV 4 (by simp [Sha.St.l])
          have z5 := nv_cell hV 5 (by simp [Sha.St.l])
          have z6 := nv_cell hV 6 (by simp [Sha.St.l])
          have z7 := nv_cell hV 7 (by simp [Sha.St.l])
          simp only [Sha.St.l, List.getD_cons_zero, List.getD_cons_succ] at z0 z1 z2 z3 z4 z5 z6 z7
          obtain ⟨kk, ek, lk, ck⟩ : ∃ y : Nat, Hid (y = Sha.kTab.getD t 0) ∧ y < 4294967296 ∧ wr.cell? ⟨M, t, none⟩ = some (.int .i64 (y : Int)) := ⟨_, rfl, Sha.kTab_getD_lt t, nv_cell hK t (by rw [kTab_length]; exact hlt)⟩
          obtain ⟨ww, ew, lw, cw⟩ : ∃ y : Nat, Hid (y = (Sha.sched bl.data.toList 64).getD t 0) ∧ y < 4294967296 ∧ wr.cell? ⟨w.heap.size + 1 + 1, t, none⟩ = some (.int .i64 (y : Int)) := ⟨_, rfl, Sha.sched_getD_lt _ 64 t, nv_cell inv.b2 t (by rw [Sha.sched_length]; exact hlt)⟩
          have hS1 := Sha.rS1_walk e ve
          have hS0 := Sha.rS0_walk a va
          have hch := Sha.rch_walk e f g ve vf vg
          have hmaj := Sha.rmaj_walk a b c va vb vc
          have q1 := Sha.S1_lt e ve
          have q2 := Sha.S0_lt a va
          have q3 := Sha.ch_lt e f g ve
          have q4 := Sha.maj_lt a b c va vb
          obtain ⟨X, hX, lX, rX⟩ : ∃ X : Nat, Hid (X = Sha.xOf kk ww ⟨a, b, c, d, e, f, g, h⟩) ∧ X < 4294967296 ∧ bits .and .i64 ((h : Int) + (Sha.S1 e : Nat) + (Sha.ch e f g : Nat) + (kk : Int) + (ww : Int)) 4294967295 = (X : Int) := ⟨_, rfl, Sha.xOf_lt _ _ _, Sha.low5 _ _ _ _ _ vh q1 q3 lk lw⟩
          obtain ⟨Y, hY, lY, rY⟩ : ∃ Y : Nat, Hid (Y = Sha.yOf ⟨a, b, c, d, e, f, g, h⟩) ∧ Y < 4294967296 ∧ bits .and .i64 (((Sha.S0 a : Nat) : Int) + (Sha.maj a b c : Nat)) 4294967295 = (Y : Int) := ⟨_, rfl, Nat.mod_lt _ (by decide), Sha.low2 _ _ q2 q4⟩
          obtain ⟨XY, hXY, rXY⟩ : ∃ n : Nat, Hid (n = (X + Y) % 4294967296) ∧ bits .and .i64 ((X : Int) + (Y : Int)) 4294967295 = (n : Int) := ⟨_, rfl, Sha.low2 _ _ lX lY⟩
          obtain ⟨DX, hDX, rDX⟩ : ∃ n : Nat, Hid (n = (d + X) % 4294967296) ∧ bits .and .i64 ((d : Int) + (X : Int)) 4294967295 = (n : Int) := ⟨_, rfl, Sha.low2 _ _ vd lX⟩
          have HL := hid hloop
          have HV := hid hV
          have RX := hid rX
          have RY := hid rY
          have RXY := hid rXY
          have RDX := hid rDX
          have HS0 := hid hS0
          have Hmaj := hid hmaj
          clear inv hV hK hloop rX rY rXY rDX hS0 hmaj
          go_wp2_with (go_at_call 50; refine (rror_any e _ ve (by decide) (by decide) _).mono ?_; rintro e' w' ⟨rfl, nq, rfl⟩)
          clear hS1 hch
          go_quiet (fail)
          rw [RX.out]
          have hS0 := HS0.out
          have hmaj := Hmaj.out
          have rY := RY.out
          go_wp2_with (go_at_call 50; fail)
          refine (rror_any a _ va (by decide) (by decide) _).mono ?_; rintro e' w' ⟨rfl, nq, rfl⟩
          go_wp2_with (go_at_call 50; fail)
          refine (rror_any a _ va (by decide) (by decide) _).mono ?_; rintro e' w' ⟨rfl, nq, rfl⟩
          go_wp2_with (go_at_call 50; fail)
          refine (rror_any a _ va (by decide) (by decide) _).mono ?_; rintro e' w' ⟨rfl, nq, rfl⟩
          have rXY := RXY.out
          have rDX := RDX.out
          go_wp2_with (with_reducible show wpList _ _ _ (Oper.mk _ (Op.store 74 _ _) _ _ _ _ :: _) _ _; go_must (refine wpList_store_row rfl 74 _ _ rfl V _ rfl rfl 74 (nv (Sha.St.mk a b c d e f g h).l).toArray (by rw [World.heap_drewN]; exact HV.out) (by rw [info8n]; simp) (by rw [nv8_size]; simp) (by simp [Value.oneCell']) ?_))
          refine ⟨?_, by simp [intOf]; omega⟩
          rw [w64_2 (Sha.S0 a) (Sha.maj a b c) q2 q4, RY.out, w64_2 X Y lX lY, RXY.out]
          have hcells := rstep_cells kk ww a b c d e f g h X Y hX.out hY.out
          rw [← hXY.out, ← hDX.out] at hcells
          refine ⟨t + 1, Sha.step kk ww ⟨a, b, c, d, e, f, g, h⟩, by omega, by go_num, ?_, Sha.step_ok _ _ _ ⟨va, vb, vc, vd, ve, vf, vg, vh⟩, RLoop.set HL.out hsz3 hM hcells _⟩
          show Sha.step kk ww ⟨a, b, c, d, e, f, g, h⟩ = Sha.step (Sha.kTab.getD t 0) ((Sha.sched bl.data.toList 64).getD t 0) (Sha.rnds (Sha.sched bl.data.toList 64) s t)
          rw [← hv.out, ← ek.out, ← ew.out]
        · obtain rfl : t = 64 := by omega
          have Hf := hid (show Sha.fold s bl.data.toList = Sha.addSt s ⟨a, b, c, d, e, f, g, h⟩ by rw [hv.out]; rfl)
          clear hV hK inv
          go_wp2
          go_loopw [22] (fun i w' => ∃ t : Nat, t ≤ 8 ∧ i = .int .i64 t ∧ RAdd s ⟨a, b, c, d, e, f, g, h⟩ w V t w') (fun i _ => 8 - (intOf i).toNat)
          case atStart => exact ⟨0, by omega, rfl, rAdd_start hsz3 hloop⟩
          case round =>
            obtain ⟨t, ht, rfl, hadd⟩ := hrel
            by_cases hlt8 : t < 8
            · have b0 : (t : Int) < 8 := by omega
              obtain ⟨x, ex, lx, cx⟩ : ∃ y : Nat, Hid (y = s.l.getD t 0) ∧ y < 4294967296 ∧ wr.cell? ⟨w.heap.size, t, none⟩ = some (.int .i64 (y : Int)) := ⟨_, rfl, Sha.l_lt hs t, hadd.cell0 hlt8⟩
              obtain ⟨y, ey, ly, cy⟩ : ∃ y : Nat, Hid (y = (Sha.St.mk a b c d e f g h).l.getD t 0) ∧ y < 4294967296 ∧ wr.cell? ⟨V, t, none⟩ = some (.int .i64 (y : Int)) := ⟨_, rfl, Sha.l_lt ⟨va, vb, vc, vd, ve, vf, vg, vh⟩ t, nv_cell hadd.bV t (by simpa [Sha.St.l] using hlt8)⟩
              have f0 : wr.frozen? ⟨w.heap.size, t, none⟩ = false := frozen_of_row _ _ _ _ _ hadd.b0
              obtain ⟨xy, hxy, rxy⟩ : ∃ n : Nat, Hid (n = (x + y) % 4294967296) ∧ bits .and .i64 ((x : Int) + (y : Int)) 4294967295 = (n : Int) := ⟨_, rfl, Sha.low2 _ _ lx ly⟩
              have ne1 : ¬ (w.heap.size = V) := by omega
              have ne2 : ¬ (V = w.heap.size) := by omega
              have Hadd := hid hadd
              clear hadd va vb vc vd ve vf vg vh
              go_wp2
              go_region
              go_wp2
              refine ⟨?_, by simp [intOf]; omega⟩
              have g' := RAdd.set Hadd.out hlt8 xy (by rw [hxy.out, ex.out, ey.out])
              exact ⟨t + 1, by omega, by go_num, ⟨g'.b0, g'.b1, g'.bV, g'.lt, g'.below.drew⟩⟩
            · obtain rfl : t = 8 := by omega
              have h0 : wr.heap[w.heap.size]? = some (.cells (nv (Sha.fold s bl.data.toList).l).toArray 74 (0, 0)) := by rw [Hf.out]; exact hadd.b0
              obtain ⟨C, hC, h1⟩ := hadd.b1
              have hbl := hadd.below
              clear hadd
              have H0 := hid h0
              have H1 := hid h1
              clear h0 h1
              go_wp2_with (first
                | (with_reducible show wpList _ _ _ (Oper.mk _ (Op.load 74 _) _ _ _ _ :: _) _ _; go_must (refine wpList_load_row rfl 74 _ rfl w.heap.size rfl 74 _ (0, 0) _ H0.out Tryd.underlying74 rfl (size8n rfl) ?_))
                | (with_reducible show wpList _ _ _ (Oper.mk _ (Op.store 74 _ _) _ _ _ _ :: _) _ _; go_must (refine wpList_store_row rfl 74 _ _ rfl (w.heap.size + 1) _ rfl rfl 74 C H1.out (size8n rfl) (by rw [nv8_size]; exact hC) (nv_one _) ?_)))
              refine bodyPost_ret (v := .agg (nv (Sha.fold s bl.data.toList).l).toArray) (results_cell_row rfl _ _ (w.heap.size + 1) 74 _ (0, 0) _ rfl (setRow_heap _ _ C _ _ _ H1.out) Tryd.underlying74 rfl (size8n rfl)) rfl ⟨rfl, ?_⟩
              exact Below.setRow hbl (by omega) _
end Go.Proofs.YtappjeepajjioaaDoor

namespace Go.Proofs.YtappjeepajjioaaDoor
open Go.RowKit

theorem beSt_step (l : List Nat) (k : Nat) (h : k < l.length) : ((l.take (k + 1)).map (Sha.be · 4)).flatten = ((l.take k).map (Sha.be · 4)).flatten ++ Sha.be (l.getD k 0) 4 := by
  rw [List.take_succ_eq_append_getElem h, List.map_append, List.flatten_append, List.getD_eq_getElem?_getD, List.getElem?_eq_getElem h]
  simp
theorem beSt_all (s : Sha.St) : (s.l.map (Sha.be · 4)).flatten = s.bytes := by
  simp [Sha.St.l, Sha.St.bytes]
theorem beSt_len (l : List Nat) (k : Nat) : ((l.take k).map (Sha.be · 4)).flatten.length ≤ 4 * k := by
  induction k with
  | zero => simp
  | succ k ih =>
    by_cases h : k < l.length
    · rw [beSt_step l k h, List.length_append, Sha.be_length]; omega
    · rw [List.take_of_length_le (by omega)] at ih ⊢; omega

/-- the reference's Sum: behind k blocks -/
structure RSum (t : List UInt8) (w : World) (H : Nat) (k : Nat) (w' : World) : Prop where
  h : w'.heap[H]? = some (.cells (nv (Sha.foldAll Sha.iv k t).l).toArray 74 (0, 0))
  ge : w.heap.size ≤ H
  below : Below w.heap.size w w'
theorem mid_size' (s : ByteArray) (a b : Nat) (h : b ≤ s.size) : (s.extract a b).size = b - a := by
  rw [← data_length, Lib.extract_data, List.length_take, List.length_drop, data_length]; omega
theorem foldAll_ok : ∀ (k : Nat) (s : Sha.St) (l : List UInt8), s.ok → (Sha.foldAll s k l).ok
  | 0, _, _, h => h
  | k + 1, _, _, _ => foldAll_ok k _ _ (Sha.fold_ok _ _)

theorem rsum_start {t : List UInt8} {w w1 w2 w3 : World} {Z : Array Value} (hW : (w2.alloc (.cells Z 74)).setRow w2.heap.size (nv Sha.iv.l).toArray = w3) (hw1 : Below w.heap.size w w1) (hw2 : Below w1.heap.size w1 w2) : RSum t w w2.heap.size 0 w3 := by
  subst hW
  have s1 := hw1.size
  have s2 := hw2.size
  exact ⟨setRow_heap _ _ _ _ _ _ (heap_alloc_new w2 _), by omega, Below.setRow (((hw1.trans (hw2.mono (by omega)))).alloc (by omega) _) (by omega) _⟩
theorem store_nv (P : Program) (b : Nat) (F : Sha.St) (w : World) (h : w.there b 0 8) : (storeCells ⟨b, 0, none⟩ (nv F.l)).run P w = .ok () (w.setCells b 0 (nv F.l)) := by
  have h8 : (nv F.l).length = 8 := by simp [Sha.St.l]
  have := run_storeCells_cells (P := P) b 0 (nv F.l) 0 w (fun j hj => by simpa using (h j (by omega)).1) (fun j hj => by simpa using (h j (by omega)).2) (fun v hv => nv_mem hv)
  simpa using this
theorem block_at (s F : Sha.St) (hs : s.ok) (bl : ByteArray) (hb : bl.size = 64) (hF : Hid (Sha.fold s bl.data.toList = F)) (w : World) :
    Calls Tryd.prog 40 #[.agg (nv s.l).toArray, .string bl] w fun e w' => e = .returned (.agg (nv F.l).toArray) ∧ Below w.heap.size w w' := by
  have := block_any s hs bl hb w
  rwa [hF.out] at this
theorem heap_setNv {w : World} {b : Nat} {st F : Sha.St} (hh : w.heap[b]? = some (.cells (nv st.l).toArray 74 (0, 0))) :
    (w.setCells b 0 (nv F.l)).heap[b]? = some (.cells (nv F.l).toArray 74 (0, 0)) := by
  have := heap_setCells b 74 (nv F.l) [] (nv st.l) [] w (by simp [Sha.St.l]) (by simpa using hh)
  simpa using this

set_option maxRecDepth 100000 in
set_option maxHeartbeats 1000000 in
theorem rsum_any (s : ByteArray) (hs : s.size ≤ 140737488355000) (w : World) :
    Calls Tryd.prog 28 #[.string s] w fun e w' => e = .returned (sv (Sha.sha s.data.toList)) ∧ Below w.heap.size w w' := by
  have hfm := Sha.filling_mod s.size
  obtain ⟨t, ht⟩ : ∃ t, t = s.data.toList ++ Sha.filling s.size := ⟨_, rfl⟩
  have htl : t.length = s.size + (Sha.filling s.size).length := by rw [ht, List.length_append, data_length]
  have hsha := hid (show Sha.sha s.data.toList = (Sha.foldAll Sha.iv (t.length / 64) t).bytes by rw [Sha.sha, htl, ht, data_length])
  obtain ⟨m, hm⟩ : ∃ m, t.length = 64 * m := ⟨t.length / 64, by omega⟩
  have hml : m ≤ 140737488355328 := by omega
  have hF := hid (show t.length / 64 = m by omega)
  go_enter Tryd.func28, Tryd.ntmps28
  go_wp2_with (go_at_call 38; fail)
  refine (filled_any s hs _).mono ?_
  rintro e w1 ⟨rfl, hw1⟩
  rw [← ht]
  have HM := hid hm
  have hsv : sv t = .string ⟨t.toArray⟩ := rfl
  have hts : (ByteArray.mk t.toArray).size = 64 * m := by rw [sv_size]; exact hm
  have htd : (ByteArray.mk t.toArray).data.toList = t := sv_data t
  rw [hsv]
  have Htd := hid htd
  generalize ByteArray.mk t.toArray = tb at *
  clear ht htl hm hsv htd hfm
  have s1 := hw1.size
  go_wp2_with (first
    | (go_at_call 39; refine (begins_any _).mono ?_; rintro e w2 ⟨rfl, hw2⟩)
    | (with_reducible show wpList _ _ _ (Oper.mk _ (Op.store 74 _ _) _ _ _ _ :: _) _ _; go_must (refine wpList_store_row rfl 74 _ _ rfl w2.heap.size _ rfl rfl 74 _ (heap_alloc_new w2 _) (size8n rfl) (by rw [nv8_size]; decide +kernel) (nv_one _) ?_); go_must (generalize hW : (w2.alloc _).setRow w2.heap.size (nv Sha.iv.l).toArray = w3; have inv := rsum_start (t := t) hW hw1 hw2; have inv0 := hid inv; clear hW hw1 hw2 inv; generalize w2.heap.size = H at *)))
  go_loopw [5] (fun i w' => ∃ k : Nat, k ≤ m ∧ i = .int .i64 ((64 * k : Nat) : Int) ∧ RSum t w H k w') (fun i _ => 64 * m - (intOf i).toNat)
  case atStart => exact ⟨0, by omega, rfl, inv0.out⟩
  case round =>
    clear inv0
    obtain ⟨k, hk, rfl, inv⟩ := hrel
    have Inv := hid inv
    by_cases hlt : k < m
    · have b0 : ((64 * k : Nat) : Int) < ((64 * m : Nat) : Int) := by omega
      have b1 : ((64 * k : Nat) : Int) + 64 ≤ ((64 * m : Nat) : Int) := by omega
      have t1 : (64 * (k : Int) + 64).toNat = 64 * k + 64 := by omega
      have t2 : (64 * (k : Int)).toNat = 64 * k := by omega
      have d0 : (0 : Int) ≤ 64 * (k : Int) := by omega
      have d1 : 64 * (k : Int) ≤ 64 * (k : Int) + 64 := by omega
      have d2 : 64 * (k : Int) + 64 ≤ 64 * (m : Int) := by omega
      have d3 : IntKind.i64.wrap (64 * (k : Int) + 64) = 64 * (k : Int) + 64 := wrap_small _ (by omega) (by omega)
      obtain ⟨gg, hgg⟩ : ∃ gg, gg = tb.extract (64 * k) (64 * k + 64) := ⟨_, rfl⟩
      have hgs : gg.size = 64 := by rw [hgg, mid_size' _ _ _ (by omega)]; omega
      have Hgd := hid (show gg.data.toList = (t.drop (64 * k)).take 64 by rw [hgg, Lib.extract_data, Htd.out]; congr 1; omega)
      have hge := hgg.symm
      clear hgg
      have hok := foldAll_ok k Sha.iv t Sha.iv_ok
      have Hlast := hid (Sha.foldAll_last k Sha.iv t)
      have hh := inv.h
      generalize Sha.foldAll Sha.iv k t = st at *
      obtain ⟨F, hF⟩ : ∃ F, Sha.fold st gg.data.toList = F := ⟨_, rfl⟩
      have HF := hid hF
      clear hF
      have z0 := nv_cell hh 0 (by simp [Sha.St.l])
      have z1 := nv_cell hh 1 (by simp [Sha.St.l])
      have z2 := nv_cell hh 2 (by simp [Sha.St.l])
      have z3 := nv_cell hh 3 (by simp [Sha.St.l])
      have z4 := nv_cell hh 4 (by simp [Sha.St.l])
      have z5 := nv_cell hh 5 (by simp [Sha.St.l])
      have z6 := nv_cell hh 6 (by simp [Sha.St.l])
      have z7 := nv_cell hh 7 (by simp [Sha.St.l])
      simp only [Sha.St.l, List.getD_cons_zero, List.getD_cons_succ] at z0 z1 z2 z3 z4 z5 z6 z7
      have Hh := hid hh
      have hlH := lt_of_heap hh
      have Th := hid (there_of_row hh 0 8 (by rw [nv8_size]; omega))
      have Hok := hid hok
      have hstore := store_nv Tryd.prog H F
      clear hh inv hok
      go_wp2
      go_region_with (go_at_call 40; refine (block_at st F Hok.out gg hgs HF _).mono ?_; rintro e w4 ⟨rfl, hw4⟩; have th4 := there_below (w := wr.drew) Th.out hw4 hlH)
      have hh5 : (w4.setCells H 0 (nv F.l)).heap[H]? = some (.cells (nv F.l).toArray 74 (0, 0)) := heap_setNv ((hw4.block H hlH).trans Hh.out)
      have hbw : Below w.heap.size w w4 := Inv.out.below.drew.trans (hw4.mono Inv.out.below.size)
      have hb5 : Below w.heap.size w (w4.setCells H 0 (nv F.l)) := hbw.trans ((But.setCells (nv F.l) 0 (But.refl H w4)).below Inv.out.ge hbw.size)
      have Hh5 := hid hh5
      have Hb5 := hid hb5
      clear hh5 hb5 hbw th4 hw4 hstore z0 z1 z2 z3 z4 z5 z6 z7
      generalize w4.setCells H 0 (nv F.l) = w5 at *
      go_wp2
      refine ⟨⟨k + 1, by omega, by go_num, ?_, Inv.out.ge, Hb5.out⟩, by simp [intOf]; omega⟩
      rw [Hlast.out, ← Hgd.out, HF.out]; exact Hh5.out
    · obtain rfl : k = m := by omega
      have b0 : ¬ ((64 * k : Nat) : Int) < ((64 * k : Nat) : Int) := by omega
      have hok := foldAll_ok k Sha.iv t Sha.iv_ok
      rw [hF.out] at hsha
      have hH := inv.h
      have hge := inv.ge
      have hbl := inv.below
      clear inv Inv
      generalize Sha.foldAll Sha.iv k t = D at *
      have HH := hid hH
      have Hbl := hid hbl
      clear hH hbl
      go_wp2
      go_loopw [6, 7] (fun o i w' => ∃ j : Nat, j ≤ 8 ∧ i = .int .i64 j ∧ o = sv (((D.l.take j).map (Sha.be · 4)).flatten) ∧ Hid (w'.heap[H]? = some (.cells (nv D.l).toArray 74 (0, 0))) ∧ Hid (Below w.heap.size w w')) (fun _ i _ => 8 - (intOf i).toNat)
      case atStart => exact ⟨0, by omega, rfl, rfl, HH, Hbl⟩
      case round =>
        clear HH Hbl
        obtain ⟨j, hj, rfl, rfl, hh, hbl⟩ := hrel
        by_cases hj8 : j < 8
        · have b8 : (j : Int) < 8 := by omega
          obtain ⟨x, ex, lx, cx⟩ : ∃ y : Nat, Hid (y = D.l.getD j 0) ∧ y < 4294967296 ∧ wr.cell? ⟨H, j, none⟩ = some (.int .i64 (y : Int)) := ⟨_, rfl, Sha.l_lt hok j, nv_cell hh.out j (by simpa [Sha.St.l] using hj8)⟩
          have hlH := lt_of_heap hh.out
          have hst := beSt_step D.l j (by simpa [Sha.St.l] using hj8)
          rw [← ex.out] at hst
          have hle := beSt_len D.l j
          have hadd := add_sv Tryd.prog 9 ((D.l.take j).map (Sha.be · 4)).flatten (Sha.be x 4) (by rw [Sha.be_length]; omega)
          rw [← hst] at hadd
          clear hst hle
          generalize hA : ((D.l.take j).map (Sha.be · 4)).flatten = A at *
          generalize hA' : ((D.l.take (j + 1)).map (Sha.be · 4)).flatten = A' at *
          have HA' := hid hA'
          clear hA hA'
          go_wp2_with (go_at_call 41; refine (big4 x _ rfl _).mono ?_; rintro e w4 ⟨rfl, hw4⟩)
          refine ⟨⟨j + 1, by omega, by go_num, by rw [HA'.out], ?_, ?_⟩, by simp [intOf]; omega⟩
          · exact (hw4.block H hlH).trans hh.out
          · exact hbl.out.trans (hw4.mono hbl.out.size)
        · obtain rfl : j = 8 := by omega
          go_wp2
          go_ret
          refine ⟨?_, hbl.out⟩
          show Ending.returned (sv ((D.l.take 8).map (Sha.be · 4)).flatten) = _
          rw [hsha.out, show D.l.take 8 = D.l from rfl, beSt_all]
end Go.Proofs.YtappjeepajjioaaDoor

namespace Go.Proofs.YtappjeepajjioaaDoor
open Go.RowKit

theorem app_data (a b : ByteArray) : (a ++ b).data.toList = a.data.toList ++ b.data.toList := by
  have h := ByteArray.mk_append_mk a.data.toList b.data.toList
  rw [Array.toArray_toList, Array.toArray_toList] at h
  have h2 : a ++ b = ⟨(a.data.toList ++ b.data.toList).toArray⟩ := h
  rw [h2]
theorem app_size (a b : ByteArray) : (a ++ b).size = a.size + b.size := by rw [← data_length, app_data, List.length_append, data_length, data_length]
theorem joined_size (l r : ByteArray) (hl : l.size = 32) (hr : r.size = 32) : ({ data := #[1] } ++ l ++ r : ByteArray).size = 65 := by
  rw [app_size, app_size, hl, hr]; rfl
theorem joined_data (l r : ByteArray) : ({ data := #[1] } ++ l ++ r : ByteArray).data.toList = 1 :: (l.data.toList ++ r.data.toList) := by
  rw [app_data, app_data, List.append_assoc]; rfl
theorem rsum_at (s : ByteArray) (D : List UInt8) (hs : s.size ≤ 140737488355000) (hD : Hid (Sha.sha s.data.toList = D)) (w : World) :
    Calls Tryd.prog 28 #[.string s] w fun e w' => e = .returned (sv D) ∧ Below w.heap.size w w' := by
  have := rsum_any s hs w
  rwa [hD.out] at this
end Go.Proofs.YtappjeepajjioaaDoor

/- THE PLAIN MATHEMATICS OF LAYER 3: roots, paths, proofs over lists; nothing of the program. -/
namespace Go.Proofs.YtappjeepajjioaaDoor
/-- D3: the node of two hashes; nothing of texts of other lengths -/
def Tree.nd (l r : List UInt8) : List UInt8 := if l.length = 32 ∧ r.length = 32 then Sha.sha (1 :: (l ++ r)) else []
namespace Tree
/-- T1 -/
def sp (n : Nat) : Nat := if n < 2 then 0 else 2 ^ (n - 1).log2
theorem sp_small {n : Nat} (h : n < 2) : sp n = 0 := by rw [sp, if_pos h]
theorem sp_eq {n : Nat} (h : 2 ≤ n) : sp n = 2 ^ (n - 1).log2 := by rw [sp, if_neg (by omega)]
theorem sp_lt {n : Nat} (h : 2 ≤ n) : sp n < n := by
  rw [sp_eq h]
  have := Nat.log2_self_le (n := n - 1) (by omega)
  omega
theorem sp_pos {n : Nat} (h : 2 ≤ n) : 0 < sp n := by rw [sp_eq h]; exact Nat.two_pow_pos _
theorem sp_ge {n : Nat} (h : 2 ≤ n) : n ≤ 2 * sp n := by
  rw [sp_eq h]
  have := Nat.lt_log2_self (n := n - 1)
  rw [Nat.pow_succ] at this
  omega
/-- the one power of two that is below n and not below its half -/
theorem sp_one {n : Nat} (h : 2 ≤ n) (a : Nat) (h1 : 2 ^ a < n) (h2 : n ≤ 2 * 2 ^ a) : sp n = 2 ^ a := by
  rw [sp_eq h]
  congr 1
  have h3 : (n - 1).log2 < a + 1 := (Nat.log2_lt (by omega)).2 (by rw [Nat.pow_succ]; omega)
  have h4 : ¬ (n - 1).log2 < a := fun hlt => by
    have := (Nat.log2_lt (n := n - 1) (by omega)).1 hlt
    omega
  omega

abbrev T := List UInt8
def rootF : Nat → List T → T
  | 0, l => l.headD (Sha.sha [])
  | f + 1, l => if l.length < 2 then l.headD (Sha.sha []) else nd (rootF f (l.take (sp l.length))) (rootF f (l.drop (sp l.length)))
def root (l : List T) : T := rootF l.length l
theorem rootF_eq : ∀ (f g : Nat) (l : List T), l.length ≤ f → l.length ≤ g → rootF f l = rootF g l
  | 0, 0, _, _, _ => rfl
  | 0, g + 1, l, h, _ => by rw [rootF, rootF, if_pos (by omega)]
  | f + 1, 0, l, _, h => by rw [rootF, rootF, if_pos (by omega)]
  | f + 1, g + 1, l, h1, h2 => by
    rw [rootF, rootF]
    by_cases h : l.length < 2
    · rw [if_pos h, if_pos h]
    · have a := sp_lt (n := l.length) (by omega)
      have b := sp_pos (n := l.length) (by omega)
      rw [if_neg h, if_neg h, rootF_eq f g _ (by simp; omega) (by simp; omega), rootF_eq f g (l.drop _) (by simp; omega) (by simp; omega)]
theorem root_nil : root [] = Sha.sha [] := rfl
theorem root_one (a : T) : root [a] = a := rfl
theorem root_cut {l : List T} (h : 2 ≤ l.length) : root l = nd (root (l.take (sp l.length))) (root (l.drop (sp l.length))) := by
  have a := sp_lt h
  have b := sp_pos h
  have e : root l = rootF (l.length - 1 + 1) l := rootF_eq _ _ _ (by omega) (by omega)
  rw [e, rootF, if_neg (by omega), root, root, rootF_eq (l.length - 1) _ (l.take _) (by simp; omega) (Nat.le_refl _), rootF_eq (l.length - 1) _ (l.drop _) (by simp; omega) (Nat.le_refl _)]
/-- are all hashes? -/
def Hs (l : List T) : Prop := ∀ x ∈ l, x.length = 32
theorem Hs.take {l : List T} (h : Hs l) (k : Nat) : Hs (l.take k) := fun x hx => h x (List.mem_of_mem_take hx)
theorem Hs.drop {l : List T} (h : Hs l) (k : Nat) : Hs (l.drop k) := fun x hx => h x (List.mem_of_mem_drop hx)
theorem nd_length {a b : T} (ha : a.length = 32) (hb : b.length = 32) : (nd a b).length = 32 := by rw [nd, if_pos ⟨ha, hb⟩, Sha.sha_length]
theorem root_length : ∀ (n : Nat) (l : List T), l.length ≤ n → Hs l → (root l).length = 32
  | n, [], _, _ => by rw [root_nil, Sha.sha_length]
  | n, [a], _, h => by rw [root_one]; exact h a (by simp)
  | 0, a :: b :: l, h, _ => by simp at h
  | n + 1, a :: b :: l, h, hh => by
    have x := sp_lt (n := (a :: b :: l).length) (by simp)
    have y := sp_pos (n := (a :: b :: l).length) (by simp)
    rw [root_cut (by simp)]
    exact nd_length (root_length n _ (by simp at *; omega) (hh.take _)) (root_length n _ (by simp at *; omega) (hh.drop _))
theorem root_hash {l : List T} (h : Hs l) : (root l).length = 32 := root_length _ l (Nat.le_refl _) h

/-- P(m, l) -/
def pathF : Nat → Nat → List T → List T
  | 0, _, _ => []
  | f + 1, m, l => if l.length < 2 then [] else
    if m < sp l.length then pathF f m (l.take (sp l.length)) ++ [root (l.drop (sp l.length))] else pathF f (m - sp l.length) (l.drop (sp l.length)) ++ [root (l.take (sp l.length))]
def path (m : Nat) (l : List T) : List T := pathF l.length m l
theorem pathF_eq : ∀ (f g m : Nat) (l : List T), l.length ≤ f → l.length ≤ g → pathF f m l = pathF g m l
  | 0, 0, _, _, _, _ => rfl
  | 0, g + 1, m, l, h, _ => by rw [pathF, pathF, if_pos (by omega)]
  | f + 1, 0, m, l, _, h => by rw [pathF, pathF, if_pos (by omega)]
  | f + 1, g + 1, m, l, h1, h2 => by
    rw [pathF, pathF]
    by_cases h : l.length < 2
    · rw [if_pos h, if_pos h]
    · have a := sp_lt (n := l.length) (by omega)
      have b := sp_pos (n := l.length) (by omega)
      rw [if_neg h, if_neg h, pathF_eq f g _ _ (by simp; omega) (by simp; omega), pathF_eq f g _ (l.drop _) (by simp; omega) (by simp; omega)]
theorem path_small {m : Nat} {l : List T} (h : l.length < 2) : path m l = [] := by
  rw [path, pathF_eq _ 1 _ _ (Nat.le_refl _) (by omega), pathF, if_pos h]
theorem path_cut {m : Nat} {l : List T} (h : 2 ≤ l.length) : path m l = if m < sp l.length then path m (l.take (sp l.length)) ++ [root (l.drop (sp l.length))] else path (m - sp l.length) (l.drop (sp l.length)) ++ [root (l.take (sp l.length))] := by
  have a := sp_lt h
  have b := sp_pos h
  have e : path m l = pathF (l.length - 1 + 1) m l := pathF_eq _ _ _ _ (by omega) (by omega)
  rw [e, pathF, if_neg (by omega), path, path, pathF_eq (l.length - 1) _ _ (l.take _) (by simp; omega) (Nat.le_refl _), pathF_eq (l.length - 1) _ _ (l.drop _) (by simp; omega) (Nat.le_refl _)]

/-- S(m, l, whole) -/
def proofF : Nat → Nat → List T → Bool → List T
  | 0, _, _, _ => []
  | f + 1, m, l, whole => if m = l.length then (if whole then [] else [root l]) else
    if m ≤ sp l.length then proofF f m (l.take (sp l.length)) whole ++ [root (l.drop (sp l.length))] else proofF f (m - sp l.length) (l.drop (sp l.length)) false ++ [root (l.take (sp l.length))]
def proof (m : Nat) (l : List T) (whole : Bool) : List T := proofF l.length m l whole
theorem proofF_eq : ∀ (f g m : Nat) (l : List T) (whole : Bool), 1 ≤ m → m ≤ l.length → l.length ≤ f → l.length ≤ g → proofF f m l whole = proofF g m l whole
  | 0, _, m, l, _, h1, h2, h3, _ => by omega
  | _ + 1, 0, m, l, _, h1, h2, _, h3 => by omega
  | f + 1, g + 1, m, l, whole, h1, h2, h3, h4 => by
    rw [proofF, proofF]
    by_cases h : m = l.length
    · rw [if_pos h, if_pos h]
    · have a := sp_lt (n := l.length) (by omega)
      have b := sp_pos (n := l.length) (by omega)
      rw [if_neg h, if_neg h]
      by_cases hm : m ≤ sp l.length
      · rw [if_pos hm, if_pos hm, proofF_eq f g _ _ _ h1 (by simp; omega) (by simp; omega) (by simp; omega)]
      · rw [if_neg hm, if_neg hm, proofF_eq f g _ (l.drop _) _ (by omega) (by simp; omega) (by simp; omega) (by simp; omega)]
theorem proof_whole {l : List T} (h : 1 ≤ l.length) : proof l.length l true = [] := by
  rw [proof, proofF_eq _ (l.length - 1 + 1) _ _ _ h (Nat.le_refl _) (Nat.le_refl _) (by omega), proofF, if_pos rfl]; rfl
theorem proof_part {l : List T} (h : 1 ≤ l.length) : proof l.length l false = [root l] := by
  rw [proof, proofF_eq _ (l.length - 1 + 1) _ _ _ h (Nat.le_refl _) (Nat.le_refl _) (by omega), proofF, if_pos rfl]; rfl
theorem proof_left {m : Nat} {l : List T} {whole : Bool} (h1 : 1 ≤ m) (h2 : m < l.length) (h3 : m ≤ sp l.length) : proof m l whole = proof m (l.take (sp l.length)) whole ++ [root (l.drop (sp l.length))] := by
  have a := sp_lt (n := l.length) (by omega)
  have b := sp_pos (n := l.length) (by omega)
  have e : proof m l whole = proofF (l.length - 1 + 1) m l whole := proofF_eq _ _ _ _ _ h1 (by omega) (by omega) (by omega)
  rw [e, proofF, if_neg (by omega), if_pos h3, proof, proofF_eq (l.length - 1) _ _ (l.take _) _ h1 (by simp; omega) (by simp; omega) (Nat.le_refl _)]
theorem proof_right {m : Nat} {l : List T} {whole : Bool} (h1 : 1 ≤ m) (h2 : m < l.length) (h3 : ¬ m ≤ sp l.length) : proof m l whole = proof (m - sp l.length) (l.drop (sp l.length)) false ++ [root (l.take (sp l.length))] := by
  have a := sp_lt (n := l.length) (by omega)
  have b := sp_pos (n := l.length) (by omega)
  have e : proof m l whole = proofF (l.length - 1 + 1) m l whole := proofF_eq _ _ _ _ _ h1 (by omega) (by omega) (by omega)
  rw [e, proofF, if_neg (by omega), if_neg h3, proof, proofF_eq (l.length - 1) _ _ (l.drop _) _ (by omega) (by simp; omega) (by simp; omega) (Nat.le_refl _)]

/-- M(indices, l), l's first leaf being the b-th of all; the indices rise -/
def manyF : Nat → List Nat → Nat → List T → List T
  | 0, _, _, _ => []
  | f + 1, is, b, l => if is = [] then [root l] else if l.length < 2 then [] else
    manyF f (is.filter (· < b + sp l.length)) b (l.take (sp l.length)) ++ manyF f (is.filter (b + sp l.length ≤ ·)) (b + sp l.length) (l.drop (sp l.length))
def many (is : List Nat) (b : Nat) (l : List T) : List T := manyF l.length is b l
theorem manyF_eq : ∀ (f g : Nat) (is : List Nat) (b : Nat) (l : List T), 1 ≤ l.length → l.length ≤ f → l.length ≤ g → manyF f is b l = manyF g is b l
  | 0, _, _, _, l, h0, h1, _ => by omega
  | _ + 1, 0, _, _, l, h0, _, h1 => by omega
  | f + 1, g + 1, is, b, l, h0, h1, h2 => by
    rw [manyF, manyF]
    by_cases hi : is = []
    · rw [if_pos hi, if_pos hi]
    · rw [if_neg hi, if_neg hi]
      by_cases h : l.length < 2
      · rw [if_pos h, if_pos h]
      · have a := sp_lt (n := l.length) (by omega)
        have b := sp_pos (n := l.length) (by omega)
        rw [if_neg h, if_neg h, manyF_eq f g _ _ _ (by simp; omega) (by simp; omega) (by simp; omega), manyF_eq f g _ _ (l.drop _) (by simp; omega) (by simp; omega) (by simp; omega)]
theorem many_none {b : Nat} {l : List T} (h : 1 ≤ l.length) : many [] b l = [root l] := by
  rw [many, manyF_eq _ (l.length - 1 + 1) _ _ _ h (by omega) (by omega), manyF, if_pos rfl]
theorem many_one {is : List Nat} {b : Nat} {l : List T} (hi : is ≠ []) (h : l.length = 1) : many is b l = [] := by
  rw [many, h, manyF, if_neg hi, if_pos (by omega)]
theorem many_cut {is : List Nat} {b : Nat} {l : List T} (hi : is ≠ []) (h : 2 ≤ l.length) :
    many is b l = many (is.filter (· < b + sp l.length)) b (l.take (sp l.length)) ++ many (is.filter (b + sp l.length ≤ ·)) (b + sp l.length) (l.drop (sp l.length)) := by
  have x := sp_lt h
  have y := sp_pos h
  rw [many, manyF_eq _ (l.length - 1 + 1) _ _ _ (by omega) (by omega) (by omega), manyF, if_neg hi, if_neg (by omega), many, many, manyF_eq (l.length - 1) _ _ _ (l.take _) (by simp; omega) (by simp; omega) (Nat.le_refl _), manyF_eq (l.length - 1) _ _ _ (l.drop _) (by simp; omega) (by simp; omega) (Nat.le_refl _)]
end Tree
end Go.Proofs.YtappjeepajjioaaDoor

namespace Go.Proofs.YtappjeepajjioaaDoor
open Go.RowKit

theorem bitLen_log : ∀ (f x : Nat), x ≤ f → 1 ≤ x → x < 18446744073709551616 → Lib.bitLen x = x.log2 + 1
  | 0, x, h, h1, _ => by omega
  | f + 1, x, h, h1, h2 => by
    rw [Lib.bitLen_half x (by omega) h2]
    by_cases hx : x = 1
    · subst hx; decide
    · rw [bitLen_log f (x / 2) (by omega) (by omega) (by omega), Nat.log2_def x, if_pos (by omega)]; omega
theorem fold_tab (a b c d : List UInt8) (h : (a.append b).append (c.append d) = Lib.len8tab.data.toList) : ByteArray.mk ((a.append b).append (c.append d)).toArray = Lib.len8tab := by
  rw [h]
theorem tab_get (y : Int) (hb : y.toNat < Lib.len8tab.size) : (((Lib.len8tab[y.toNat]'hb).toNat : Nat) : Int) = Lib.len8 y := by
  unfold Lib.len8
  rw [ByteArray.getElem?_lt' _ _ hb]
  rfl
/-- s digits behind, the first ones by the table -/
theorem len_end {x y : Int} (s : Nat) (hx0 : 0 ≤ x) (hx : x < 18446744073709551616) (hs : s ≤ 56) (h : s = 0 ∨ 2 ^ s ≤ x.toNat) (hy : x.toNat / 2 ^ s = y.toNat) (hy0 : 0 ≤ y) (hy2 : y ≤ 255) (hb : y.toNat < Lib.len8tab.size) :
    wrap64 ((s : Int) + wrap64 (((Lib.len8tab[y.toNat]'hb).toNat : Nat) : Int)) = ((Lib.bitLen x.toNat : Nat) : Int) := by
  have h8 := Lib.bitLen_le8' y hy0 hy2
  rw [tab_get y hb, Lib.len8_of y hy0 hy2]
  have e1 : wrap64 ((Lib.bitLen y.toNat : Nat) : Int) = (Lib.bitLen y.toNat : Nat) := by unfold wrap64; omega
  have e2 : wrap64 ((s : Int) + ((Lib.bitLen y.toNat : Nat) : Int)) = (s : Int) + (Lib.bitLen y.toNat : Nat) := by unfold wrap64; omega
  rw [e1, e2]
  rcases h with rfl | h
  · rw [show x.toNat = y.toNat from by simpa using hy]; omega
  · rw [Lib.bitLen_shift s x.toNat h (by omega), hy]; omega
set_option maxRecDepth 100000 in
set_option maxHeartbeats 2000000 in
theorem len64_any (x : Int) (h0 : 0 ≤ x) (hx : x < 18446744073709551616) (w : World) :
    Calls Tryd.prog 84 #[.int .u64 x] w fun e w' => e = .returned (.int .i64 (Lib.bitLen x.toNat : Nat)) ∧ w' = w := by
  have h := Tryd.func84
  unfold Tryd.f84 at h
  rw [fold_tab _ _ _ _ (by decide +kernel)] at h
  go_enter h, Tryd.ntmps84
  clear h
  go_wp2
  all_goals first | (exfalso; have := Lib.len8tab_size; omega) | skip
  all_goals go_ret
  all_goals refine ⟨congrArg Ending.returned (congrArg (Value.int IntKind.i64) ?_), rfl⟩
  all_goals first
    | exact len_end 56 h0 hx (by omega) (.inr (by omega)) (by omega) (by omega) (by omega) _
    | exact len_end 48 h0 hx (by omega) (.inr (by omega)) (by omega) (by omega) (by omega) _
    | exact len_end 40 h0 hx (by omega) (.inr (by omega)) (by omega) (by omega) (by omega) _
    | exact len_end 32 h0 hx (by omega) (.inr (by omega)) (by omega) (by omega) (by omega) _
    | exact len_end 24 h0 hx (by omega) (.inr (by omega)) (by omega) (by omega) (by omega) _
    | exact len_end 16 h0 hx (by omega) (.inr (by omega)) (by omega) (by omega) (by omega) _
    | exact len_end 8 h0 hx (by omega) (.inr (by omega)) (by omega) (by omega) (by omega) _
    | (have e := len_end 0 h0 hx (by omega) (.inl rfl) (by omega) h0 (by omega) (by omega); rw [show ((0 : Nat) : Int) = 0 from rfl, Int.zero_add] at e; exact e)
set_option maxRecDepth 100000 in
set_option maxHeartbeats 2000000 in
theorem lenU_any (x : Int) (h0 : 0 ≤ x) (hx : x < 18446744073709551616) (w : World) :
    Calls Tryd.prog 65 #[.int .u64 x] w fun e w' => e = .returned (.int .i64 (Lib.bitLen x.toNat : Nat)) ∧ w' = w := by
  go_enter Tryd.func65, Tryd.ntmps65
  go_wp2_with (go_at_call 84; refine (len64_any x h0 hx _).mono ?_; rintro e w' ⟨rfl, rfl⟩)
  go_ret
  exact ⟨rfl, rfl⟩
end Go.Proofs.YtappjeepajjioaaDoor

namespace Go.Proofs.YtappjeepajjioaaDoor
open Go.RowKit

/-- T1 -/
def spI (n : Int) : Int := (Tree.sp n.toNat : Nat)
theorem log_le {x : Nat} (h1 : 1 ≤ x) (h : x < 9223372036854775808) : x.log2 ≤ 62 := by
  have := (Nat.log2_lt (n := x) (k := 63) (by omega)).2 h
  omega
theorem wrap_pow {L : Nat} (h : L ≤ 62) : wrap64 ((2 : Int) ^ L) = ((2 ^ L : Nat) : Int) := by
  have := Nat.pow_le_pow_right (n := 2) (by decide) h
  have e : ((2 : Int) ^ L) = ((2 ^ L : Nat) : Int) := by simp
  rw [e]
  generalize 2 ^ L = x at *
  unfold wrap64
  omega
end Go.Proofs.YtappjeepajjioaaDoor

namespace Go.Proofs.YtappjeepajjioaaDoor
open Go.RowKit

theorem nodeOf_nd (l r : List UInt8) : (nodeOf l r).1 = Tree.nd l r := by unfold nodeOf Tree.nd; split <;> rfl
theorem node_at {l r n : List UInt8} {c : Int} (h : Hid (nodeOf l r = (n, c))) (w : World) (T : Tabs w) :
    Calls Tryd.prog 86 #[sv l, sv r] w fun e w' => e = .returned (.tuple #[sv n, .int .i64 c]) ∧ Below w.heap.size w w' := by
  have := node_any ⟨l.toArray⟩ ⟨r.toArray⟩ w T
  rw [show (ByteArray.mk l.toArray).data.toList = l from rfl, show (ByteArray.mk r.toArray).data.toList = r from rfl, h.out] at this
  exact this
theorem emptySize' : (ByteArray.mk #[]).size = 0 := rfl
theorem rsum_nil {D : List UInt8} (hD : Hid (Sha.sha [] = D)) (w : World) :
    Calls Tryd.prog 28 #[.string ⟨#[]⟩] w fun e w' => e = .returned (sv D) ∧ Below w.heap.size w w' := by
  have h := rsum_any ⟨#[]⟩ (by rw [emptySize']; omega) w
  rw [show (ByteArray.mk #[]).data.toList = [] from rfl, hD.out] at h
  exact h
/-- texts that lie at an address -/
def At (w : World) (a : Option Addr) (l : List (List UInt8)) : Prop := ∀ j p, l[j]? = some p → ∃ x : Addr, a = some x ∧ x.block < w.heap.size ∧ w.cell? (x.add j) = some (sv p)
theorem addr_block (x : Addr) (j : Nat) : (x.add j).block = x.block := by unfold Addr.add; split <;> rfl
theorem addr_zero (x : Addr) : x.add 0 = x := rfl
theorem addr_add (x : Addr) (i j : Nat) : (x.add i).add j = x.add (i + j) := by
  unfold Addr.add
  by_cases hi : i = 0
  · subst hi; simp
  · by_cases hj : j = 0
    · subst hj; simp
    · rw [if_neg hi, if_neg hj, if_neg (by omega)]; simp; omega
theorem At.nil (w : World) (a : Option Addr) : At w a [] := fun j p h => by simp at h
theorem At.below {w w' : World} {a : Option Addr} {l : List (List UInt8)} {B : Nat} (h : At w a l) (hb : Below B w w') (hB : w.heap.size ≤ B) : At w' a l := fun j p hp => by
  obtain ⟨x, rfl, hx, hc⟩ := h j p hp
  exact ⟨x, rfl, Nat.lt_of_lt_of_le hx hb.size, (hb.cell (p := x.add j) (by rw [addr_block]; omega)).trans hc⟩
theorem At.heap {w w' : World} {a : Option Addr} {l : List (List UInt8)} (h : At w a l) (e : w'.heap = w.heap) : At w' a l := fun j p hp => by
  obtain ⟨x, rfl, hx, hc⟩ := h j p hp
  refine ⟨x, rfl, by rw [e]; exact hx, ?_⟩
  rw [← hc]
  exact World.cell?_of_block (w := w) (by rw [e])
theorem At.take {w : World} {a : Option Addr} {l : List (List UInt8)} (h : At w a l) (k : Nat) : At w a (l.take k) := fun j p hp => by
  rw [List.getElem?_take] at hp
  split at hp
  · exact h j p hp
  · cases hp
theorem At.drop {w : World} {x : Addr} {l : List (List UInt8)} (h : At w (some x) l) (k : Nat) : At w (some (x.add k)) (l.drop k) := fun j p hp => by
  rw [List.getElem?_drop] at hp
  obtain ⟨y, hy, hx, hc⟩ := h (k + j) p hp
  obtain rfl := Option.some.inj hy
  exact ⟨_, rfl, by rw [addr_block]; exact hx, by rw [addr_add]; exact hc⟩
theorem At.pos {w : World} {a : Option Addr} {l : List (List UInt8)} (h : At w a l) (hl : 0 < l.length) : ∃ x, a = some x := by
  obtain ⟨x, hx, _⟩ := h 0 _ (List.getElem?_eq_getElem hl)
  exact ⟨x, hx⟩
theorem At.cell {w : World} {x : Addr} {l : List (List UInt8)} (h : At w (some x) l) (j : Nat) (hj : j < l.length) : ∃ s : ByteArray, Hid (s.data.toList = l[j]) ∧ w.cell? (x.add j) = some (.string s) := by
  obtain ⟨y, hy, _, hc⟩ := h j _ (List.getElem?_eq_getElem hj)
  obtain rfl := Option.some.inj hy
  exact ⟨⟨(l[j]).toArray⟩, rfl, hc⟩

end Go.Proofs.YtappjeepajjioaaDoor

namespace Go.Proofs.YtappjeepajjioaaDoor
open Go.RowKit

end Go.Proofs.YtappjeepajjioaaDoor

namespace Go.Proofs.YtappjeepajjioaaDoor
open Go.RowKit

theorem cell_below {w w' : World} {c : Nat} {v : Value} (h : w.cell? ⟨c, 0, none⟩ = some v) (hb : Below w.heap.size w w') : w'.cell? ⟨c, 0, none⟩ = some v :=
  (hb.cell (p := ⟨c, 0, none⟩) (block_lt_of_cell h)).trans h
end Go.Proofs.YtappjeepajjioaaDoor

namespace Go.Proofs.YtappjeepajjioaaDoor
open Go.RowKit

/-- T2 -/
def wrg (l : List (List UInt8)) : Int := if 4096 < l.length then 31 else if l.all (·.length == 32) then 0 else 32
theorem all_take (l : List (List UInt8)) (k : Nat) (hk : k < l.length) (h : (l.take k).all (·.length == 32) = true) (h2 : (l[k]).length = 32) : (l.take (k + 1)).all (·.length == 32) = true := by
  rw [List.take_succ_eq_append_getElem hk, List.all_append, h]
  simp [h2]
theorem all_not (l : List (List UInt8)) (k : Nat) (hk : k < l.length) (h2 : ¬ (l[k]).length = 32) : l.all (·.length == 32) = false := by
  rw [List.all_eq_false]
  exact ⟨l[k], List.getElem_mem hk, by simpa using h2⟩
/-- T3 -/
def rootOut (l : List (List UInt8)) : List UInt8 × Int := if wrg l = 0 then (Tree.root l, 0) else ([], wrg l)
end Go.Proofs.YtappjeepajjioaaDoor
