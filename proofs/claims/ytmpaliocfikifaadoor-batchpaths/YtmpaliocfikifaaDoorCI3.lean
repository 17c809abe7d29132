import Derived.Test.YtmpaliocfikifaaDoorCI1
import Derived.Test.YtmpaliocfikifaaDoorCK3
namespace Go.Proofs.YtmpaliocfikifaaDoor
open Go.RowKit
/-- where a walk stands -/
abbrev wy (p l : Nat) : Value := .agg #[.int .i64 (p : Int), .int .i64 (l : Int)]
theorem tdiv2 (k : Nat) : ((k : Int).tdiv 2) = ((k / 2 : Nat) : Int) := by rw [Int.tdiv_eq_ediv_of_nonneg (by omega)]; omega
theorem wrap2 (k : Nat) (h : k < 9223372036854775808) : IntKind.i64.wrap ((k / 2 : Nat) : Int) = ((k / 2 : Nat) : Int) := wrap_small _ (by omega) (by omega)
theorem sizeW : (Tryd.prog.info? 74).map (·.size) = some 2 := by kernel_rfl
theorem sizeW' (a b : Value) : (Tryd.prog.info? 74).map (·.size) = some #[a, b].size := sizeW
theorem oneW (a b : Int) : (#[Value.int .i64 a, Value.int .i64 b].all (·.oneCell')) = true := all_oneCell_toArray (cs := [Value.int .i64 a, Value.int .i64 b]) fun v hv => by
  simp only [List.mem_cons, List.not_mem_nil, or_false] at hv
  rcases hv with rfl | rfl <;> rfl
/-- a walk's variable -/
def Wy (w : World) (g p l : Nat) : Prop := w.heap[g]? = some (.cells #[.int .i64 (p : Int), .int .i64 (l : Int)] 74 (0, 0))
theorem Wy.row {w : World} {g p l : Nat} (h : Wy w g p l) : w.heap[g]? = some (.cells #[.int .i64 (p : Int), .int .i64 (l : Int)] 74 (0, 0)) := h
theorem Wy.c0 {w : World} {g p l : Nat} (h : Wy w g p l) : w.cell? ⟨g, 0, none⟩ = some (.int .i64 (p : Int)) := by rw [cell_of_row w g 0 _ _ _ h]; rfl
theorem Wy.c1 {w : World} {g p l : Nat} (h : Wy w g p l) : w.cell? ⟨g, 1, none⟩ = some (.int .i64 (l : Int)) := by rw [cell_of_row w g 1 _ _ _ h]; rfl
theorem Wy.below {w w' : World} {g p l : Nat} (h : Wy w g p l) (hb : Below w.heap.size w w') : Wy w' g p l := (hb.block g (lt_of_heap h)).trans h
theorem Wy.set {w : World} {g p l : Nat} (h : Wy w g p l) (p' l' : Nat) : Wy (w.setRow g #[.int .i64 (p' : Int), .int .i64 (l' : Int)]) g p' l' := setRow_heap _ _ _ _ _ _ h
theorem Wy.setO {w : World} {g p l k : Nat} (h : Wy w g p l) (cs : Array Value) (hk : k ≠ g) : Wy (w.setRow k cs) g p l := (setRow_other w k g cs (Ne.symm hk)).trans h
theorem Wy.new (w : World) (p l : Nat) : Wy (w.alloc (.cells #[.int .i64 (p : Int), .int .i64 (l : Int)] 74)) w.heap.size p l := heap_alloc_new w _
def numAt (w : World) (g i : Nat) : Nat := match w.cell? ⟨g, i, none⟩ with | some (.int _ n) => n.toNat | _ => 0
theorem Wy.n0 {w : World} {g p l : Nat} (h : Wy w g p l) : numAt w g 0 = p := by unfold numAt; rw [h.c0]; exact Int.toNat_natCast _
theorem Wy.n1 {w : World} {g p l : Nat} (h : Wy w g p l) : numAt w g 1 = l := by unfold numAt; rw [h.c1]; exact Int.toNat_natCast _
set_option maxRecDepth 100000 in
set_option maxHeartbeats 2000000 in
theorem halved_any (p l : Nat) (hp : p < 9223372036854775808) (hl : l < 9223372036854775808) (w : World) :
    Calls Tryd.prog 79 #[wy p l] w fun e w' => e = .returned (wy (p / 2) (l / 2)) ∧ Below w.heap.size w w' := by
  have e1 := tdiv2 p
  have e2 := tdiv2 l
  have e3 := wrap2 p hp
  have e4 := wrap2 l hl
  go_enter Tryd.func79, Tryd.ntmps79
  go_wp2
  refine bodyPost_ret (v := wy (p / 2) (l / 2)) (results_cell_row rfl _ _ (w.heap.size + 1) 74 _ (0, 0) _ rfl (heap_alloc_at _ _ _ (size_alloc w _)) Tryd.underlying74 rfl sizeW) rfl ⟨rfl, ?_⟩
  exact ((Below.refl _ _).alloc (Nat.le_refl _) _).alloc (by rw [size_alloc]; omega) _
set_option maxRecDepth 100000 in
set_option maxHeartbeats 2000000 in
theorem fromLeft_any (p l : Nat) (hp : p < 9223372036854775808) (hl : l < 9223372036854775808) (w : World) :
    Calls Tryd.prog 52 #[wy p l] w fun e w' => e = .returned (.bool (p % 2 == 1 || p == l)) ∧ Below w.heap.size w w' := by
  have e1 : (p : Int).tmod 2 = ((p % 2 : Nat) : Int) := by rw [Int.tmod_eq_emod_of_nonneg (by omega)]; omega
  have e2 : IntKind.i64.wrap ((p % 2 : Nat) : Int) = ((p % 2 : Nat) : Int) := wrap_small _ (by omega) (by omega)
  by_cases ho : p % 2 = 1
  · have b0 : (((p % 2 : Nat) : Int) == 1) = true := by rw [ho]; rfl
    have e := hid (show (p % 2 == 1 || p == l) = true by simp [ho])
    go_enter Tryd.func52, Tryd.ntmps52
    go_wp2
    go_ret
    exact ⟨by rw [e.out]; rfl, (Below.refl _ _).alloc (Nat.le_refl _) _⟩
  · have b0 : (((p % 2 : Nat) : Int) == 1) = false := by simp; omega
    have b9 : ((p : Int) % 2 == 1) = false := by simp; omega
    have b8 : ¬ (p : Int) % 2 = 1 := by omega
    by_cases h : p = l
    · subst h
      have e := hid (show (p % 2 == 1 || p == p) = true by simp)
      go_enter Tryd.func52, Tryd.ntmps52
      go_wp2
      go_ret
      exact ⟨by rw [e.out]; rfl, (Below.refl _ _).alloc (Nat.le_refl _) _⟩
    · have e := hid (show (p % 2 == 1 || p == l) = false by simp [ho, h])
      have b1 : ((p : Int) == (l : Int)) = false := by simp; omega
      go_enter Tryd.func52, Tryd.ntmps52
      go_wp2
      go_ret
      exact ⟨by rw [e.out]; rfl, (Below.refl _ _).alloc (Nat.le_refl _) _⟩
set_option maxRecDepth 100000 in
set_option maxHeartbeats 2000000 in
theorem above_any (p l : Nat) (hp : p ≤ l) (h0 : l ≠ 0) (hl : l < 9223372036854775808) (w : World) :
    Calls Tryd.prog 54 #[wy p l] w fun e w' => ∃ p' l', e = .returned (wy p' l') ∧ Below w.heap.size w w' ∧ p' ≤ l' ∧ l' < l ∧ Hid (Tree.U p l = (p % 2 == 1 || p == l) :: Tree.U p' l') := by
  by_cases h : p = l
  · subst h
    have c0 := Wy.new w p p
    go_enter Tryd.func54, Tryd.ntmps54
    go_wp2
    go_loopw [] (fun w' => ∃ x : Nat, x ≠ 0 ∧ x ≤ p ∧ Hid (Tree.U p p = Tree.U x x) ∧ Hid (Wy w' w.heap.size x x) ∧ Hid (Wy w' (w.heap.size + 1) 0 0) ∧ Hid (Below w.heap.size w w')) (fun w' => numAt w' w.heap.size 0)
    case atStart =>
      have s1 := size_alloc w (.cells #[Value.int .i64 (p : Int), Value.int .i64 (p : Int)] 74)
      exact ⟨p, h0, Nat.le_refl _, rfl, (Below.heap_alloc _ _ _ (by omega)).trans (Wy.new w p p), heap_alloc_at _ _ _ s1, ((Below.refl _ _).alloc (Nat.le_refl _) _).alloc (by omega) _⟩
    case round =>
      obtain ⟨x, hx0, hxp, hU, hW, hR, hB⟩ := hrel
      have c0 := hW.out.c0
      have c1 := hW.out.c1
      have lt1 := lt_of_heap hW.out
      by_cases ho : x % 2 = 0
      · have b0 : (x : Int) % 2 = 0 := by omega
        have b1 : ((x : Int) % 2 == 0) = true := by simp; omega
        have b2 : ((x : Int) != 0) = true := by simp; omega
        have b3 : ((x : Int) == 0) = false := by simp; omega
        have hc := halved_any x x (by omega) (by omega) wr
        go_wp2_with (first
          | ((with_reducible show wpList _ _ _ (Oper.mk _ (Op.load 74 _) _ _ _ _ :: _) _ _); go_must (refine wpList_load_row rfl 74 _ rfl w.heap.size rfl 74 _ (0, 0) _ hW.out.row Tryd.underlying74 rfl (sizeW' _ _) ?_))
          | (go_at_call 79; refine hc.mono ?_; rintro e w1 ⟨rfl, hw1⟩)
          | ((with_reducible show wpList _ _ _ (Oper.mk _ (Op.store 74 _ _) _ _ _ _ :: _) _ _); go_must (refine wpList_store_row rfl 74 _ _ rfl w.heap.size _ rfl rfl 74 _ (hW.out.below hw1).row (sizeW' _ _) rfl (oneW _ _) ?_)))
        have hW1 := (hW.out.below hw1).set (x / 2) (x / 2)
        have hm : numAt (w1.setRow w.heap.size #[.int .i64 ((x / 2 : Nat) : Int), .int .i64 ((x / 2 : Nat) : Int)]) w.heap.size 0 < numAt wr w.heap.size 0 := by rw [hW1.n0, hW.out.n0]; omega
        refine ⟨?_, hm⟩
        repeat apply Exists.intro
        exact ⟨⟨x / 2, by omega, by omega, hid (hU.out.trans (Tree.U_skip hx0 ho)), hid hW1, hid ((hR.out.below hw1).setO _ (by omega)), hid (Below.setRow (hB.out.trans (hw1.mono hB.out.size)) (Nat.le_refl _) _)⟩, rfl⟩
      · have b0 : ¬ (x : Int) % 2 = 0 := by omega
        have b1 : ((x : Int) % 2 == 0) = false := by simp; omega
        have hc := halved_any x x (by omega) (by omega) wr
        go_wp2_with (first
          | ((with_reducible show wpList _ _ _ (Oper.mk _ (Op.load 74 _) _ _ _ _ :: _) _ _); go_must (refine wpList_load_row rfl 74 _ rfl w.heap.size rfl 74 _ (0, 0) _ hW.out.row Tryd.underlying74 rfl (sizeW' _ _) ?_))
          | (go_at_call 79; refine hc.mono ?_; rintro e w1 ⟨rfl, hw1⟩)
          | ((with_reducible show wpList _ _ _ (Oper.mk _ (Op.store 74 _ _) _ _ _ _ :: _) _ _); go_must (refine wpList_store_row rfl 74 _ _ rfl (w.heap.size + 1) _ rfl rfl 74 _ (hR.out.below hw1).row (sizeW' _ _) rfl (oneW _ _) ?_)))
        refine bodyPost_ret (v := wy (x / 2) (x / 2)) (results_cell_row rfl _ _ (w.heap.size + 1) 74 _ (0, 0) _ rfl ((hR.out.below hw1).set (x / 2) (x / 2)).row Tryd.underlying74 rfl sizeW) rfl ⟨x / 2, x / 2, rfl, ?_, Nat.le_refl _, by omega, ?_⟩
        · exact Below.setRow (hB.out.trans (hw1.mono hB.out.size)) (by omega) _
        · refine hid (hU.out.trans ?_)
          rw [Tree.U_step hx0 (by omega), show (x % 2 == 1) = true by simp; omega]
          simp
  · have b0 : ((p : Int) == (l : Int)) = false := by simp; omega
    have e := hid (show Tree.U p l = (p % 2 == 1 || p == l) :: Tree.U (p / 2) (l / 2) by rw [Tree.U_step h0 (by omega), show (p == l) = false by simpa using h, Bool.or_false])
    have hc := halved_any p l (by omega) hl
    have s1 := size_alloc w (.cells #[Value.int .i64 (p : Int), Value.int .i64 (l : Int)] 74)
    have hB : Hid (Below w.heap.size w ((w.alloc (.cells #[Value.int .i64 (p : Int), Value.int .i64 (l : Int)] 74)).alloc (.cells #[Value.int .i64 0, Value.int .i64 0] 74))) := ((Below.refl _ _).alloc (Nat.le_refl _) _).alloc (by omega) _
    have hR : Hid (Wy ((w.alloc (.cells #[Value.int .i64 (p : Int), Value.int .i64 (l : Int)] 74)).alloc (.cells #[Value.int .i64 0, Value.int .i64 0] 74)) (w.heap.size + 1) 0 0) := heap_alloc_at _ _ _ s1
    clear s1
    go_enter Tryd.func54, Tryd.ntmps54
    go_wp2_with (first
      | (go_at_call 79; refine (hc _).mono ?_; rintro e w1 ⟨rfl, hw1⟩)
      | ((with_reducible show wpList _ _ _ (Oper.mk _ (Op.store 74 _ _) _ _ _ _ :: _) _ _); go_must (refine wpList_store_row rfl 74 _ _ rfl (w.heap.size + 1) _ rfl rfl 74 _ (hR.out.below hw1).row (sizeW' _ _) rfl (oneW _ _) ?_)))
    refine bodyPost_ret (v := wy (p / 2) (l / 2)) (results_cell_row rfl _ _ (w.heap.size + 1) 74 _ (0, 0) _ rfl ((hR.out.below hw1).set (p / 2) (l / 2)).row Tryd.underlying74 rfl sizeW) rfl ⟨p / 2, l / 2, rfl, ?_, by omega, by omega, e⟩
    exact Below.setRow (hB.out.trans (hw1.mono hB.out.size)) (by omega) _
end Go.Proofs.YtmpaliocfikifaaDoor
