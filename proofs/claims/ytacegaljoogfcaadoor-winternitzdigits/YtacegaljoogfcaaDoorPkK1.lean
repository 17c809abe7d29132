import Derived.Test.YtacegaljoogfcaaDoorPkW1
import Derived.Deep.RegionHeld3
import Derived.Deep.QuietTactic
import Derived.BigQuiet
import Derived.Deep.MidRow
import Derived.Deep.Light
namespace Go.Proofs.YtacegaljoogfcaaDoor
open Go.RowKit

/-- bytes and words as values -/
def bv (l : List UInt8) : List Value := l.map fun b => .int .u8 (b.toNat : Int)
def wv (l : List Nat) : List Value := l.map fun n => .int .u32 ((n : Nat) : Int)

theorem bv_cell {bl : List UInt8} {w' : World} {g : Nat} {t : TypeId} (h : w'.heap[g]? = some (.cells (bv bl).toArray t (0, 0))) (j : Nat) (hj : j < bl.length) :
    ∃ x : Nat, Hid (x = (bl.getD j 0).toNat) ∧ x < 256 ∧ w'.cell? ⟨g, j, none⟩ = some (.int .u8 (x : Int)) := by
  refine ⟨_, rfl, UInt8.toNat_lt _, ?_⟩
  rw [cell_of_row w' g j _ t _ h]
  simp [bv, hj]
theorem wv_cell {l : List Nat} {w' : World} {g : Nat} {t : TypeId} (h : w'.heap[g]? = some (.cells (wv l).toArray t (0, 0))) (j : Nat) (hj : j < l.length) :
    w'.cell? ⟨g, j, none⟩ = some (.int .u32 ((l.getD j 0 : Nat) : Int)) := by
  rw [cell_of_row w' g j _ t _ h]
  simp [wv, hj]

theorem wv_set (l : List Nat) (m v : Nat) (h : 0 < m) : (wv (l ++ List.replicate m 0)).toArray.setIfInBounds l.length (.int .u32 (v : Int)) = (wv ((l ++ [v]) ++ List.replicate (m - 1) 0)).toArray := by
  obtain ⟨m, rfl⟩ : ∃ n, m = n + 1 := ⟨m - 1, by omega⟩
  simp [wv, List.replicate_succ]

theorem Below.setRow {B : Nat} {a w : World} (h : Below B a w) {g : Nat} (hg : B ≤ g) (cs : Array Value) : Below B a (w.setRow g cs) :=
  ⟨h.os, h.tape, h.output, by rw [setRow_size]; exact h.size, fun k hk => (setRow_other w g k cs (by omega)).trans (h.block k hk)⟩
theorem wv_one (l : List Nat) : (wv l).toArray.all (·.oneCell') = true := by
  refine all_oneCell_toArray fun v hv => ?_
  simp only [wv, List.mem_map] at hv
  obtain ⟨n, _, rfl⟩ := hv
  rfl
theorem bv_one (l : List UInt8) : (bv l).toArray.all (·.oneCell') = true := by
  refine all_oneCell_toArray fun v hv => ?_
  simp only [bv, List.mem_map] at hv
  obtain ⟨n, _, rfl⟩ := hv
  rfl
theorem val_int {k : IntKind} {a b : Int} (h : a = b) : Value.int k a = .int k b := by rw [h]
theorem addSt_walk (s : Sha.St) (a b c d e f g h : Nat) :
    #[Value.int .u32 (((s.a : Int) + (a : Int)) % 4294967296), Value.int .u32 (((s.b : Int) + (b : Int)) % 4294967296), Value.int .u32 (((s.c : Int) + (c : Int)) % 4294967296), Value.int .u32 (((s.d : Int) + (d : Int)) % 4294967296), Value.int .u32 (((s.e : Int) + (e : Int)) % 4294967296), Value.int .u32 (((s.f : Int) + (f : Int)) % 4294967296), Value.int .u32 (((s.g : Int) + (g : Int)) % 4294967296), Value.int .u32 (((s.h : Int) + (h : Int)) % 4294967296)]
      = (wv (Sha.addSt s ⟨a, b, c, d, e, f, g, h⟩).l).toArray := by
  simp only [Sha.sum_walk']; rfl
theorem heap_alloc_at (w : World) (o : Obj) (n : Nat) (h : w.heap.size = n) : (w.alloc o).heap[n]? = some o := by
  subst h; exact heap_alloc_new w o
theorem size_alloc (w : World) (o : Obj) : (w.alloc o).heap.size = w.heap.size + 1 := by
  show (w.heap.push o).size = _; simp
theorem alloc3 (w : World) (a b c : Obj) : (((w.alloc a).alloc b).alloc c).heap[w.heap.size]? = some a ∧ (((w.alloc a).alloc b).alloc c).heap[w.heap.size + 1]? = some b ∧ (((w.alloc a).alloc b).alloc c).heap[w.heap.size + 1 + 1]? = some c ∧ (((w.alloc a).alloc b).alloc c).heap.size = w.heap.size + 3 := by
  have s1 := size_alloc w a
  have s2 := size_alloc (w.alloc a) b
  refine ⟨?_, ?_, ?_, ?_⟩
  · rw [Below.heap_alloc _ _ _ (by omega), Below.heap_alloc _ _ _ (by omega)]; exact heap_alloc_new w a
  · rw [Below.heap_alloc _ _ _ (by omega)]; exact heap_alloc_at _ _ _ s1
  · exact heap_alloc_at _ _ _ (by omega)
  · rw [size_alloc]; omega
theorem below_alloc3 (w : World) (a b c : Obj) : Below w.heap.size w (((w.alloc a).alloc b).alloc c) := by
  have s1 := size_alloc w a
  have s2 := size_alloc (w.alloc a) b
  exact (((Below.refl _ _).alloc (Nat.le_refl _) _).alloc (by omega) _).alloc (by omega) _
end Go.Proofs.YtacegaljoogfcaaDoor
