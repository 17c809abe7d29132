import Derived.Test.YtonmhimoglgbgaaDoorY13
import Derived.Deep.SlicePairs
namespace Go.Proofs.YtonmhimoglgbgaaDoor
open Go.RowKit Cod

/-- a list of steps, wherever it lies -/
def SlcP (w : World) (v : Value) (n : Nat) : Prop :=
  ∃ (a : Option Addr) (cap : Nat), v = .slice a n cap ∧ ∀ j, j < n → ∃ (x : Addr) (o kp : Bool) (kd nn mm : Int) (s : ByteArray) (lv tv : Value), a = some x ∧ x.block < w.heap.size ∧ w.cell? (x.add (j * 8)) = some (.bool o) ∧ w.cell? (x.add (j * 8 + 1)) = some (.bool kp) ∧ w.cell? (x.add (j * 8 + 2)) = some (.int .i64 kd) ∧
    w.cell? (x.add (j * 8 + 3)) = some (.int .i64 nn) ∧ w.cell? (x.add (j * 8 + 4)) = some (.int .i64 mm) ∧ w.cell? (x.add (j * 8 + 5)) = some (.string s) ∧ w.cell? (x.add (j * 8 + 6)) = some lv ∧ w.cell? (x.add (j * 8 + 7)) = some tv ∧ OpOk w nn s lv tv
theorem sl_of {w : World} {v : Value} {l : List Int} (h : SlcI w v l) : ∃ a n c, v = .slice a n c := by
  obtain ⟨a, c, h, _⟩ := h; exact ⟨a, _, c, h⟩
theorem slT_of {w : World} {v : Value} {l : List (List UInt8)} (h : Slc w v l) : ∃ a n c, v = .slice a n c := by
  obtain ⟨a, c, h, _⟩ := h; exact ⟨a, _, c, h⟩
end Go.Proofs.YtonmhimoglgbgaaDoor
