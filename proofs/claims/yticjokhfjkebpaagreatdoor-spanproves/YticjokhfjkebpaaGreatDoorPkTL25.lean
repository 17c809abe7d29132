import Derived.Test.YticjokhfjkebpaaGreatDoorPkTL24
import Derived.Test.YticjokhfjkebpaaGreatDoorPkO15
import Derived.Test.YticjokhfjkebpaaGreatDoorPkO25
import Derived.Test.YticjokhfjkebpaaGreatDoorPkFL2
namespace Go.Proofs.YticjokhfjkebpaaGreatDoor
open Go.RowKit
theorem append_S (w : World) (B : Nat) (v : Value) (H : List (List UInt8)) (x : List UInt8) (hown : Own w B v (svs H)) (hlen : H.length ≤ 2000000) (hB : B ≤ w.heap.size) :
    ∃ v' w', (Builtin.append_ #[24, 24] 24 #[v, .slice (some ⟨w.heap.size, 0, none⟩) 1 1]).run Tryz.prog (w.alloc (.cells #[.string ⟨x.toArray⟩] 9)) = .ok v' w' ∧ Own w' B v' (svs (H ++ [x])) ∧ Grow w w' v v' := by
  have h := append_one 24 9 (.string ⟨#[]⟩) 16 (by omega) undSlS infoS rfl w B v (svs H) (sv x) rfl hown (by rw [svs_length]; exact hlen) hB
  rw [show svs H ++ [sv x] = svs (H ++ [x]) by simp [svs]] at h
  exact h
/-- the roots of the past -/
def rts (L : List (List UInt8)) (k : Nat) : List (List UInt8) := (List.range k).map fun j => Tree.root (L.take j)
theorem rts_succ (L : List (List UInt8)) (k : Nat) : rts L (k + 1) = rts L k ++ [Tree.root (L.take k)] := by unfold rts; rw [List.range_succ, List.map_append]; rfl
theorem rts_len (L : List (List UInt8)) (k : Nat) : (rts L k).length = k := by unfold rts; rw [List.length_map, List.length_range]
theorem rts_get {L : List (List UInt8)} {k j : Nat} (h : j < k) : (rts L k)[j]? = some (Tree.root (L.take j)) := by
  unfold rts
  rw [List.getElem?_map, List.getElem?_range h]
  rfl
/-- a span in a variable of its own -/
def Sn (w w' : World) (g b e : Nat) : Prop := w'.heap[g]? = some (.cells #[.int .i64 (b : Int), .int .i64 (e : Int)] 35 (0, 0)) ∧ Below w.heap.size w w'
/-- two cells -/
def S22 (p q : Addr) (x y : Value) (w : World) : Prop := w.cell? p = some x ∧ w.cell? q = some y
theorem S22.below {p q : Addr} {x y : Value} {w w' : World} {B : Nat} (h : S22 p q x y w) (hb : Below B w w') (h1 : p.block < B) (h2 : q.block < B) : S22 p q x y w' := ⟨(hb.cell h1).trans h.1, (hb.cell h2).trans h.2⟩
end Go.Proofs.YticjokhfjkebpaaGreatDoor
