import Derived.Test.YtappjeepajjioaaGreatDoorPkI12
namespace Go.Proofs.YtappjeepajjioaaGreatDoor
open Go.RowKit
/-- which of n things -/
def pk4 (c n : Int) : Int := (if c < 0 then -(c + 1) else c) % n
theorem pk4_nonneg (c n : Int) (hn : 0 < n) : 0 ≤ pk4 c n := Int.emod_nonneg _ (by omega)
theorem pk4_lt (c n : Int) (hn : 0 < n) : pk4 c n < n := Int.emod_lt_of_pos _ hn
theorem sv_data4 (s : ByteArray) : Value.string s = sv s.data.toList := by cases s; rfl
theorem conv1 (w : World) (x : Nat) (hx : x < 256) : ∃ b : ByteArray, Hid (b.size = 1) ∧ (convert 64 9 (.slice (some ⟨w.heap.size, 0, none⟩) 1 1)).run Tryz.prog (w.alloc (.cells #[.int .u8 (x : Int)] 5)) = .ok (.string b) (w.alloc (.cells #[.int .u8 (x : Int)] 5)) := by
  have e : #[Value.int .u8 (x : Int)] = (bv [UInt8.ofNat x]).toArray := by
    simp [bv]; omega
  refine ⟨⟨[UInt8.ofNat x].toArray⟩, rfl, ?_⟩
  rw [e]
  exact run_conv_bytes (P := Tryz.prog) _ 64 9 5 w.heap.size 0 1 1 [UInt8.ofNat x] rfl Tryz.underlying64 Tryz.underlying5 Tryz.underlying9 (rangeAt_of_list (heap_alloc_new w _) (fun j v hv => by rw [Nat.zero_add]; exact hv))
/-- so many hashes come out -/
def HsOut (w : World) (M : Nat) (e : Ending) (w' : World) : Prop := ∃ v X, e = .returned v ∧ X.length = M ∧ X.all (·.length == 32) = true ∧ Own w' w.heap.size v (svs X) ∧ Below w.heap.size w w'
end Go.Proofs.YtappjeepajjioaaGreatDoor
