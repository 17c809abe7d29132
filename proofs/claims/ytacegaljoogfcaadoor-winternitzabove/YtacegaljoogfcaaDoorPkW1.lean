import Derived.Test.YtacegaljoogfcaaDoorProg
import Derived.Test.YtacegaljoogfcaaDoorPkM1
import Derived.WalkKit
import Derived.WalkSpells
import Derived.WalkLawsBesides
namespace Go.Proofs.YtacegaljoogfcaaDoor
open Go.RowKit

theorem ret_int {k : IntKind} {a b : Int} (h : a = b) : Ending.returned (.int k a) = .returned (.int k b) := by rw [h]

set_option maxHeartbeats 400000 in
theorem rotl_any (x n : Nat) (hx : x < 4294967296) (h1 : 1 ≤ n) (h2 : n ≤ 31) (w : World) :
    Calls Tryd.prog 27 #[.int .u32 (x : Int), .int .i64 (-(n : Int))] w fun e w' => e = .returned (.int .u32 (Sha.ror n x : Nat)) ∧ w' = w := by
  have hm := Sha.mask_walk n h1 h2
  have hr := Sha.ror_walk x n hx
  have HR : Hid _ := hr
  clear hr
  obtain ⟨k, hk⟩ : ∃ k : Nat, k = 32 - n := ⟨_, rfl⟩
  rw [← hk] at hm
  have hk1 : (k : Int) ≤ 32 := by omega
  have hk2 : (0 : Int) ≤ k := by omega
  have Hk : Hid _ := hk
  clear hk
  go_enter Tryd.func27, Tryd.ntmps27
  go_wp2
  go_ret
  refine ⟨ret_int ?_, rfl⟩
  have e := HR.out
  rw [IntKind.wrap_u32'] at e
  rw [← e, Hk.out, show 32 - (32 - n) = n from by omega]

set_option maxHeartbeats 400000 in
theorem ror_any (x : Nat) (n : Int) (hx : x < 4294967296) (h1 : 1 ≤ n) (h2 : n ≤ 31) (w : World) :
    Calls Tryd.prog 24 #[.int .u32 (x : Int), .int .i64 n] w fun e w' => e = .returned (.int .u32 (Sha.ror n.toNat x : Nat)) ∧ w' = w := by
  obtain ⟨n, rfl⟩ := Int.eq_ofNat_of_zero_le (show 0 ≤ n by omega)
  rw [Int.toNat_natCast]
  go_enter Tryd.func24, Tryd.ntmps24
  go_wp2_with (go_at_call 27; refine (rotl_any x n hx (by omega) (by omega) _).mono ?_; rintro e w' ⟨rfl, rfl⟩)
  go_ret
  exact ⟨rfl, rfl⟩
end Go.Proofs.YtacegaljoogfcaaDoor
