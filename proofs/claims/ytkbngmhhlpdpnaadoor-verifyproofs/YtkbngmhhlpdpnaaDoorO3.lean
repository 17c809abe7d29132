import Derived.Test.YtkbngmhhlpdpnaaDoorK4
import Derived.Test.YtkbngmhhlpdpnaaDoorO2
namespace Go.Proofs.YtkbngmhhlpdpnaaDoor
open Go.RowKit

/-- T1 -/
def spI (n : Int) : Int := (Tree.sp n.toNat : Nat)
theorem log_le {x : Nat} (h1 : 1 ≤ x) (h : x < 9223372036854775808) : x.log2 ≤ 62 := by
  have := (Nat.log2_lt (n := x) (k := 63) (by omega)).2 h
  omega
theorem wrap_pow {L : Nat} (h : L ≤ 62) : wrap64 ((2 : Int) ^ L) = ((2 ^ L : Nat) : Int) := by
  have := Nat.pow_le_pow_right (n := 2) (by decide) h
  have e : ((2 : Int) ^ L) = ((2 ^ L : Nat) : Int) := by simp
  rw [e]
  generalize 2 ^ L = x at *
  unfold wrap64
  omega
set_option maxRecDepth 100000 in
set_option maxHeartbeats 2000000 in
theorem split_any (n : Int) (h0 : -9223372036854775808 ≤ n) (h1 : n ≤ 9223372036854775807) (w : World) :
    Calls Tryd.prog 38 #[.int .i64 n] w fun e w' => e = .returned (.int .i64 (spI n)) ∧ w' = w := by
  by_cases hn : n < 2
  · go_enter Tryd.func38, Tryd.ntmps38
    go_wp2
    go_ret
    exact ⟨by rw [spI, Tree.sp_small (by omega)]; rfl, rfl⟩
  · have hb := bitLen_log _ (n - 1).toNat (Nat.le_refl _) (by omega) (by omega)
    have hL := log_le (x := (n - 1).toNat) (by omega) (by omega)
    have e := hid (show spI n = ((2 ^ (n - 1).toNat.log2 : Nat) : Int) by rw [spI, Tree.sp_eq (by omega), show n.toNat - 1 = (n - 1).toNat from by omega])
    have hc := lenU_any (n - 1) (by omega) (by omega)
    rw [hb] at hc
    clear hb
    generalize (n - 1).toNat.log2 = L at *
    go_enter Tryd.func38, Tryd.ntmps38
    go_wp2_with (go_at_call 75; refine (hc _).mono ?_; rintro e w' ⟨rfl, rfl⟩)
    go_ret
    exact ⟨by rw [e.out, ← wrap_pow hL]; rfl, rfl⟩
set_option maxRecDepth 100000 in
set_option maxHeartbeats 2000000 in
theorem rsplit_any (n : Int) (h0 : -9223372036854775808 ≤ n) (h1 : n ≤ 9223372036854775807) (w : World) :
    Calls Tryd.prog 79 #[.int .i64 n] w fun e w' => e = .returned (.int .i64 (spI n)) ∧ w' = w := by
  by_cases hn : n < 2
  · go_enter Tryd.func79, Tryd.ntmps79
    go_wp2
    go_ret
    exact ⟨by rw [spI, Tree.sp_small (by omega)]; rfl, rfl⟩
  · go_enter Tryd.func79, Tryd.ntmps79
    go_wp2
    go_loopw [3] (fun k w' => ∃ a x : Nat, Hid (2 ^ a = x) ∧ k = .int .i64 (x : Int) ∧ (x : Int) < n ∧ 0 < x ∧ w' = w) (fun k _ => n.toNat - (intOf k).toNat)
    case atStart => exact ⟨0, 1, rfl, rfl, by omega, by omega, rfl⟩
    case round =>
      obtain ⟨a, x, hx, rfl, hlt, hpos, rfl⟩ := hrel
      by_cases hk : 2 * (x : Int) < n
      · have b0 : (x : Int) < n - (x : Int) := by omega
        go_wp2
        exact ⟨⟨a + 1, 2 * x, by rw [Hid, Nat.pow_succ, hx.out, Nat.mul_comm], by go_num, by omega, by omega, trivial⟩, by simp [intOf]; omega⟩
      · have b0 : ¬ (x : Int) < n - (x : Int) := by omega
        have e := hid (show spI n = (x : Int) by rw [spI, Tree.sp_one (by omega) a (by rw [hx.out]; omega) (by rw [hx.out]; omega), hx.out])
        go_wp2
        go_ret
        exact ⟨by rw [e.out]; rfl, rfl⟩
end Go.Proofs.YtkbngmhhlpdpnaaDoor
