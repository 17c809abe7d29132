import Derived.Test.YtcaephnicaepaaaDoorB2
namespace Go.Proofs.YtcaephnicaepaaaDoor
open Go.RowKit

/-- where c stands first in a list, counted from k on; -1: nowhere -/
def sgnAt (c : Nat) : List UInt8 → Nat → Int
  | [], _ => -1
  | x :: l, k => if x.toNat = c then (k : Int) else sgnAt c l (k + 1)
theorem sgnAt_drop (c : Nat) (l : List UInt8) (k : Nat) (h : k < l.length) : sgnAt c (l.drop k) k = if (l.getD k 0).toNat = c then (k : Int) else sgnAt c (l.drop (k + 1)) (k + 1) := by
  rw [List.drop_eq_getElem_cons h, sgnAt, List.getD_eq_getElem?_getD, List.getElem?_eq_getElem h]; rfl
set_option maxRecDepth 100000 in
set_option maxHeartbeats 1000000 in
theorem sign_any (c : Nat) (s : ByteArray) (hs : s.size ≤ 1000) (w : World) :
    Calls Tryd.prog 44 #[.int .u8 (c : Int), .string s] w fun e w' => e = .returned (.int .i64 (sgnAt c s.data.toList 0)) ∧ w' = w := by
  have hs' : (s.size : Int) ≤ 1000 := by omega
  obtain ⟨D, hD⟩ : ∃ D, Hid (sgnAt c s.data.toList 0 = D) := ⟨_, rfl⟩
  rw [hD.out]
  go_enter Tryd.func44, Tryd.ntmps44
  go_wp2
  go_loopw [5] (fun i w' => ∃ k : Nat, k ≤ s.size ∧ i = .int .i64 k ∧ Hid (sgnAt c (s.data.toList.drop k) k = D) ∧ w' = w) (fun i _ => s.size - (intOf i).toNat)
  case atStart => exact ⟨0, by omega, rfl, hD, rfl⟩
  case round =>
    obtain ⟨k, hk, rfl, hd, hwr⟩ := hrel
    have Hwr := hid hwr
    clear hwr
    by_cases hlt : k < s.size
    · have hlt' : (k : Int) < (s.size : Int) := by omega
      obtain ⟨x, ex, lx, ix, jx⟩ := index_any s (k : Int) k rfl hlt
      have hst := sgnAt_drop c s.data.toList k (by rw [data_length]; exact hlt)
      rw [hd.out, ← ex.out] at hst
      by_cases hc : x = c
      · rw [if_pos hc] at hst
        have HD := hid hst
        have hc' : ((x : Int) == (c : Int)) = true := by simp; omega
        clear hst
        subst hc
        go_wp2
        go_ret
        exact ⟨by rw [HD.out]; rfl, Hwr.out⟩
      · rw [if_neg hc] at hst
        have HD := hid hst.symm
        have hc' : ((x : Int) == (c : Int)) = false := by simp; omega
        clear hst
        go_wp2
        exact ⟨⟨k + 1, by omega, by go_num, HD, Hwr.out⟩, by simp [intOf]; omega⟩
    · obtain rfl : k = s.size := by omega
      have e : Hid (D = -1) := by rw [← hd.out, List.drop_of_length_le (by rw [data_length]; omega)]; rfl
      go_wp2
      go_ret
      exact ⟨by rw [e.out]; rfl, Hwr.out⟩
end Go.Proofs.YtcaephnicaepaaaDoor
