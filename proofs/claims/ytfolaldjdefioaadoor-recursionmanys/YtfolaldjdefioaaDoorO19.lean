import Derived.Test.YtfolaldjdefioaaDoorO15
import Derived.Test.YtfolaldjdefioaaDoorO17
import Derived.Test.YtfolaldjdefioaaDoorO18
namespace Go.Proofs.YtfolaldjdefioaaDoor
open Go.RowKit

/-- which of n things -/
def pk (c n : Int) : Int := (if c < 0 then -(c + 1) else c) % n
theorem pk_nonneg (c n : Int) (hn : 0 < n) : 0 ≤ pk c n := Int.emod_nonneg _ (by omega)
theorem pk_lt (c n : Int) (hn : 0 < n) : pk c n < n := Int.emod_lt_of_pos _ hn
set_option maxRecDepth 100000 in
set_option maxHeartbeats 400000 in
theorem pick_any (c n : Int) (hc1 : -9223372036854775808 ≤ c) (hc2 : c ≤ 9223372036854775807) (hn : 0 < n) (hn2 : n ≤ 9223372036854775807) (w : World) :
    Calls Tryd.prog 13 #[.int .i64 c, .int .i64 n] w fun e w' => e = .returned (.int .i64 (pk c n)) ∧ w' = w := by
  have hp0 := pk_nonneg c n hn
  have hp1 := pk_lt c n hn
  have hn0 : ¬ n = 0 := by omega
  by_cases h : c < 0
  · have e1 : IntKind.i64.wrap (c + 1) = c + 1 := by rw [IntKind.wrap_i64]; omega
    have e2 : IntKind.i64.wrap (-(c + 1)) = -(c + 1) := by rw [IntKind.wrap_i64]; omega
    have e3 : Int.tmod (-(c + 1)) n = pk c n := by rw [Int.tmod_eq_emod_of_nonneg (by omega), pk, if_pos h]
    have e4 : IntKind.i64.wrap (pk c n) = pk c n := wrap_small _ (by omega) (by omega)
    go_enter Tryd.func13, Tryd.ntmps13
    go_wp2
    go_ret
    exact ⟨rfl, rfl⟩
  · have e3 : Int.tmod c n = pk c n := by rw [Int.tmod_eq_emod_of_nonneg (by omega), pk, if_neg h]
    have e4 : IntKind.i64.wrap (pk c n) = pk c n := wrap_small _ (by omega) (by omega)
    go_enter Tryd.func13, Tryd.ntmps13
    go_wp2
    go_ret
    exact ⟨rfl, rfl⟩


theorem AtI.below {w w' : World} {a : Option Addr} {l : List Int} {B : Nat} (h : AtI w a l) (hb : Below B w w') (hB : w.heap.size ≤ B) : AtI w' a l := fun j p hp => by
  obtain ⟨x, rfl, hx, hc⟩ := h j p hp
  exact ⟨x, rfl, Nat.lt_of_lt_of_le hx hb.size, (hb.cell (p := x.add j) (by rw [addr_block]; omega)).trans hc⟩
theorem AtI.pos {w : World} {a : Option Addr} {l : List Int} (h : AtI w a l) (hl : 0 < l.length) : ∃ x, a = some x := by
  obtain ⟨x, hx, _⟩ := h 0 _ (List.getElem?_eq_getElem hl)
  exact ⟨x, hx⟩
theorem AtI.cell {w : World} {x : Addr} {l : List Int} (h : AtI w (some x) l) (j : Nat) (hj : j < l.length) : w.cell? (x.add j) = some (.int .i64 l[j]) := by
  obtain ⟨y, hy, _, hc⟩ := h j _ (List.getElem?_eq_getElem hj)
  obtain rfl := Option.some.inj hy
  exact hc
def nums (cs : List Int) (k : Nat) : List (List UInt8) := (cs.take k).map lf
theorem nums_succ (cs : List Int) (k : Nat) (h : k < cs.length) : nums cs (k + 1) = nums cs k ++ [lf cs[k]] := by
  rw [nums, nums, List.take_add_one, List.getElem?_eq_getElem h, List.map_append]; rfl
theorem nums_len (cs : List Int) (k : Nat) : (nums cs k).length = min k cs.length := by simp [nums]
theorem nums_hs (cs : List Int) (k : Nat) : Tree.Hs (nums cs k) := fun x hx => by
  simp only [nums, List.mem_map] at hx
  obtain ⟨c, _, rfl⟩ := hx
  exact lf_length c
set_option maxRecDepth 100000 in
set_option maxHeartbeats 400000 in
theorem numbered_any (cs : List Int) (M : Nat) (hM : M ≤ 1000) (a : Option Addr) (cap : Nat) (w : World) (hc : cs.length ≤ 9223372036854775807) (hA : AtI w a cs) :
    Calls Tryd.prog 12 #[.slice a cs.length cap, .int .i64 M] w (Out w (nums cs M)) := by
  have HA := hid hA
  clear hA
  generalize hn : cs.length = n at *
  go_enter Tryd.func12, Tryd.ntmps12
  go_wp2
  go_loopw [5, 6] (fun v i w' => ∃ k : Nat, k ≤ n ∧ k ≤ M ∧ i = .int .i64 (k : Int) ∧ Hid (Own w' w.heap.size v (svs (nums cs k))) ∧ Hid (Below w.heap.size w w')) (fun _ i _ => M - (intOf i).toNat)
  case atStart => exact ⟨0, by omega, by omega, rfl, Own.nil _ _, Below.refl _ _⟩
  case round =>
    obtain ⟨k, hk, hkM, rfl, hO, hB⟩ := hrel
    by_cases hkn : k < n ∧ k < M
    · obtain ⟨h1, h2⟩ := hkn
      have b0 : (k : Int) < (n : Int) := by omega
      have b1 : (k : Int) < (M : Int) := by omega
      obtain ⟨x, rfl⟩ := HA.out.pos (by omega)
      have hcell := (HA.out.below hB.out (Nat.le_refl _)).cell k (by omega)
      have hnx := hid (nums_succ cs k (by omega))
      have hl := nums_len cs k
      generalize cs[k] = c at *
      obtain ⟨r, hr⟩ : ∃ r, Hid (lf c = r) := ⟨_, rfl⟩
      have hlt := (HA.out.below hB.out (Nat.le_refl _))
      clear hlt
      go_wp2_with (first
        | (go_at_call 36; refine (lleaf_at c r hr _).mono ?_; rintro e w2 ⟨rfl, hw2⟩; obtain ⟨v3, w3, hap, hO3, hb3⟩ := append_text w2 w.heap.size _ (nums cs k) r (hO.out.below hw2 (Nat.le_refl _)) (by omega) (Nat.le_trans hB.out.size hw2.size); rw [show sv r = Value.string ⟨r.toArray⟩ from rfl] at hap ⊢)
        | (at_builtin; go_must (refine Lib.wpList_append_run _ rfl _ _ 26 26 rfl _ _ rfl rfl _ _ hap ?_)))
      exact ⟨⟨k + 1, by omega, by omega, by go_num, by unfold Hid; rw [hnx.out, hr.out]; exact hO3, (hB.out.trans (hw2.mono hB.out.size)).trans hb3⟩, by simp [intOf]; omega⟩
    · have e : nums cs k = nums cs M := by
        by_cases h : k < n
        · rw [show k = M from by omega]
        · rw [nums, nums, List.take_of_length_le (by omega), List.take_of_length_le (by omega)]
      rw [e] at hO
      by_cases h1 : k < n
      · have b0 : (k : Int) < (n : Int) := by omega
        have b1 : ¬ (k : Int) < (M : Int) := by omega
        go_wp2
        go_ret
        exact ⟨_, rfl, hO.out, hB.out⟩
      · have b0 : ¬ (k : Int) < (n : Int) := by omega
        go_wp2
        go_ret
        exact ⟨_, rfl, hO.out, hB.out⟩
end Go.Proofs.YtfolaldjdefioaaDoor
