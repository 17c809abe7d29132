import Derived.Test.YtipcpdoejkoadaaDoorZ1
namespace Go.Proofs.YtipcpdoejkoadaaDoor
open Go.RowKit Cod

/-- numbers made to rise: those of the first k, and the next one's least -/
def rs (l : List Int) : Nat → List Nat × Nat
  | 0 => ([], 0)
  | k + 1 => ((rs l k).1 ++ [(rs l k).2 + (pk (l.getD k 0) 1099511627776).toNat], (rs l k).2 + (pk (l.getD k 0) 1099511627776).toNat + 1)
theorem rs_len (l : List Int) (k : Nat) : (rs l k).1.length = k := by
  induction k with
  | zero => rfl
  | succ k ih => simp [rs, ih]
theorem rs_le (l : List Int) (k : Nat) : (rs l k).2 ≤ k * 1099511627776 := by
  induction k with
  | zero => simp [rs]
  | succ k ih =>
    have := pk_lt (l.getD k 0) 1099511627776 (by decide)
    have := pk_nonneg (l.getD k 0) 1099511627776 (by decide)
    simp only [rs]
    omega

set_option maxRecDepth 100000 in
set_option maxHeartbeats 800000 in
theorem rising_any (va : Value) (l : List Int) (w : World) (ha : SlcI w va l) (hl : ∀ c ∈ l, -9223372036854775808 ≤ c ∧ c ≤ 9223372036854775807) (hll : l.length ≤ 9223372036854775807) :
    Calls Tryd.prog 68 #[va] w fun e w' => ∃ v, e = .returned v ∧ Own w' w.heap.size v (nvs (rs l (min l.length 8)).1) ∧ Below w.heap.size w w' := by
  obtain ⟨a, ca, rfl, ha⟩ := ha
  have Ha := hid ha
  have Hl := hid hl
  clear ha hl
  go_enter Tryd.func68, Tryd.ntmps68
  go_wp2
  go_loopw [3, 4, 5] (fun out last i w' => ∃ k z : Nat, k ≤ l.length ∧ k ≤ 8 ∧ z ≤ k * 1099511627776 ∧ i = .int .i64 k ∧ last = .int .i64 ((z : Int) - 1) ∧ Hid ((rs l k).2 = z) ∧ Hid (Own w' w.heap.size out (nvs (rs l k).1)) ∧ Hid (Below w.heap.size w w')) (fun _ _ i _ => l.length - (intOf i).toNat)
  case atStart => exact ⟨0, 0, by omega, by omega, by omega, rfl, rfl, rfl, hid (Own.nil _ _), hid (Below.refl _ _)⟩
  case round =>
    obtain ⟨k, z, hk, hk8, hz, rfl, rfl, Hz, Ho, hb⟩ := hrel
    by_cases hlt : k < l.length
    · by_cases h8 : k < 8
      · have b0 : (k : Int) < (l.length : Int) := by omega
        have b8 : (k : Int) < 8 := by omega
        obtain ⟨x, rfl, xb, hx⟩ := Ha.out k l[k] (List.getElem?_eq_getElem hlt)
        rw [← hb.out.cell (p := x.add k) (by rw [add_block]; exact xb)] at hx
        obtain ⟨c1, c2⟩ := Hl.out l[k] (List.getElem_mem hlt)
        obtain ⟨r, hr, hr2⟩ := pk_nat l[k] 1099511627776 (by decide)
        have hrs : Hid ((rs l (k + 1)) = ((rs l k).1 ++ [z + r], z + r + 1)) := hid (by
          rw [rs, Hz.out, show l.getD k 0 = l[k] from by simp [List.getD, List.getElem?_eq_getElem hlt], hr.out]; rfl)
        have q1 : IntKind.i64.wrap ((z : Int) - 1 + 1) = z := by rw [IntKind.wrap_i64]; omega
        have q2 : IntKind.i64.wrap ((z : Int) + r) = (z + r : Nat) := by rw [IntKind.wrap_i64]; omega
        generalize l[k] = q at *
        obtain ⟨v5, w5, hcc, g1, g2, g3⟩ := app_int _ w.heap.size _ (rs l k).1 (z + r) Ho.out (by rw [rs_len]; omega) hb.out.size
        have O5 : Hid (Own w5 w.heap.size v5 (nvs (rs l (k + 1)).1)) := hid (by rw [hrs.out]; exact g1)
        have B5 : Hid (Below w.heap.size w w5) := hid (hb.out.trans (g2.below hb.out.size (fun j hj e => by have := Ho.out.ge j e; omega)))
        clear g1 g2 g3 xb
        go_wp2_with first
          | (go_at_call 10; refine (pick_at hr c1 c2 (by omega) (by omega) _).mono ?_; rintro y w' ⟨rfl, hw'⟩; rw [hw']; clear hw' w')
          | (at_builtin; go_must (refine Lib.wpList_append_run _ rfl _ _ 33 33 rfl _ _ rfl rfl _ _ hcc ?_))
        exact ⟨⟨k + 1, z + r + 1, by omega, by omega, by omega, by go_num, by congr 1; omega, hid (by rw [hrs.out]), O5, B5⟩, by simp [intOf]; omega⟩
      · have b0 : (k : Int) < (l.length : Int) := by omega
        have b8 : ¬ (k : Int) < 8 := by omega
        have hm : Hid (min l.length 8 = k) := hid (by omega)
        go_wp2
        go_ret
        exact ⟨_, rfl, by rw [hm.out]; exact Ho.out, hb.out⟩
    · have b0 : ¬ (k : Int) < (l.length : Int) := by omega
      have hm : Hid (min l.length 8 = k) := hid (by omega)
      go_wp2
      go_ret
      exact ⟨_, rfl, by rw [hm.out]; exact Ho.out, hb.out⟩
end Go.Proofs.YtipcpdoejkoadaaDoor
