import Derived.Test.YtipcpdoejkoadaaDoorZ4
namespace Go.Proofs.YtipcpdoejkoadaaDoor
open Go.RowKit Cod

set_option maxRecDepth 100000 in
set_option maxHeartbeats 800000 in
theorem hashes_any (va : Value) (l : List (List UInt8)) (w : World) (ha : Slc w va l) (hll : l.length ≤ 9223372036854775807) :
    Calls Tryd.prog 70 #[va] w fun e w' => ∃ v, e = .returned v ∧ Own w' w.heap.size v (svs (hx l (min l.length 8))) ∧ Below w.heap.size w w' := by
  obtain ⟨a, ca, rfl, ha⟩ := ha
  have Ha := hid ha
  clear ha
  go_enter Tryd.func70, Tryd.ntmps70
  go_wp2
  go_loopw [3, 4] (fun out i w' => ∃ k : Nat, k ≤ l.length ∧ k ≤ 8 ∧ i = .int .i64 k ∧ Hid (Own w' w.heap.size out (svs (hx l k))) ∧ Hid (Below w.heap.size w w')) (fun _ i _ => l.length - (intOf i).toNat)
  case atStart => exact ⟨0, by omega, by omega, rfl, hid (Own.nil _ _), hid (Below.refl _ _)⟩
  case round =>
    obtain ⟨k, hk, hk8, rfl, Ho, hb⟩ := hrel
    by_cases hlt : k < l.length
    · by_cases h8 : k < 8
      · have b0 : (k : Int) < (l.length : Int) := by omega
        have b8 : (k : Int) < 8 := by omega
        obtain ⟨x, rfl, xb, hx0⟩ := Ha.out k l[k] (List.getElem?_eq_getElem hlt)
        obtain ⟨p, hp, hpl⟩ := sv_str l[k]
        rw [hp] at hx0
        have hmk := make32 wr
        obtain ⟨c, w2, hcp, hcv, hb2⟩ := copy32 wr p
        have hx1 : (wr.alloc (.cells (bv (List.replicate 32 0)).toArray 5)).cell? (x.add k) = some (.string p) := by
          rw [(hb.out.alloc hb.out.size _).cell (p := x.add k) (by rw [add_block]; exact xb)]; exact hx0
        have hts := hid (hx_succ l k hlt)
        have htl := hx_len l k hk
        rw [← hpl] at hts
        obtain ⟨q, hq, hql⟩ := sv_str (h32 p.data.toList)
        rw [hq] at hcv
        obtain ⟨v5, w5, hcc, g1, g2, g3⟩ := app_txt w2 w.heap.size _ (hx l k) (.string q) (h32 p.data.toList) hq (Ho.out.below hb2 (Nat.le_refl _)) (by omega) (Nat.le_trans hb.out.size hb2.size)
        have O5 : Hid (Own w5 w.heap.size v5 (svs (hx l (k + 1)))) := hid (by rw [hts.out]; exact g1)
        have B5 : Hid (Below w.heap.size w w5) := hid ((hb.out.trans (hb2.mono hb.out.size)).trans (g2.below (Nat.le_trans hb.out.size hb2.size) (fun j hj e => by have := Ho.out.ge j e; omega)))
        generalize wr.alloc (.cells (bv (List.replicate 32 0)).toArray 5) = w1 at *
        clear g1 g2 g3 hpl hp hq hql hx0 xb hb2 htl
        go_wp2_with first
          | (at_builtin; go_must (refine Lib.wpList_append_run _ rfl _ _ 31 31 rfl _ _ rfl rfl _ _ hcc ?_))
        exact ⟨⟨k + 1, by omega, by omega, by go_num, O5, B5⟩, by simp [intOf]; omega⟩
      · have b0 : (k : Int) < (l.length : Int) := by omega
        have b8 : ¬ (k : Int) < 8 := by omega
        have hm : Hid (min l.length 8 = k) := hid (by omega)
        go_wp2
        go_ret
        exact ⟨_, rfl, by rw [hm.out]; exact Ho.out, hb.out⟩
    · have b0 : ¬ (k : Int) < (l.length : Int) := by omega
      have hm : Hid (min l.length 8 = k) := hid (by omega)
      go_wp2
      go_ret
      exact ⟨_, rfl, by rw [hm.out]; exact Ho.out, hb.out⟩
end Go.Proofs.YtipcpdoejkoadaaDoor
