import Derived.Test.YtipcpdoejkoadaaDoorZ2
namespace Go.Proofs.YtipcpdoejkoadaaDoor
open Go.RowKit Cod

/-- texts made short -/
def tx (l : List (List UInt8)) (k : Nat) : List (List UInt8) := (l.take k).map (·.take 20)
theorem tx_len (l : List (List UInt8)) (k : Nat) (h : k ≤ l.length) : (tx l k).length = k := by simp [tx]; omega
theorem tx_succ (l : List (List UInt8)) (k : Nat) (h : k < l.length) : tx l (k + 1) = tx l k ++ [l[k].take 20] := by
  rw [tx, tx, List.take_add_one, List.getElem?_eq_getElem h, List.map_append]; rfl

set_option maxRecDepth 100000 in
set_option maxHeartbeats 800000 in
theorem texts_any (va : Value) (l : List (List UInt8)) (w : World) (ha : Slc w va l) (hll : l.length ≤ 9223372036854775807) :
    Calls Tryd.prog 69 #[va] w fun e w' => ∃ v, e = .returned v ∧ Own w' w.heap.size v (svs (tx l (min l.length 8))) ∧ Below w.heap.size w w' := by
  obtain ⟨a, ca, rfl, ha⟩ := ha
  have Ha := hid ha
  clear ha
  go_enter Tryd.func69, Tryd.ntmps69
  go_wp2
  go_loopw [3, 4] (fun out i w' => ∃ k : Nat, k ≤ l.length ∧ k ≤ 8 ∧ i = .int .i64 k ∧ Hid (Own w' w.heap.size out (svs (tx l k))) ∧ Hid (Below w.heap.size w w')) (fun _ i _ => l.length - (intOf i).toNat)
  case atStart => exact ⟨0, by omega, by omega, rfl, hid (Own.nil _ _), hid (Below.refl _ _)⟩
  case round =>
    obtain ⟨k, hk, hk8, rfl, Ho, hb⟩ := hrel
    by_cases hlt : k < l.length
    · by_cases h8 : k < 8
      · have b0 : (k : Int) < (l.length : Int) := by omega
        have b8 : (k : Int) < 8 := by omega
        obtain ⟨x, rfl, xb, hx⟩ := Ha.out k l[k] (List.getElem?_eq_getElem hlt)
        rw [← hb.out.cell (p := x.add k) (by rw [add_block]; exact xb)] at hx
        obtain ⟨p, hp, hpl⟩ := sv_str l[k]
        rw [hp] at hx
        have hts := hid (tx_succ l k hlt)
        have htl := tx_len l k hk
        rw [← hpl] at hts
        have hpz := data_length p
        clear hp xb
        by_cases h20 : p.size ≤ 20
        · have b1 : ¬ (20 : Int) < (p.size : Int) := by omega
          have htk : p.data.toList.take 20 = p.data.toList := List.take_of_length_le (by omega)
          rw [htk] at hts
          obtain ⟨v5, w5, hcc, g1, g2, g3⟩ := app_txt _ w.heap.size _ (tx l k) (.string p) p.data.toList (sv_of p) Ho.out (by omega) hb.out.size
          have O5 : Hid (Own w5 w.heap.size v5 (svs (tx l (k + 1)))) := hid (by rw [hts.out]; exact g1)
          have B5 : Hid (Below w.heap.size w w5) := hid (hb.out.trans (g2.below hb.out.size (fun j hj e => by have := Ho.out.ge j e; omega)))
          clear g1 g2 g3 htk hpz hpl
          go_wp2_with (at_builtin; go_must (refine Lib.wpList_append_run _ rfl _ _ 31 31 rfl _ _ rfl rfl _ _ hcc ?_))
          first | exact ⟨⟨k + 1, by omega, by omega, by go_num, O5, B5⟩, by simp [intOf]; omega⟩ | (refine ⟨?_, by simp [intOf]; omega⟩; (repeat apply Exists.intro); exact ⟨⟨k + 1, by omega, by omega, by go_num, O5, B5⟩, rfl⟩)
        · have b1 : (20 : Int) < (p.size : Int) := by omega
          have b2 : (20 : Int) ≤ (p.size : Int) := by omega
          obtain ⟨v5, w5, hcc, g1, g2, g3⟩ := app_txt _ w.heap.size _ (tx l k) (.string (p.extract 0 20)) (p.data.toList.take 20) (sv_take p 20) Ho.out (by omega) hb.out.size
          have O5 : Hid (Own w5 w.heap.size v5 (svs (tx l (k + 1)))) := hid (by rw [hts.out]; exact g1)
          have B5 : Hid (Below w.heap.size w w5) := hid (hb.out.trans (g2.below hb.out.size (fun j hj e => by have := Ho.out.ge j e; omega)))
          clear g1 g2 g3 hpz hpl
          go_wp2_with (at_builtin; go_must (refine Lib.wpList_append_run _ rfl _ _ 31 31 rfl _ _ rfl rfl _ _ hcc ?_))
          first | exact ⟨⟨k + 1, by omega, by omega, by go_num, O5, B5⟩, by simp [intOf]; omega⟩ | (refine ⟨?_, by simp [intOf]; omega⟩; (repeat apply Exists.intro); exact ⟨⟨k + 1, by omega, by omega, by go_num, O5, B5⟩, rfl⟩)
      · have b0 : (k : Int) < (l.length : Int) := by omega
        have b8 : ¬ (k : Int) < 8 := by omega
        have hm : Hid (min l.length 8 = k) := hid (by omega)
        go_wp2
        go_ret
        exact ⟨_, rfl, by rw [hm.out]; exact Ho.out, hb.out⟩
    · have b0 : ¬ (k : Int) < (l.length : Int) := by omega
      have hm : Hid (min l.length 8 = k) := hid (by omega)
      go_wp2
      go_ret
      exact ⟨_, rfl, by rw [hm.out]; exact Ho.out, hb.out⟩
end Go.Proofs.YtipcpdoejkoadaaDoor
