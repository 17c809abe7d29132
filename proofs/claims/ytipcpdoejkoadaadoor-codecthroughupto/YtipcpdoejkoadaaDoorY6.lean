import Derived.Test.YtipcpdoejkoadaaDoorY5
namespace Go.Proofs.YtipcpdoejkoadaaDoor
open Go.RowKit Cod

theorem over_set (cs : List Value) (k : Nat) (u : Value) (hk : k < cs.length) : (List.replicate k u ++ cs.drop k).set k u = List.replicate (k + 1) u ++ cs.drop (k + 1) := by
  rw [List.set_append_right _ _ (by simp), List.length_replicate, Nat.sub_self, List.drop_eq_getElem_cons hk, List.set_cons_zero, List.replicate_succ', List.append_assoc]
  rfl
theorem over_get (cs : List Value) (k : Nat) (u : Value) (hk : k < cs.length) : (List.replicate k u ++ cs.drop k)[k]? = some cs[k] := by
  rw [List.getElem?_append_right (by simp), List.length_replicate, Nat.sub_self, List.drop_eq_getElem_cons hk]
  rfl
theorem over_len (cs : List Value) (k : Nat) (u : Value) (hk : k ≤ cs.length) : (List.replicate k u ++ cs.drop k).length = cs.length := by
  rw [List.length_append, List.length_replicate, List.length_drop]; omega
theorem SlcV.but {w w' : World} {x : Addr} {n c g : Nat} {cs : List Value} (h : SlcV w (.slice (some x) n c) cs) (hb : But g w w') (hx : x.block ≠ g) : SlcV w' (.slice (some x) n c) cs :=
  h.keep (S := fun k => k = g) (Keep.ofBut hb rfl) (fun y _ _ hy e => by cases hy; exact hx e)

set_option maxRecDepth 100000 in
set_option maxHeartbeats 1000000 in
theorem asInts_nil (r : Value) (n c : Nat) (w : World) :
    Calls Tryd.prog 77 #[r, .slice none n c] w fun e w' => e = .returned (.bool true) ∧ w' = w := by
  have en := eqn_int n c
  go_enter Tryd.func77, Tryd.ntmps77
  go_wp2
  go_ret
  exact ⟨rfl, rfl⟩
set_option maxRecDepth 100000 in
set_option maxHeartbeats 1000000 in
theorem asInts_any (l : List Int) (x : Addr) (c B g cap : Nat) (hll : l.length ≤ 1000000000) (w : World) (hs : SlcV w (.slice (some x) l.length c) (ivs l)) (hx : l ≠ [] → x.block ≠ g) (hL : Lent w B g cap (ivs l ++ [Value.int .i64 (-7), Value.int .i64 (-7), Value.int .i64 (-7), Value.int .i64 (-7)])) :
    Calls Tryd.prog 77 #[.slice (some ⟨g, 0, none⟩) l.length cap, .slice (some x) l.length c] w fun e w' => e = .returned (.bool true) ∧ Lent w' B g cap (List.replicate (l.length + 4) (Value.int .i64 9)) ∧ But g w w' := by
  have nn := nen_int x l.length c
  obtain ⟨cells, hcells⟩ : ∃ cells, Hid (ivs l ++ [Value.int .i64 (-7), Value.int .i64 (-7), Value.int .i64 (-7), Value.int .i64 (-7)] = cells) := ⟨_, rfl⟩
  have hcl : cells.length = l.length + 4 := by rw [← hcells.out, List.length_append]; simp [ivs]
  have hcap := hL.2
  rw [hcells.out] at hL
  rw [hcells.out, hcl] at hcap
  have hcap' : (l.length : Int) + 4 ≤ (cap : Int) := by omega
  have HL := hid hL
  have HS := hid hs
  clear hs hL
  go_enter Tryd.func77, Tryd.ntmps77
  go_wp2
  go_loopw [6] (fun i w' => ∃ k : Nat, k ≤ l.length + 4 ∧ i = .int .i64 k ∧ Hid (Lent w' B g cap (List.replicate k (Value.int .i64 9) ++ cells.drop k)) ∧ Hid (But g w w')) (fun i _ => l.length + 4 - (intOf i).toNat)
  case atStart => exact ⟨0, by omega, rfl, hid (by rw [List.drop_zero, List.replicate_zero, List.nil_append]; exact HL.out), hid (But.refl _ _)⟩
  case round =>
    obtain ⟨k, hk, rfl, hLk, hb⟩ := hrel
    by_cases hlt : k < l.length + 4
    · have hkc : k < cells.length := by omega
      have b0 : (k : Int) < (l.length : Int) + 4 := by omega
      obtain ⟨c1, f1⟩ := hLk.out.cell (over_get cells k (Value.int .i64 9) hkc)
      have L2 := hid (hLk.out.set k (Value.int .i64 9) (by rw [over_len _ _ _ (by omega)]; exact hkc))
      rw [over_set _ _ _ hkc] at L2
      have B2 := hid (hb.out.setCell k (Value.int .i64 9))
      by_cases hkl : k < l.length
      · have b1 : (k : Int) < (l.length : Int) := by omega
        have hget : cells[k] = Value.int .i64 l[k] := by
          have : cells[k]? = some (Value.int .i64 l[k]) := by
            rw [← hcells.out, List.getElem?_append_left (by simp [ivs]; exact hkl), ivs, List.getElem?_map, List.getElem?_eq_getElem hkl]; rfl
          rw [List.getElem?_eq_getElem hkc] at this
          exact Option.some.inj this
        obtain ⟨a', cap', hu, hcs⟩ := HS.out.but hb.out (hx (fun e => by rw [e] at hkl; simp at hkl))
        injection hu with u1 u2 u3
        obtain ⟨y, hy, hyb, hc⟩ := hcs k (Value.int .i64 l[k]) (by rw [ivs, List.getElem?_map, List.getElem?_eq_getElem hkl]; rfl)
        rw [← u1] at hy
        cases hy
        clear u1 u2 u3
        rw [hget] at c1
        generalize l[k] = q at *
        have y1 : (q == q) = true := by simp
        have y2 : (q != q) = false := by simp
        clear hcs hget
        go_wp2
        exact ⟨⟨k + 1, by omega, by go_num, L2, B2⟩, by simp [intOf]; omega⟩
      · have b1 : ¬ (k : Int) < (l.length : Int) := by omega
        have hget : cells[k] = Value.int .i64 (-7) := by
          have : cells[k]? = some (Value.int .i64 (-7)) := by
            rw [← hcells.out, List.getElem?_append_right (by simp [ivs]; omega)]
            have hj : k - (ivs l).length < 4 := by simp [ivs]; omega
            generalize k - (ivs l).length = j at hj
            match j, hj with
            | 0, _ => rfl
            | 1, _ => rfl
            | 2, _ => rfl
            | 3, _ => rfl
          rw [List.getElem?_eq_getElem hkc] at this
          exact Option.some.inj this
        rw [hget] at c1
        clear hget
        go_wp2
        exact ⟨⟨k + 1, by omega, by go_num, L2, B2⟩, by simp [intOf]; omega⟩
    · obtain rfl : k = l.length + 4 := by omega
      have L3 := hLk.out
      rw [List.drop_of_length_le (by omega), List.append_nil] at L3
      have H3 := hid L3
      clear L3
      have b0 : ¬ ((l.length + 4 : Nat) : Int) < (l.length : Int) + 4 := by omega
      go_wp2
      go_ret
      exact ⟨rfl, H3.out, hb.out⟩

set_option maxRecDepth 100000 in
set_option maxHeartbeats 1000000 in
theorem asTexts_nil (r : Value) (n c : Nat) (w : World) :
    Calls Tryd.prog 81 #[r, .slice none n c] w fun e w' => e = .returned (.bool true) ∧ w' = w := by
  have en := eqn_txt n c
  go_enter Tryd.func81, Tryd.ntmps81
  go_wp2
  go_ret
  exact ⟨rfl, rfl⟩
set_option maxRecDepth 100000 in
set_option maxHeartbeats 1000000 in
theorem asTexts_any (l : List (List UInt8)) (x : Addr) (c B g cap : Nat) (hll : l.length ≤ 1000000000) (w : World) (hs : SlcV w (.slice (some x) l.length c) (svs l)) (hx : l ≠ [] → x.block ≠ g) (hL : Lent w B g cap (svs l ++ [Value.string ⟨#[126]⟩, Value.string ⟨#[126]⟩, Value.string ⟨#[126]⟩, Value.string ⟨#[126]⟩])) :
    Calls Tryd.prog 81 #[.slice (some ⟨g, 0, none⟩) l.length cap, .slice (some x) l.length c] w fun e w' => e = .returned (.bool true) ∧ Lent w' B g cap (List.replicate (l.length + 4) (Value.string ⟨#[111, 118, 101, 114]⟩)) ∧ But g w w' := by
  have nn := nen_txt x l.length c
  obtain ⟨cells, hcells⟩ : ∃ cells, Hid (svs l ++ [Value.string ⟨#[126]⟩, Value.string ⟨#[126]⟩, Value.string ⟨#[126]⟩, Value.string ⟨#[126]⟩] = cells) := ⟨_, rfl⟩
  have hcl : cells.length = l.length + 4 := by rw [← hcells.out, List.length_append]; simp [svs]
  have hcap := hL.2
  rw [hcells.out] at hL
  rw [hcells.out, hcl] at hcap
  have hcap' : (l.length : Int) + 4 ≤ (cap : Int) := by omega
  have HL := hid hL
  have HS := hid hs
  clear hs hL
  go_enter Tryd.func81, Tryd.ntmps81
  go_wp2
  go_loopw [6] (fun i w' => ∃ k : Nat, k ≤ l.length + 4 ∧ i = .int .i64 k ∧ Hid (Lent w' B g cap (List.replicate k (Value.string ⟨#[111, 118, 101, 114]⟩) ++ cells.drop k)) ∧ Hid (But g w w')) (fun i _ => l.length + 4 - (intOf i).toNat)
  case atStart => exact ⟨0, by omega, rfl, hid (by rw [List.drop_zero, List.replicate_zero, List.nil_append]; exact HL.out), hid (But.refl _ _)⟩
  case round =>
    obtain ⟨k, hk, rfl, hLk, hb⟩ := hrel
    by_cases hlt : k < l.length + 4
    · have hkc : k < cells.length := by omega
      have b0 : (k : Int) < (l.length : Int) + 4 := by omega
      obtain ⟨c1, f1⟩ := hLk.out.cell (over_get cells k (Value.string ⟨#[111, 118, 101, 114]⟩) hkc)
      have L2 := hid (hLk.out.set k (Value.string ⟨#[111, 118, 101, 114]⟩) (by rw [over_len _ _ _ (by omega)]; exact hkc))
      rw [over_set _ _ _ hkc] at L2
      have B2 := hid (hb.out.setCell k (Value.string ⟨#[111, 118, 101, 114]⟩))
      by_cases hkl : k < l.length
      · have b1 : (k : Int) < (l.length : Int) := by omega
        have hget : cells[k] = sv l[k] := by
          have : cells[k]? = some (sv l[k]) := by
            rw [← hcells.out, List.getElem?_append_left (by simp [svs]; exact hkl), svs, List.getElem?_map, List.getElem?_eq_getElem hkl]; rfl
          rw [List.getElem?_eq_getElem hkc] at this
          exact Option.some.inj this
        obtain ⟨a', cap', hu, hcs⟩ := HS.out.but hb.out (hx (fun e => by rw [e] at hkl; simp at hkl))
        injection hu with u1 u2 u3
        obtain ⟨y, hy, hyb, hc⟩ := hcs k (sv l[k]) (by rw [svs, List.getElem?_map, List.getElem?_eq_getElem hkl]; rfl)
        rw [← u1] at hy
        cases hy
        clear u1 u2 u3
        rw [hget] at c1
        obtain ⟨q, hq⟩ : ∃ q, Hid (sv l[k] = .string q) := ⟨⟨l[k].toArray⟩, hid rfl⟩
        rw [hq.out] at hc c1
        have y1 : (q.toList == q.toList) = true := by simp
        have y2 : (q.toList != q.toList) = false := by simp
        clear hcs hget
        go_wp2
        exact ⟨⟨k + 1, by omega, by go_num, L2, B2⟩, by simp [intOf]; omega⟩
      · have b1 : ¬ (k : Int) < (l.length : Int) := by omega
        have hget : cells[k] = Value.string ⟨#[126]⟩ := by
          have : cells[k]? = some (Value.string ⟨#[126]⟩) := by
            rw [← hcells.out, List.getElem?_append_right (by simp [svs]; omega)]
            have hj : k - (svs l).length < 4 := by simp [svs]; omega
            generalize k - (svs l).length = j at hj
            match j, hj with
            | 0, _ => rfl
            | 1, _ => rfl
            | 2, _ => rfl
            | 3, _ => rfl
          rw [List.getElem?_eq_getElem hkc] at this
          exact Option.some.inj this
        rw [hget] at c1
        clear hget
        go_wp2
        exact ⟨⟨k + 1, by omega, by go_num, L2, B2⟩, by simp [intOf]; omega⟩
    · obtain rfl : k = l.length + 4 := by omega
      have L3 := hLk.out
      rw [List.drop_of_length_le (by omega), List.append_nil] at L3
      have H3 := hid L3
      clear L3
      have b0 : ¬ ((l.length + 4 : Nat) : Int) < (l.length : Int) + 4 := by omega
      go_wp2
      go_ret
      exact ⟨rfl, H3.out, hb.out⟩
end Go.Proofs.YtipcpdoejkoadaaDoor
