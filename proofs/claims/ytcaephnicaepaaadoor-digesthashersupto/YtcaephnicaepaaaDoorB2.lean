import Derived.Test.YtcaephnicaepaaaDoorB1
namespace Go.Proofs.YtcaephnicaepaaaDoor
open Go.RowKit

theorem hex_at {s x : ByteArray} (h : Hid (Tx.hex s.data.toList = x.data.toList)) (hs : s.size ≤ 70368744177664) (w : World) :
    Calls Tryd.prog 10 #[.string s] w fun e w' => e = .returned (.string x) ∧ Below w.heap.size w w' := by
  have := hex_any s hs w
  rwa [h.out, ← sv_eta] at this
theorem b64_at {s x : ByteArray} (h : Hid (Tx.b64 s.data.toList = x.data.toList)) (hs : s.size ≤ 70368744177664) (w : World) :
    Calls Tryd.prog 11 #[.string s] w fun e w' => e = .returned (.string x) ∧ Below w.heap.size w w' := by
  have := base64_any s hs w
  rwa [h.out, ← sv_eta] at this
theorem fromHex_ok {s r : ByteArray} (h : Hid (Tx.unhex s.data.toList = some r.data.toList)) (hs : s.size ≤ 140737488355328) (w : World) :
    Calls Tryd.prog 12 #[.string s] w fun e w' => e = .returned (.tuple #[.string r, .int .i64 0]) ∧ Below w.heap.size w w' := by
  have := fromHex_any s hs w
  rwa [Tx.fromHex, h.out, ← sv_eta] at this
theorem fromHex_bad {s : ByteArray} (h : Hid (Tx.unhex s.data.toList = none)) (hs : s.size ≤ 140737488355328) (w : World) :
    Calls Tryd.prog 12 #[.string s] w fun e w' => e = .returned (.tuple #[.string { data := #[] }, .int .i64 10]) ∧ Below w.heap.size w w' := by
  have := fromHex_any s hs w
  rwa [Tx.fromHex, h.out] at this
theorem fromB64_ok {s r : ByteArray} (h : Hid (Tx.unb64 s.data.toList = some r.data.toList)) (hs : s.size ≤ 140737488355328) (w : World) :
    Calls Tryd.prog 13 #[.string s] w fun e w' => e = .returned (.tuple #[.string r, .int .i64 0]) ∧ Below w.heap.size w w' := by
  have := fromBase64_any s hs w
  rwa [Tx.fromB64, h.out, ← sv_eta] at this
theorem fromB64_bad {s : ByteArray} (h : Hid (Tx.unb64 s.data.toList = none)) (hs : s.size ≤ 140737488355328) (w : World) :
    Calls Tryd.prog 13 #[.string s] w fun e w' => e = .returned (.tuple #[.string { data := #[] }, .int .i64 11]) ∧ Below w.heap.size w w' := by
  have := fromBase64_any s hs w
  rwa [Tx.fromB64, h.out] at this
theorem ba_exists (l : List UInt8) : ∃ x : ByteArray, l = x.data.toList := ⟨⟨l.toArray⟩, (sv_data l).symm⟩
/-- four texts in a row -/
def Four (w : World) (G : Nat) (Z : List ByteArray) : Prop := Z.length = 4 ∧ (∀ z ∈ Z, z.size ≤ 10000000) ∧ G < w.heap.size ∧ ∀ j z, Z[j]? = some z → w.cell? ⟨G, j, none⟩ = some (.string z)
theorem Four.below {w w' : World} {G B : Nat} {Z : List ByteArray} (h : Four w G Z) (hb : Below B w w') (hB : G < B) : Four w' G Z :=
  ⟨h.1, h.2.1, Nat.lt_of_lt_of_le h.2.2.1 hb.size, fun j z hz => (hb.cell (p := ⟨G, j, none⟩) hB).trans (h.2.2.2 j z hz)⟩
theorem four_mk (w : World) (a b c d : ByteArray) (ha : a.size ≤ 10000000) (hb : b.size ≤ 10000000) (hc : c.size ≤ 10000000) (hd : d.size ≤ 10000000) (t : TypeId) :
    Four (w.alloc (.cells #[.string a, .string b, .string c, .string d] t)) w.heap.size [a, b, c, d] := by
  refine ⟨rfl, fun z hz => ?_, by rw [size_alloc]; omega, fun j z hz => ?_⟩
  · simp only [List.mem_cons, List.not_mem_nil, or_false] at hz
    rcases hz with rfl | rfl | rfl | rfl <;> assumption
  · rw [cell_of_row _ _ _ _ _ _ (heap_alloc_new w _)]
    match j, hz with
    | 0, h => obtain rfl := Option.some.inj h; rfl
    | 1, h => obtain rfl := Option.some.inj h; rfl
    | 2, h => obtain rfl := Option.some.inj h; rfl
    | 3, h => obtain rfl := Option.some.inj h; rfl

theorem hexCase (z : ByteArray) (hz : z.size ≤ 10000000) : ∃ (c : ByteArray) (g : Int) (p : ByteArray),
    Hid (∀ w, Calls Tryd.prog 12 #[.string z] w fun e w' => e = .returned (.tuple #[.string c, .int .i64 g]) ∧ Below w.heap.size w w') ∧
    Hid (∀ w, Calls Tryd.prog 10 #[.string c] w fun e w' => e = .returned (.string p) ∧ Below w.heap.size w w') ∧
    ((g = 0 ∧ p = z) ∨ (g = 10 ∧ c = { data := #[] } ∧ p = { data := #[] })) := by
  cases hu : Tx.unhex z.data.toList with
  | none => exact ⟨_, _, _, fun w => fromHex_bad (hid hu) (by omega) w, fun w => hex_at (x := { data := #[] }) (hid rfl) (by rw [emptySize]; omega) w, .inr ⟨rfl, rfl, rfl⟩⟩
  | some r =>
    obtain ⟨c, rfl⟩ := ba_exists r
    have hl := Tx.unhex_length _ _ hu
    rw [data_length, data_length] at hl
    exact ⟨c, 0, z, fun w => fromHex_ok (hid hu) (by omega) w, fun w => hex_at (hid (Tx.hex_unhex _ _ hu)) (by omega) w, .inl ⟨rfl, rfl⟩⟩
theorem b64Case (z : ByteArray) (hz : z.size ≤ 10000000) : ∃ (c : ByteArray) (g : Int) (p : ByteArray),
    Hid (∀ w, Calls Tryd.prog 13 #[.string z] w fun e w' => e = .returned (.tuple #[.string c, .int .i64 g]) ∧ Below w.heap.size w w') ∧
    Hid (∀ w, Calls Tryd.prog 11 #[.string c] w fun e w' => e = .returned (.string p) ∧ Below w.heap.size w w') ∧
    ((g = 0 ∧ p = z) ∨ (g = 11 ∧ c = { data := #[] } ∧ p = { data := #[] })) := by
  cases hu : Tx.unb64 z.data.toList with
  | none => exact ⟨_, _, _, fun w => fromB64_bad (hid hu) (by omega) w, fun w => b64_at (x := { data := #[] }) (hid rfl) (by rw [emptySize]; omega) w, .inr ⟨rfl, rfl, rfl⟩⟩
  | some r =>
    obtain ⟨c, rfl⟩ := ba_exists r
    have hl := Tx.unb64_length _ _ hu
    rw [data_length, data_length] at hl
    exact ⟨c, 0, z, fun w => fromB64_ok (hid hu) (by omega) w, fun w => b64_at (hid (Tx.b64_unb64 _ _ hu)) (by omega) w, .inl ⟨rfl, rfl⟩⟩

set_option maxRecDepth 100000 in
set_option maxHeartbeats 1000000 in
theorem back_any (s : ByteArray) (a b : Int) (more : ByteArray) (hs : s.size ≤ 1048576) (hm : more.size ≤ 1048576) (ha1 : -9223372036854775808 ≤ a) (ha2 : a ≤ 9223372036854775807) (w : World) (T : Tabs w) :
    Calls Tryd.prog 3 #[.string s, .int .i64 a, .int .i64 b, .string more] w fun e w' => e = .returned (.bool true) ∧ Below w.heap.size w w' := by
  obtain ⟨x, hx⟩ := ba_exists (Tx.hex s.data.toList)
  obtain ⟨y, hy⟩ := ba_exists (Tx.b64 s.data.toList)
  have Hx := hid hx
  have Hy := hid hy
  have Ux : Hid (Tx.unhex x.data.toList = some s.data.toList) := by rw [← hx]; exact Tx.unhex_hex _
  have Uy : Hid (Tx.unb64 y.data.toList = some s.data.toList) := by rw [← hy]; exact Tx.unb64_b64 _
  have lx : x.size = 2 * s.size := by rw [← data_length, ← hx, Tx.hex_length, data_length]
  have ly : y.size = (s.size + 2) / 3 * 4 := by rw [← data_length, ← hy, Tx.b64_length, data_length]
  clear hx hy
  have ys : (s.toList == s.toList) = true := by simp
  have lx' : (x.size : Int) = 2 * (s.size : Int) := by omega
  have ly' : (y.size : Int) = ((s.size : Int) + 2) / 3 * 4 := by omega
  go_enter Tryd.func3, Tryd.ntmps3
  go_wp2_with (go_at_call 9; fail)
  refine (known_any _ T).mono ?_
  rintro e w1 ⟨rfl, B1⟩
  go_wp2_with (go_at_call 10; fail)
  refine (hex_at Hx (by omega) _).mono ?_
  rintro e w2 ⟨rfl, hw2⟩
  have B2 := B1.trans (hw2.mono B1.size)
  go_wp2_with (go_at_call 11; fail)
  refine (b64_at Hy (by omega) _).mono ?_
  rintro e w3 ⟨rfl, hw3⟩
  have B3 := B2.trans (hw3.mono B2.size)
  go_wp2_with (go_at_call 12; fail)
  refine (fromHex_ok Ux (by omega) _).mono ?_
  rintro e w4 ⟨rfl, hw4⟩
  have B4 := B3.trans (hw4.mono B3.size)
  go_wp2_with (go_at_call 13; fail)
  refine (fromB64_ok Uy (by omega) _).mono ?_
  rintro e w5 ⟨rfl, hw5⟩
  have B5 := hid (B4.trans (hw5.mono B4.size))
  clear hw2 hw3 hw4 hw5 B1 B2 B3 B4
  go_wp2_with (go_at_call 14; fail)
  have bx : x.size ≤ 2097152 := by omega
  have bY : y.size ≤ 2097152 := by omega
  clear lx ly lx' ly' Hx Hy Ux Uy ys
  refine (spoilt_any x a b (by omega) ha1 ha2 _).mono ?_
  rintro e w6 ⟨z0, rfl, lz0, hw6⟩
  have B6 := B5.out.trans (hw6.mono B5.out.size)
  clear hw6 B5
  obtain ⟨r, hr⟩ : ∃ r : Nat, Hid (pk a ((x.size : Int) + 1) = (r : Int)) := ⟨(pk a ((x.size : Int) + 1)).toNat, by have := pk_nonneg a ((x.size : Int) + 1) (by omega); unfold Hid; omega⟩
  have hr2 : (r : Int) < (x.size : Int) + 1 := by rw [← hr.out]; exact pk_lt _ _ (by omega)
  have hr3 : (r : Int) ≤ (x.size : Int) := by omega
  obtain ⟨z1, hz1⟩ : ∃ z, x.extract 0 r = z := ⟨_, rfl⟩
  have lz1 : z1.size = r := by rw [← hz1, mid_size' _ _ _ (by omega)]; omega
  obtain ⟨z2, hz2⟩ : ∃ z, x ++ more = z := ⟨_, rfl⟩
  have lz2 : z2.size = x.size + more.size := by rw [← hz2, app_size]
  obtain ⟨z3, hz3⟩ : ∃ z, more ++ x = z := ⟨_, rfl⟩
  have lz3 : z3.size = more.size + x.size := by rw [← hz3, app_size]
  have lm1 : (x.size : Int) + (more.size : Int) ≤ 9223372036854775807 := by omega
  have lm2 : (more.size : Int) + (x.size : Int) ≤ 9223372036854775807 := by omega
  have F6 := hid (four_mk w6 z0 z1 z2 z3 (by omega) (by omega) (by omega) (by omega) 9)
  have A6 := hid (B6.alloc B6.size (.cells #[.string z0, .string z1, .string z2, .string z3] 9))
  clear lz0 lz1 lz2 lz3
  go_wp2_with (go_at_call 15; fail)
  refine (pick_at hr ha1 ha2 (by omega) (by omega) _).mono ?_
  rintro e w' ⟨rfl, hw'⟩
  rw [hw']
  clear hw' w'
  go_wp2_with (go_at_call 14; fail)
  clear hz1 hz2 hz3 lm1 lm2 hr hr2 hr3
  have g6 : w.heap.size ≤ w6.heap.size := B6.size
  clear B6
  generalize [z0, z1, z2, z3] = Z at *
  generalize w6.alloc (.cells #[.string z0, .string z1, .string z2, .string z3] 9) = w7 at *
  generalize w6.heap.size = G at *
  refine (spoilt_any y a b (by omega) ha1 ha2 _).mono ?_
  rintro e w8 ⟨u0, rfl, lz0, hw8⟩
  have B8 := A6.out.trans (hw8.mono A6.out.size)
  have F8 := hid (F6.out.below hw8 F6.out.2.2.1)
  clear hw8 A6 F6
  obtain ⟨r, hr⟩ : ∃ r : Nat, Hid (pk a ((y.size : Int) + 1) = (r : Int)) := ⟨(pk a ((y.size : Int) + 1)).toNat, by have := pk_nonneg a ((y.size : Int) + 1) (by omega); unfold Hid; omega⟩
  have hr2 : (r : Int) < (y.size : Int) + 1 := by rw [← hr.out]; exact pk_lt _ _ (by omega)
  have hr3 : (r : Int) ≤ (y.size : Int) := by omega
  obtain ⟨u1, hz1⟩ : ∃ z, y.extract 0 r = z := ⟨_, rfl⟩
  have lz1 : u1.size = r := by rw [← hz1, mid_size' _ _ _ (by omega)]; omega
  obtain ⟨u2, hz2⟩ : ∃ z, y ++ more = z := ⟨_, rfl⟩
  have lz2 : u2.size = y.size + more.size := by rw [← hz2, app_size]
  obtain ⟨u3, hz3⟩ : ∃ z, more ++ y = z := ⟨_, rfl⟩
  have lz3 : u3.size = more.size + y.size := by rw [← hz3, app_size]
  have lm1 : (y.size : Int) + (more.size : Int) ≤ 9223372036854775807 := by omega
  have lm2 : (more.size : Int) + (y.size : Int) ≤ 9223372036854775807 := by omega
  have F9 := hid (four_mk w8 u0 u1 u2 u3 (by omega) (by omega) (by omega) (by omega) 9)
  have A9 := hid (B8.alloc B8.size (.cells #[.string u0, .string u1, .string u2, .string u3] 9))
  have G9 := hid (F8.out.below ((Below.refl w8.heap.size w8).alloc (Nat.le_refl _) (.cells #[.string u0, .string u1, .string u2, .string u3] 9)) F8.out.2.2.1)
  clear lz0 lz1 lz2 lz3
  go_wp2_with (go_at_call 15; fail)
  refine (pick_at hr ha1 ha2 (by omega) (by omega) _).mono ?_
  rintro e w' ⟨rfl, hw'⟩
  rw [hw']
  clear hw' w'
  go_wp2
  clear hz1 hz2 hz3 lm1 lm2 hr hr2 hr3 F8
  have g8 : w.heap.size ≤ w8.heap.size := B8.size
  clear B8
  generalize [u0, u1, u2, u3] = Y at *
  generalize w8.alloc (.cells #[.string u0, .string u1, .string u2, .string u3] 9) = w9 at *
  generalize w8.heap.size = J at *
  go_loopw [18, 19, 20, 21, 22, 23, 24] (fun i _ _ _ _ _ _ w' => ∃ k : Nat, k ≤ 4 ∧ i = .int .i64 k ∧ Hid (Four w' G Z) ∧ Hid (Four w' J Y) ∧ Hid (Below w.heap.size w w')) (fun i _ _ _ _ _ _ _ => 4 - (intOf i).toNat)
  case atStart => exact ⟨0, by omega, rfl, G9, F9, A9⟩
  case round =>
    clear G9 F9 A9
    obtain ⟨k, hk, rfl, FZ, FY, hB⟩ := hrel
    by_cases hlt : k < 4
    · have hlt' : (k : Int) < 4 := by omega
      have e1 := List.getElem?_eq_getElem (show k < Z.length by rw [FZ.out.1]; exact hlt)
      have e2 := List.getElem?_eq_getElem (show k < Y.length by rw [FY.out.1]; exact hlt)
      obtain ⟨z, hz⟩ : ∃ z, Z[k]? = some z := ⟨_, e1⟩
      obtain ⟨y', hy'⟩ : ∃ z, Y[k]? = some z := ⟨_, e2⟩
      have sz := FZ.out.2.1 z (List.mem_of_getElem? hz)
      have sy := FY.out.2.1 y' (List.mem_of_getElem? hy')
      have cz := FZ.out.2.2.2 k z hz
      clear e1 e2
      have Hz := hid hz
      have Hy' := hid hy'
      clear hy' hz
      obtain ⟨c, g, p, hFH, hHX, hor⟩ := hexCase z sz
      obtain ⟨d, h, q, hFB, hBX, hor2⟩ := b64Case y' sy
      have yz : (z.toList == z.toList) = true := by simp
      have yy : (y'.toList == y'.toList) = true := by simp
      rcases hor with ⟨rfl, rfl⟩ | ⟨rfl, rfl, rfl⟩ <;> rcases hor2 with ⟨rfl, rfl⟩ | ⟨rfl, rfl, rfl⟩
      all_goals
        go_wp2_with (go_at_call 12; fail)
        refine (hFH.out _).mono ?_
        rintro e wa ⟨rfl, hwa⟩
        have FZa := hid (FZ.out.below hwa FZ.out.2.2.1)
        have FYa := hid (FY.out.below hwa FY.out.2.2.1)
        have Ba := hid (hB.out.trans (hwa.mono hB.out.size))
        have cya := FYa.out.2.2.2 k _ Hy'.out
        clear hwa cz
        go_wp2_with (go_at_call 13; fail)
        refine (hFB.out _).mono ?_
        rintro e wb ⟨rfl, hwb⟩
        have FZb := hid (FZa.out.below hwb FZa.out.2.2.1)
        have FYb := hid (FYa.out.below hwb FYa.out.2.2.1)
        have Bb := hid (Ba.out.trans (hwb.mono Ba.out.size))
        clear hwb cya
        go_wp2_with (go_at_call 10; fail)
        refine (hHX.out _).mono ?_
        rintro e wc ⟨rfl, hwc⟩
        have FZc := hid (FZb.out.below hwc FZb.out.2.2.1)
        have FYc := hid (FYb.out.below hwc FYb.out.2.2.1)
        have Bc := hid (Bb.out.trans (hwc.mono Bb.out.size))
        clear hwc
        go_wp2_with (go_at_call 11; fail)
        refine (hBX.out _).mono ?_
        rintro e wd ⟨rfl, hwd⟩
        have FZd := hid (FZc.out.below hwd FZc.out.2.2.1)
        have FYd := hid (FYc.out.below hwd FYc.out.2.2.1)
        have Bd := hid (Bc.out.trans (hwd.mono Bc.out.size))
        have czd := FZd.out.2.2.2 k _ Hz.out
        have cyd := FYd.out.2.2.2 k _ Hy'.out
        clear hwd
        go_wp2
        exact ⟨⟨k + 1, by omega, by go_num, FZd, FYd, Bd⟩, by simp [intOf]; omega⟩
    · obtain rfl : k = 4 := by omega
      go_wp2
      go_ret
      exact ⟨rfl, hB.out⟩
end Go.Proofs.YtcaephnicaepaaaDoor
