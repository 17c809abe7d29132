import Derived.Test.YtcaephnicaepaaaDoorT1
import Derived.Test.YtcaephnicaepaaaDoorT5
namespace Go.Proofs.YtcaephnicaepaaaDoor
open Go.RowKit

theorem rhex_at {s x : ByteArray} (h : Hid (Tx.hex s.data.toList = x.data.toList)) (hs : s.size ≤ 70368744177664) (w : World) :
    Calls Tryd.prog 24 #[.string s] w fun e w' => e = .returned (.string x) ∧ Below w.heap.size w w' := by
  have := rhex_any s hs w
  rwa [h.out, ← sv_eta] at this
theorem fromHex_at {s r : ByteArray} {c : Int} (h : Hid (Tx.fromHex s.data.toList = (r.data.toList, c))) (hs : s.size ≤ 70368744177664) (w : World) :
    Calls Tryd.prog 12 #[.string s] w fun e w' => e = .returned (.tuple #[.string r, .int .i64 c]) ∧ Below w.heap.size w w' := by
  have := fromHex_any s (by omega) w
  rw [h.out] at this
  rwa [← sv_eta] at this
theorem rfromHex_at {s r : ByteArray} {c : Int} (h : Hid (Tx.fromHex s.data.toList = (r.data.toList, c))) (hs : s.size ≤ 70368744177664) (w : World) :
    Calls Tryd.prog 22 #[.string s] w fun e w' => e = .returned (.tuple #[.string r, .int .i64 c]) ∧ Below w.heap.size w w' := by
  have := rfromHex_any s (by omega) w
  rw [h.out] at this
  rwa [← sv_eta] at this
theorem fromB64_at {s r : ByteArray} {c : Int} (h : Hid (Tx.fromB64 s.data.toList = (r.data.toList, c))) (hs : s.size ≤ 70368744177664) (w : World) :
    Calls Tryd.prog 13 #[.string s] w fun e w' => e = .returned (.tuple #[.string r, .int .i64 c]) ∧ Below w.heap.size w w' := by
  have := fromBase64_any s (by omega) w
  rw [h.out] at this
  rwa [← sv_eta] at this
theorem rfromB64_at {s r : ByteArray} {c : Int} (h : Hid (Tx.fromB64 s.data.toList = (r.data.toList, c))) (hs : s.size ≤ 70368744177664) (w : World) :
    Calls Tryd.prog 23 #[.string s] w fun e w' => e = .returned (.tuple #[.string r, .int .i64 c]) ∧ Below w.heap.size w w' := by
  have := rfromBase64_any s hs w
  rw [h.out] at this
  rwa [← sv_eta] at this
theorem pair_exists (p : List UInt8 × Int) : ∃ (x : ByteArray) (c : Int), p = (x.data.toList, c) := by
  obtain ⟨l, c⟩ := p
  obtain ⟨x, rfl⟩ := ba_exists l
  exact ⟨x, c, rfl⟩

set_option maxRecDepth 100000 in
set_option maxHeartbeats 1000000 in
theorem texts_any (s t : ByteArray) (hs : s.size ≤ 1048576) (ht : t.size ≤ 1048576) (w : World) (T : Tabs w) :
    Calls Tryd.prog 5 #[.string s, .string t] w fun e w' => e = .returned (.bool true) ∧ Below w.heap.size w w' := by
  obtain ⟨x, hx⟩ := ba_exists (Tx.hex s.data.toList)
  obtain ⟨y, hy⟩ := ba_exists (Tx.b64 s.data.toList)
  obtain ⟨a, c, ha⟩ := pair_exists (Tx.fromHex t.data.toList)
  obtain ⟨b, d, hb⟩ := pair_exists (Tx.fromB64 t.data.toList)
  have Hx := hid hx
  have Hy := hid hy
  have Ha := hid ha
  have Hb := hid hb
  clear hx hy ha hb
  have yx : (x.toList == x.toList) = true := by simp
  have yy : (y.toList == y.toList) = true := by simp
  have ya : (a.toList == a.toList) = true := by simp
  have yb : (b.toList == b.toList) = true := by simp
  have yc : (c == c) = true := by simp
  have yd : (d == d) = true := by simp
  go_enter Tryd.func5, Tryd.ntmps5
  go_wp2_with (go_at_call 9; fail)
  refine (known_any _ T).mono ?_
  rintro e w1 ⟨rfl, B1⟩
  go_wp2_with (go_at_call 12; fail)
  refine (fromHex_at Ha (by omega) _).mono ?_
  rintro e w2 ⟨rfl, hw2⟩
  have B2 := B1.trans (hw2.mono B1.size)
  go_wp2_with (go_at_call 22; fail)
  refine (rfromHex_at Ha (by omega) _).mono ?_
  rintro e w3 ⟨rfl, hw3⟩
  have B3 := B2.trans (hw3.mono B2.size)
  go_wp2_with (go_at_call 13; fail)
  refine (fromB64_at Hb (by omega) _).mono ?_
  rintro e w4 ⟨rfl, hw4⟩
  have B4 := B3.trans (hw4.mono B3.size)
  go_wp2_with (go_at_call 23; fail)
  refine (rfromB64_at Hb (by omega) _).mono ?_
  rintro e w5 ⟨rfl, hw5⟩
  have B5 := B4.trans (hw5.mono B4.size)
  clear hw2 hw3 hw4 hw5 B1 B2 B3 B4
  go_wp2_with (go_at_call 10; fail)
  refine (hex_at Hx (by omega) _).mono ?_
  rintro e w6 ⟨rfl, hw6⟩
  have B6 := B5.trans (hw6.mono B5.size)
  go_wp2_with (go_at_call 24; fail)
  refine (rhex_at Hx (by omega) _).mono ?_
  rintro e w7 ⟨rfl, hw7⟩
  have B7 := B6.trans (hw7.mono B6.size)
  go_wp2_with (go_at_call 11; fail)
  refine (b64_at Hy (by omega) _).mono ?_
  rintro e w8 ⟨rfl, hw8⟩
  have B8 := B7.trans (hw8.mono B7.size)
  go_wp2_with (go_at_call 25; fail)
  refine (rb64_at Hy (by omega) _).mono ?_
  rintro e w9 ⟨rfl, hw9⟩
  have B9 := B8.trans (hw9.mono B8.size)
  clear hw6 hw7 hw8 hw9 B5 B6 B7 B8
  go_wp2
  go_ret
  exact ⟨rfl, B9⟩
end Go.Proofs.YtcaephnicaepaaaDoor
