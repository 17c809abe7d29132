import Derived.Test.YtcaephnicaepaaaDoorX7
namespace Go.Proofs.YtcaephnicaepaaaDoor
open Go.RowKit

theorem sha_abc : Sha.sha [97, 98, 99] = [186, 120, 22, 191, 143, 1, 207, 234, 65, 65, 64, 222, 93, 174, 34, 35, 176, 3, 97, 163, 150, 23, 122, 156, 180, 16, 255, 97, 242, 0, 21, 173] := by decide +kernel
theorem sha_nil : Sha.sha [] = [227, 176, 196, 66, 152, 252, 28, 20, 154, 251, 244, 200, 153, 111, 185, 36, 39, 174, 65, 228, 100, 155, 147, 76, 164, 149, 153, 27, 120, 82, 184, 85] := by decide +kernel
def hexNil : List UInt8 := [101, 51, 98, 48, 99, 52, 52, 50, 57, 56, 102, 99, 49, 99, 49, 52, 57, 97, 102, 98, 102, 52, 99, 56, 57, 57, 54, 102, 98, 57, 50, 52, 50, 55, 97, 101, 52, 49, 101, 52, 54, 52, 57, 98, 57, 51, 52, 99, 97, 52, 57, 53, 57, 57, 49, 98, 55, 56, 53, 50, 98, 56, 53, 53]
def hexAbc : List UInt8 := [98, 97, 55, 56, 49, 54, 98, 102, 56, 102, 48, 49, 99, 102, 101, 97, 52, 49, 52, 49, 52, 48, 100, 101, 53, 100, 97, 101, 50, 50, 50, 51, 98, 48, 48, 51, 54, 49, 97, 51, 57, 54, 49, 55, 55, 97, 57, 99, 98, 52, 49, 48, 102, 102, 54, 49, 102, 50, 48, 48, 49, 53, 97, 100]
theorem hex_nil : Tx.hex (Sha.sha []) = hexNil := by rw [sha_nil]; decide +kernel
theorem hex_abc : Tx.hex (Sha.sha [97, 98, 99]) = hexAbc := by rw [sha_abc]; decide +kernel

theorem hex_sv (l : List UInt8) (hl : l.length ≤ 70368744177664) (w : World) :
    Calls Tryd.prog 10 #[sv l] w fun e w' => e = .returned (sv (Tx.hex l)) ∧ Below w.heap.size w w' :=
  hex_any ⟨l.toArray⟩ (by rw [sv_size]; exact hl) w
theorem lenNil : (Sha.sha []).length ≤ 70368744177664 := by rw [Sha.sha_length]; omega
theorem lenAbc : (Sha.sha [97, 98, 99]).length ≤ 70368744177664 := by rw [Sha.sha_length]; omega
theorem fh1 : Tx.fromHex [48, 48, 102, 102] = ([0, 255], 0) := by decide +kernel
theorem fh2 : Tx.fromHex [48, 70] = ([], 10) := by decide +kernel
theorem fb1 : Tx.fromB64 [89, 81, 61, 61] = ([97], 0) := by decide +kernel
theorem fb2 : Tx.fromB64 [89, 82, 61, 61] = ([], 11) := by decide +kernel
theorem b1 : Tx.b64 [97, 98, 99] = [89, 87, 74, 106] := by decide +kernel
theorem hexNil_at (w : World) : Calls Tryd.prog 10 #[sv (Sha.sha [])] w fun e w' => e = .returned (sv hexNil) ∧ Below w.heap.size w w' := by
  have := hex_sv (Sha.sha []) lenNil w
  rwa [hex_nil] at this
theorem hexAbc_at (w : World) : Calls Tryd.prog 10 #[sv (Sha.sha [97, 98, 99])] w fun e w' => e = .returned (sv hexAbc) ∧ Below w.heap.size w w' := by
  have := hex_sv (Sha.sha [97, 98, 99]) lenAbc w
  rwa [hex_abc] at this
theorem fromHex_1 (w : World) : Calls Tryd.prog 12 #[.string ⟨#[48, 48, 102, 102]⟩] w fun e w' => e = .returned (.tuple #[.string ⟨#[0, 255]⟩, .int .i64 0]) ∧ Below w.heap.size w w' := by
  have := fromHex_any ⟨#[48, 48, 102, 102]⟩ (by decide) w
  rwa [show (ByteArray.mk #[48, 48, 102, 102]).data.toList = [48, 48, 102, 102] from rfl, fh1] at this
theorem fromHex_2 (w : World) : Calls Tryd.prog 12 #[.string ⟨#[48, 70]⟩] w fun e w' => e = .returned (.tuple #[.string ⟨#[]⟩, .int .i64 10]) ∧ Below w.heap.size w w' := by
  have := fromHex_any ⟨#[48, 70]⟩ (by decide) w
  rwa [show (ByteArray.mk #[48, 70]).data.toList = [48, 70] from rfl, fh2] at this
theorem fromB64_1 (w : World) : Calls Tryd.prog 13 #[.string ⟨#[89, 81, 61, 61]⟩] w fun e w' => e = .returned (.tuple #[.string ⟨#[97]⟩, .int .i64 0]) ∧ Below w.heap.size w w' := by
  have := fromBase64_any ⟨#[89, 81, 61, 61]⟩ (by decide) w
  rwa [show (ByteArray.mk #[89, 81, 61, 61]).data.toList = [89, 81, 61, 61] from rfl, fb1] at this
theorem fromB64_2 (w : World) : Calls Tryd.prog 13 #[.string ⟨#[89, 82, 61, 61]⟩] w fun e w' => e = .returned (.tuple #[.string ⟨#[]⟩, .int .i64 11]) ∧ Below w.heap.size w w' := by
  have := fromBase64_any ⟨#[89, 82, 61, 61]⟩ (by decide) w
  rwa [show (ByteArray.mk #[89, 82, 61, 61]).data.toList = [89, 82, 61, 61] from rfl, fb2] at this
theorem base64_1 (w : World) : Calls Tryd.prog 11 #[.string ⟨#[97, 98, 99]⟩] w fun e w' => e = .returned (.string ⟨#[89, 87, 74, 106]⟩) ∧ Below w.heap.size w w' := by
  have := base64_any ⟨#[97, 98, 99]⟩ (by decide) w
  rwa [show (ByteArray.mk #[97, 98, 99]).data.toList = [97, 98, 99] from rfl, b1] at this

set_option maxRecDepth 100000 in
set_option maxHeartbeats 1000000 in
theorem known_any (w : World) (T : Tabs w) :
    Calls Tryd.prog 9 #[] w fun e w' => e = .returned (.bool true) ∧ Below w.heap.size w w' := by
  have hT := T.lt
  go_enter Tryd.func9, Tryd.ntmps9
  go_wp2_with (go_at_call 16; refine (new_any _).mono ?_; rintro e w1 ⟨rfl, _, hw1⟩)
  have T1 := T.below hw1 hT
  have s1 := hw1.size
  refine (sum_none _ T1).mono ?_
  rintro e w2 ⟨rfl, hw2⟩
  have T2 := T1.below hw2 T1.lt
  have s2 := hw2.size
  go_wp2_with (go_at_call 17; fail)
  refine (sum_any w2.heap.size 0 2 [[97], [98, 99]] (by simp [total]) (by simp [maxLen]) _ (T2.below ((Below.refl _ _).alloc (Nat.le_refl _) _) T2.lt) (by rw [size_alloc]; omega) (texts2 w2 [97] [98, 99] _)).mono ?_
  rintro e w3 ⟨rfl, hw3⟩
  rw [show ([[97], [98, 99]] : List (List UInt8)).flatten = [97, 98, 99] from rfl]
  replace hw3 : Below w2.heap.size w2 w3 := ((Below.refl _ _).alloc (Nat.le_refl _) _).trans (hw3.mono (by rw [size_alloc]; omega))
  have s3 := hw3.size
  go_wp2_with (go_at_call 10; fail)
  refine (hexNil_at _).mono ?_
  rintro e w4 ⟨rfl, hw4⟩
  have s4 := hw4.size
  go_wp2_with (go_at_call 10; fail)
  refine (hexAbc_at _).mono ?_
  rintro e w5 ⟨rfl, hw5⟩
  have s5 := hw5.size
  go_wp2_with (go_at_call 26; fail)
  refine (node_bad1 ⟨#[]⟩ ⟨#[]⟩ (by decide) _).mono ?_
  rintro e w5' ⟨rfl, rfl⟩
  go_wp2_with (go_at_call 12; fail)
  refine (fromHex_1 _).mono ?_
  rintro e w6 ⟨rfl, hw6⟩
  have s6 := hw6.size
  go_wp2_with (go_at_call 12; fail)
  refine (fromHex_2 _).mono ?_
  rintro e w7 ⟨rfl, hw7⟩
  have s7 := hw7.size
  go_wp2_with (go_at_call 13; fail)
  refine (fromB64_1 _).mono ?_
  rintro e w8 ⟨rfl, hw8⟩
  have s8 := hw8.size
  go_wp2_with (go_at_call 13; fail)
  refine (fromB64_2 _).mono ?_
  rintro e w9 ⟨rfl, hw9⟩
  have s9 := hw9.size
  rw [show sv hexNil = .string ⟨#[101, 51, 98, 48, 99, 52, 52, 50, 57, 56, 102, 99, 49, 99, 49, 52, 57, 97, 102, 98, 102, 52, 99, 56, 57, 57, 54, 102, 98, 57, 50, 52, 50, 55, 97, 101, 52, 49, 101, 52, 54, 52, 57, 98, 57, 51, 52, 99, 97, 52, 57, 53, 57, 57, 49, 98, 55, 56, 53, 50, 98, 56, 53, 53]⟩ from rfl,
    show sv hexAbc = .string ⟨#[98, 97, 55, 56, 49, 54, 98, 102, 56, 102, 48, 49, 99, 102, 101, 97, 52, 49, 52, 49, 52, 48, 100, 101, 53, 100, 97, 101, 50, 50, 50, 51, 98, 48, 48, 51, 54, 49, 97, 51, 57, 54, 49, 55, 55, 97, 57, 99, 98, 52, 49, 48, 102, 102, 54, 49, 102, 50, 48, 48, 49, 53, 97, 100]⟩ from rfl]
  go_wp2_with (go_at_call 11; refine (base64_1 _).mono ?_; rintro e w10 ⟨rfl, hw10⟩)
  go_ret
  refine ⟨rfl, ?_⟩
  exact ((((((((hw1.trans (hw2.mono (by omega))).trans (hw3.mono (by omega))).trans (hw4.mono (by omega))).trans (hw5.mono (by omega))).trans (hw6.mono (by omega))).trans (hw7.mono (by omega))).trans (hw8.mono (by omega))).trans (hw9.mono (by omega))).trans (hw10.mono (by omega))
end Go.Proofs.YtcaephnicaepaaaDoor
