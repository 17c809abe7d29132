import Derived.Test.YtdbbemcddhgbcaaGreatDoorPpNB3
import Derived.Test.YtdbbemcddhgbcaaGreatDoorPpW7
import Derived.Test.YtdbbemcddhgbcaaGreatDoorPpX7
import Derived.Laws.OwnMore
/- Layer 22: Body and Print, in the program -/
namespace Go.Proofs.YtdbbemcddhgbcaaGreatDoor
open Go.RowKit Go.Shelf
namespace Nt
theorem nmB_size {O : ByteArray} (h : nmB O.data.toList = true) : 1 ≤ O.size ∧ O.size ≤ 32 := by
  unfold nmB at h
  simp at h
  omega
theorem bdB_parts {O R : ByteArray} {z : Int} (h : bdB O z R = true) : O.size ≤ 32 ∧ (0 ≤ z ∧ z ≤ 1099511627776) ∧ R.size = 32 := by
  unfold bdB at h
  rw [Bool.and_eq_true, Bool.and_eq_true, decide_eq_true_eq, decide_eq_true_eq] at h
  exact ⟨(nmB_size h.1.1).2, h.1.2, h.2⟩
theorem sgnB_parts {x : Sg} (h : sgnB x = true) : x.1.size ≤ 32 ∧ x.2.size ≤ 6000 := by
  unfold sgnB at h
  rw [Bool.and_eq_true, decide_eq_true_eq] at h
  exact ⟨(nmB_size h.1).2, h.2.2⟩
theorem allOk_at {S : List Sg} (h : allOk S = true) : ∀ x ∈ S, sgnB x = true := fun x hx => by
  obtain ⟨j, hj, e⟩ := List.mem_iff_getElem.1 hx
  unfold allOk at h
  rw [List.all_eq_true] at h
  have h1 := h j (List.mem_range.2 hj)
  rw [okJ_at (show S[j]? = some x by rw [List.getElem?_eq_getElem hj, e]), Bool.and_eq_true] at h1
  exact h1.1
theorem wrongN_zero {O R : ByteArray} {z : Int} {S : List Sg} (h : wrongN O z R S = 0) : bdB O z R = true ∧ S.length ≤ 16 ∧ ∀ x ∈ S, x.1.size ≤ 32 ∧ x.2.size ≤ 6000 := by
  unfold wrongN at h
  split at h
  · rename_i h1
    split at h
    · rename_i h2
      split at h
      · rename_i h3
        exact ⟨h1, h2, fun x hx => sgnB_parts (allOk_at h3 x hx)⟩
      · cases h
    · cases h
  · cases h
/-- what Body answers -/
def bodyA (O : ByteArray) (z : Int) (R : ByteArray) : ByteArray × Int := if bdB O z R = true then (bdT O z R, 0) else (⟨#[]⟩, 221)
/-- what Print answers -/
def prtA (O : ByteArray) (z : Int) (R : ByteArray) (S : List Sg) : ByteArray × Int := if wrongN O z R S = 0 then (ntT O z R S, 0) else (⟨#[]⟩, wrongN O z R S)
set_option maxRecDepth 100000 in
set_option maxHeartbeats 4000000 in
theorem body_any {E : Es} {w : World} (h : Nw w E) (O R : ByteArray) (z : Int) (v : Value) (T : ByteArray) (c : Int) (hT : bodyA O z R = (T, c)) : Calls Tryz.prog 14 #[nv O z R v] w fun q w' => q = .returned (.tuple #[.string T, .int .i64 c]) ∧ Below w.heap.size w w' := by
  have B0 := hid ((Below.refl w.heap.size w).alloc (Nat.le_refl _) (.cells #[.string O, .int .i64 z, .string R, v] 26))
  have S0 := hid (Bx.new w O z R v)
  obtain ⟨W, hW⟩ : ∃ W, w.alloc (.cells #[.string O, .int .i64 z, .string R, v] 26) = W := ⟨_, rfl⟩
  unfold Hid at B0 S0
  rw [hW] at B0 S0
  obtain ⟨g, hg⟩ : ∃ g, w.heap.size = g := ⟨_, rfl⟩
  rw [hg] at S0
  have H0 := hid (h.below B0)
  obtain ⟨B, hB⟩ : ∃ B, bdB O z R = B := ⟨_, rfl⟩
  have i1 := mayBody_any H0.out O R z v B hB
  have p0 := S0.c0
  have p1 := S0.c1
  have p2 := S0.c2
  have p3 := S0.c3
  have B0 := hid B0
  have S0 := hid S0
  have HG := hid hg
  have HW := hid hW
  clear hg hW h
  unfold bodyA at hT
  unfold nv at *
  go_enter Tryz.func14, Tryz.ntmps14
  go_upto_region 1 with fail
  rw [HW.out, HG.out]
  cases B with
  | false =>
    rw [hB, if_neg Bool.false_ne_true] at hT
    obtain ⟨rfl, rfl⟩ := Prod.mk.inj hT
    have i2 := fun w1 t (bb : Below W.heap.size W w1) => errnoOf_field (H0.out.below bb) t
    clear hT hB
    go_wp2_with (first
      | (go_at_call 31; (refine i1.mono ?_); rintro q w1 ⟨⟨e, rfl, he⟩, b1⟩; (rw [if_neg Bool.false_ne_true] at he); obtain ⟨t, rfl⟩ := he; have i3 := i2 w1 t b1; unfold FV EV at *)
      | (go_at_call 32; (refine i3.mono ?_); rintro q w2 ⟨rfl, b2⟩))
    go_ret2
    exact ⟨rfl, B0.out.trans ((b1.trans (b2.mono b1.size)).mono B0.out.size)⟩
  | true =>
    have pt := bdB_parts hB
    rw [hB, if_pos rfl] at hT
    obtain ⟨rfl, rfl⟩ := Prod.mk.inj hT
    have i2 := fun w1 (bb : Below W.heap.size W w1) => bodyOf_any (H0.out.below bb) O R z v (by omega) (by omega) (by omega) (by omega)
    unfold nv at *
    clear hT hB pt
    go_wp2_with (first
      | (go_at_call 31; (refine i1.mono ?_); rintro q w1 ⟨⟨e, rfl, he⟩, b1⟩; (rw [if_pos rfl] at he); subst he; have s1 := S0.out.below b1; have r0 := s1.c0; have r1 := s1.c1; have r2 := s1.c2; have r3 := s1.c3; clear s1)
      | (go_at_call 33; (refine (i2 w1 b1).mono ?_); rintro q w2 ⟨rfl, b2⟩))
    go_ret2
    exact ⟨rfl, B0.out.trans ((b1.trans (b2.mono b1.size)).mono B0.out.size)⟩
set_option maxRecDepth 100000 in
set_option maxHeartbeats 4000000 in
theorem print_any {E : Es} {w : World} (h : Nw w E) (O R : ByteArray) (z : Int) (S : List Sg) (n : Nat) (hn : Hid (S.length = n)) (hn2 : n ≤ 9223372036854775807) (a : Option Addr) (cp : Nat) (hA : AtS w a S) (T : ByteArray) (c : Int) (hT : prtA O z R S = (T, c)) : Calls Tryz.prog 15 #[nv O z R (.slice a n cp)] w fun q w' => q = .returned (.tuple #[.string T, .int .i64 c]) ∧ Below w.heap.size w w' := by
  have B0 := hid ((Below.refl w.heap.size w).alloc (Nat.le_refl _) (.cells #[.string O, .int .i64 z, .string R, .slice a n cp] 26))
  have S0 := hid (Bx.new w O z R (.slice a n cp))
  obtain ⟨W, hW⟩ : ∃ W, w.alloc (.cells #[.string O, .int .i64 z, .string R, .slice a n cp] 26) = W := ⟨_, rfl⟩
  unfold Hid at B0 S0
  rw [hW] at B0 S0
  obtain ⟨g, hg⟩ : ∃ g, w.heap.size = g := ⟨_, rfl⟩
  rw [hg] at S0
  have H0 := hid (h.below B0)
  have HA := hid (hA.below B0)
  obtain ⟨x, hx⟩ : ∃ x, wrongN O z R S = x := ⟨_, rfl⟩
  have i1 := mayNote_any H0.out O R z S n hn hn2 a cp HA.out x hx
  have p0 := S0.c0
  have p1 := S0.c1
  have p2 := S0.c2
  have p3 := S0.c3
  have B0 := hid B0
  have S0 := hid S0
  have HG := hid hg
  have HW := hid hW
  clear hg hW h hA
  unfold prtA at hT
  rw [hx] at hT
  have HX := hid hx
  have HT := hid hT
  have j1 := fun w1 t (bb : Below W.heap.size W w1) => errnoOf_field (H0.out.below bb) t
  have j2 := fun w1 t (bb : Below W.heap.size W w1) => errnoOf_many (H0.out.below bb) t
  clear hx hT
  unfold nv at *
  go_enter Tryz.func15, Tryz.ntmps15
  go_upto_region 1 with fail
  rw [HW.out, HG.out]
  go_wp2_with (go_at_call 34; fail)
  refine i1.mono ?_
  rintro q w1 ⟨he, b1⟩
  clear i1
  rcases he with ⟨rfl, rfl⟩ | ⟨rfl, t, rfl⟩ | ⟨rfl, t, rfl⟩
  · have hT := HT.out
    rw [if_pos rfl] at hT
    obtain ⟨rfl, rfl⟩ := Prod.mk.inj hT
    obtain ⟨q1, q2, q3⟩ := wrongN_zero HX.out
    have pt := bdB_parts q1
    have s1 := S0.out.below b1
    have r0 := s1.c0
    have r1 := s1.c1
    have r2 := s1.c2
    have r3 := s1.c3
    have i2 := textOf_any (H0.out.below b1) O R z S n hn (by rw [← hn.out]; exact q2) a cp (HA.out.below b1) (by omega) (by omega) (by omega) (by omega) (fun x hx => by have := q3 x hx; omega)
    unfold nv at i2
    clear hT q1 q2 q3 pt s1 HX HT j1 j2
    go_wp2_with (go_at_call 35; (refine i2.mono ?_); rintro q w2 ⟨rfl, b2⟩)
    go_ret2
    exact ⟨rfl, B0.out.trans ((b1.trans (b2.mono b1.size)).mono B0.out.size)⟩
  · have hT := HT.out
    rw [if_neg (by decide)] at hT
    obtain ⟨rfl, rfl⟩ := Prod.mk.inj hT
    have i3 := j1 w1 t b1
    clear hT HX HT j1 j2
    unfold FV EV at *
    go_wp2_with (go_at_call 32; (refine i3.mono ?_); rintro q w2 ⟨rfl, b2⟩)
    go_ret2
    exact ⟨rfl, B0.out.trans ((b1.trans (b2.mono b1.size)).mono B0.out.size)⟩
  · have hT := HT.out
    rw [if_neg (by decide)] at hT
    obtain ⟨rfl, rfl⟩ := Prod.mk.inj hT
    have i3 := j2 w1 t b1
    clear hT HX HT j1 j2
    unfold FV EV at *
    go_wp2_with (go_at_call 32; (refine i3.mono ?_); rintro q w2 ⟨rfl, b2⟩)
    go_ret2
    exact ⟨rfl, B0.out.trans ((b1.trans (b2.mono b1.size)).mono B0.out.size)⟩
end Nt
end Go.Proofs.YtdbbemcddhgbcaaGreatDoor

namespace Go.Proofs.YtdbbemcddhgbcaaGreatDoor
open Go.RowKit

set_option maxRecDepth 100000 in
set_option maxHeartbeats 400000 in
theorem leaf_any (s : ByteArray) (hl : s.size ≤ 2305843009213690000) (w : World) (T : Tabs w) :
    Calls Tryz.prog 109 #[.string s] w fun e w' => e = .returned (sv (Sha.sha (0 :: s.data.toList))) ∧ Below w.heap.size w w' := by
  have hT := T.lt
  go_enter Tryz.func109, Tryz.ntmps109
  go_wp2_with (go_at_call 131; go_must (refine (sum_any w.heap.size 0 2 [[0], s.data.toList] (by simp [total]; omega) (by simp [maxLen]) _ (T.below ((Below.refl _ _).alloc (Nat.le_refl _) _) hT) (by rw [size_alloc]; omega) (texts2 w [0] s.data.toList _)).mono ?_); rintro e w5 ⟨rfl, hw5⟩)
  go_ret
  refine ⟨by simp, ?_⟩
  exact ((Below.refl _ _).alloc (Nat.le_refl _) _).trans (hw5.mono (by rw [size_alloc]; omega))
end Go.Proofs.YtdbbemcddhgbcaaGreatDoor

namespace Go.Proofs.YtdbbemcddhgbcaaGreatDoor
open Go.RowKit

theorem sha_abc : Sha.sha [97, 98, 99] = [186, 120, 22, 191, 143, 1, 207, 234, 65, 65, 64, 222, 93, 174, 34, 35, 176, 3, 97, 163, 150, 23, 122, 156, 180, 16, 255, 97, 242, 0, 21, 173] := by decide +kernel
theorem sha_nil : Sha.sha [] = [227, 176, 196, 66, 152, 252, 28, 20, 154, 251, 244, 200, 153, 111, 185, 36, 39, 174, 65, 228, 100, 155, 147, 76, 164, 149, 153, 27, 120, 82, 184, 85] := by decide +kernel
def hexNil : List UInt8 := [101, 51, 98, 48, 99, 52, 52, 50, 57, 56, 102, 99, 49, 99, 49, 52, 57, 97, 102, 98, 102, 52, 99, 56, 57, 57, 54, 102, 98, 57, 50, 52, 50, 55, 97, 101, 52, 49, 101, 52, 54, 52, 57, 98, 57, 51, 52, 99, 97, 52, 57, 53, 57, 57, 49, 98, 55, 56, 53, 50, 98, 56, 53, 53]
def hexAbc : List UInt8 := [98, 97, 55, 56, 49, 54, 98, 102, 56, 102, 48, 49, 99, 102, 101, 97, 52, 49, 52, 49, 52, 48, 100, 101, 53, 100, 97, 101, 50, 50, 50, 51, 98, 48, 48, 51, 54, 49, 97, 51, 57, 54, 49, 55, 55, 97, 57, 99, 98, 52, 49, 48, 102, 102, 54, 49, 102, 50, 48, 48, 49, 53, 97, 100]
theorem hex_nil : Tx.hex (Sha.sha []) = hexNil := by rw [sha_nil]; decide +kernel
theorem hex_abc : Tx.hex (Sha.sha [97, 98, 99]) = hexAbc := by rw [sha_abc]; decide +kernel

theorem lenNil : (Sha.sha []).length ≤ 70368744177664 := by rw [Sha.sha_length]; omega
theorem lenAbc : (Sha.sha [97, 98, 99]).length ≤ 70368744177664 := by rw [Sha.sha_length]; omega
theorem fh1 : Tx.fromHex [48, 48, 102, 102] = ([0, 255], 0) := by decide +kernel
theorem fh2 : Tx.fromHex [48, 70] = ([], 10) := by decide +kernel
theorem fb1 : Tx.fromB64 [89, 81, 61, 61] = ([97], 0) := by decide +kernel
theorem fb2 : Tx.fromB64 [89, 82, 61, 61] = ([], 11) := by decide +kernel
theorem b1 : Tx.b64 [97, 98, 99] = [89, 87, 74, 106] := by decide +kernel
theorem fromB64_1 (w : World) : Calls Tryz.prog 81 #[.string ⟨#[89, 81, 61, 61]⟩] w fun e w' => e = .returned (.tuple #[.string ⟨#[97]⟩, .int .i64 0]) ∧ Below w.heap.size w w' := by
  have := fromBase64_any ⟨#[89, 81, 61, 61]⟩ (by decide) w
  rwa [show (ByteArray.mk #[89, 81, 61, 61]).data.toList = [89, 81, 61, 61] from rfl, fb1] at this
theorem fromB64_2 (w : World) : Calls Tryz.prog 81 #[.string ⟨#[89, 82, 61, 61]⟩] w fun e w' => e = .returned (.tuple #[.string ⟨#[]⟩, .int .i64 11]) ∧ Below w.heap.size w w' := by
  have := fromBase64_any ⟨#[89, 82, 61, 61]⟩ (by decide) w
  rwa [show (ByteArray.mk #[89, 82, 61, 61]).data.toList = [89, 82, 61, 61] from rfl, fb2] at this
theorem base64_1 (w : World) : Calls Tryz.prog 54 #[.string ⟨#[97, 98, 99]⟩] w fun e w' => e = .returned (.string ⟨#[89, 87, 74, 106]⟩) ∧ Below w.heap.size w w' := by
  have := base64_any ⟨#[97, 98, 99]⟩ (by decide) w
  rwa [show (ByteArray.mk #[97, 98, 99]).data.toList = [97, 98, 99] from rfl, b1] at this

end Go.Proofs.YtdbbemcddhgbcaaGreatDoor

namespace Go.Proofs.YtdbbemcddhgbcaaGreatDoor
open Go.RowKit

/-- make([]byte, c) -/
theorem make_zeros (w : World) (c : Nat) (hc : c ≤ 1000) :
    ∃ w', (Instr.makeSlice 43 (.int .i64 (c : Int)) (.int .i64 (c : Int))).run Tryz.prog w = .ok (.slice (some ⟨w.heap.size, 0, none⟩) c c) w' ∧
      (convert 43 9 (.slice (some ⟨w.heap.size, 0, none⟩) c c)).run Tryz.prog w' = .ok (sv (List.replicate c 0)) w' ∧ Below w.heap.size w w' := by
  obtain ⟨i0, hi, hz0, hz1, hz2⟩ := info_parts info5'
  have h := run_make (P := Tryz.prog) w 43 5 i0 (.int .u8 0) Tryz.underlying43 hi hz0 .i64 .i64 (c : Int) (c : Int) (by omega) (by omega) (by rw [hz2]; omega) (by omega)
  rw [Int.toNat_natCast, hz1, Nat.mul_one] at h
  refine ⟨_, h, ?_, (Below.refl _ _).alloc (Nat.le_refl _) _⟩
  refine run_conv_bytes (P := Tryz.prog) _ 43 9 5 w.heap.size 0 c c (List.replicate c 0) (by simp) Tryz.underlying43 Tryz.underlying5 Tryz.underlying9 ?_
  intro j v hv
  rw [cell_of_row _ _ _ _ _ _ (heap_alloc_new w _), Nat.zero_add, ← Array.getElem?_toList]
  rw [show (madeCells (Value.int IntKind.u8 0).cells c).toList = List.replicate c (.int .u8 0) from toList_madeCells_one _ _]
  simpa [bv] using hv

def thirty (l : List UInt8) : List UInt8 := l.take 32 ++ List.replicate (32 - l.length) 0
theorem thirty_length (l : List UInt8) : (thirty l).length = 32 := by simp [thirty]; omega
end Go.Proofs.YtdbbemcddhgbcaaGreatDoor
