import Derived.Test.YtdbbemcddhgbcaaGreatDoorPkNB4
import Derived.Test.YtdbbemcddhgbcaaGreatDoorPkW7
import Derived.Laws.OwnMore
namespace Go.Proofs.YtdbbemcddhgbcaaGreatDoor
open Go.RowKit

theorem mid_data (s : ByteArray) (a b : Nat) : (s.extract a b).data.toList = (s.data.toList.drop a).take (b - a) := Lib.extract_data s a b
theorem mid_size (s : ByteArray) (a b : Nat) (h : b ≤ s.size) : (s.extract a b).size = b - a := by
  rw [← data_length, mid_data, List.length_take, List.length_drop, data_length]; omega

set_option maxRecDepth 100000 in
set_option maxHeartbeats 1000000 in
theorem fromBase64_any (s : ByteArray) (hs : s.size ≤ 140737488355328) (w : World) :
    Calls Tryz.prog 81 #[.string s] w fun e w' => e = .returned (.tuple #[sv (Tx.fromB64 s.data.toList).1, .int .i64 (Tx.fromB64 s.data.toList).2]) ∧ Below w.heap.size w w' := by
  have hs' : (s.size : Int) ≤ 140737488355328 := by omega
  by_cases hodd : s.size % 4 = 0
  rotate_left
  · have g : ((s.size : Int) % 4 != 0) = true := by simp; omega
    have hf : Hid (Tx.fromB64 s.data.toList = ([], 11)) := by show _ = _; rw [Tx.fromB64, Tx.unb64_odd _ (by rw [data_length]; exact hodd)]
    go_enter Tryz.func81, Tryz.ntmps81
    go_wp2
    go_ret2
    exact ⟨by rw [hf.out]; rfl, Below.refl _ _⟩
  · have g : ((s.size : Int) % 4 != 0) = false := by simp; omega
    obtain ⟨w0, hmk, hown0, hb0⟩ := make_B w (s.size / 4 * 3) (by omega)
    have e2 : ((s.size / 4 * 3 : Nat) : Int) = (s.size : Int) / 4 * 3 := by omega
    rw [e2] at hmk
    have Hown0 := hid hown0
    have Hb0 := hid hb0
    clear hown0 hb0 e2
    go_enter Tryz.func81, Tryz.ntmps81
    go_wp2
    go_loopw [4, 5] (fun v i w' => ∃ (k : Nat) (r : List UInt8), 4 * k ≤ s.size ∧ i = .int .i64 ((4 * k : Nat) : Int) ∧ r.length ≤ 3 * k ∧ Hid (Tx.unb64 s.data.toList = (Tx.unb64 (s.data.toList.drop (4 * k))).map (r ++ ·)) ∧ Hid (v ≠ .slice none 0 0) ∧ OwnB w' w.heap.size v r ∧ Below w.heap.size w w') (fun _ i _ => s.size - (intOf i).toNat)
    case atStart => exact ⟨0, [], by omega, rfl, by simp, hid (by simp), hid (by intro h; injection h with h; cases h), Hown0.out, Hb0.out⟩
    case round =>
      obtain ⟨k, r, hk, rfl, hrl, hr, hne, hown, hb⟩ := hrel
      have Hown := hid hown
      have Hb := hid hb
      have hbs := hb.size
      clear hown hb
      by_cases hlt : 4 * k < s.size
      · have hlt' : ((4 * k : Nat) : Int) < (s.size : Int) := by omega
        have hk4 : 4 * k + 4 ≤ s.data.toList.length := by rw [data_length]; omega
        have t1 : (((4 * k : Nat) : Int) + 4).toNat = 4 * k + 4 := by omega
        have b1 : ((4 * k : Nat) : Int) + 4 ≤ (s.size : Int) := by omega
        obtain ⟨gg, hgg⟩ : ∃ gg, gg = s.extract (4 * k) (4 * k + 4) := ⟨_, rfl⟩
        have hgs : gg.size = 4 := by rw [hgg, mid_size _ _ _ (by omega)]; omega
        have Hgd := hid (show gg.data.toList = (s.data.toList.drop (4 * k)).take 4 by rw [hgg, mid_data]; congr 1; omega)
        have Hge := hid hgg.symm
        clear hgg
        by_cases hlast : 4 * k + 4 = s.size
        · have gl : (((4 * k : Nat) : Int) + 4 == (s.size : Int)) = true := by simp; omega
          have Hlast := hid hlast
          clear hlast
          go_wp2_with (go_at_call 96; fail)
          rw [Hge.out]
          refine (fillOf_any gg hgs _).mono ?_
          rintro e w1 ⟨rfl, rfl⟩
          have hf2 := Tx.fillOf_le gg.data.toList
          have Hf := hid (show Tx.fillOf gg.data.toList = if 4 * k + 4 = s.data.toList.length then Tx.fillOf ((s.data.toList.drop (4 * k)).take 4) else 0 by rw [data_length, if_pos Hlast.out, Hgd.out])
          generalize Tx.fillOf gg.data.toList = f at *
          have f1 : (0 : Int) ≤ 4 - (f : Int) := by omega
          have f2 : 4 - (f : Int) ≤ 4 := by omega
          have f3 : (4 - (f : Int)).toNat = 4 - f := by omega
          go_wp2_with (go_at_call 97; fail)
          have hsz : (gg.extract 0 (4 - f)).size = 4 - f := by rw [mid_size _ _ _ (by omega)]; omega
          refine (wordOf_any (gg.extract 0 (4 - f)) (by omega) _).mono ?_
          rintro e w2 ⟨n, b, rfl, rfl, ln, hn⟩
          rw [hsz, mid_data, List.drop_zero, Nat.sub_zero, Tx.wOf_take _ _ _ (Nat.le_refl _)] at hn
          clear hsz
          cases b
          · have hbad : Hid (Tx.fromB64 s.data.toList = ([], 11)) := by
              show _ = _
              rw [Tx.fromB64, Tx.unb64_bad _ r k f hk4 hr.out Hf.out (by rw [Tx.ungrp, ← Hgd.out, hn.out.2 rfl])]
            go_wp2
            go_ret2
            exact ⟨by rw [hbad.out]; rfl, Hb.out⟩
          · have m1 : 8 * (f : Int) ≤ 16 := by omega
            have m2 : (0 : Int) ≤ 8 * (f : Int) := by omega
            have m3 : (8 * (f : Int)).toNat = 8 * f := by omega
            have hp2 : (2 : Int) ^ (8 * f) % 4294967296 = 2 ^ (8 * f) := by
              have h3 : f = 0 ∨ f = 1 ∨ f = 2 := by omega
              rcases h3 with h3 | h3 | h3 <;> rw [h3] <;> decide
            obtain ⟨q, hq, hmask⟩ : ∃ q : Nat, Hid (q = n % 2 ^ (8 * f)) ∧ bits .and .u32 (n : Int) ((2 ^ (8 * f) - 1) % 4294967296) = (q : Int) := ⟨_, rfl, Tx.mask_walk n f hf2 ln⟩
            by_cases hq0 : q = 0
            · have Hun := hid (show Tx.ungrp ((s.data.toList.drop (4 * k)).take 4) f = some (Tx.bytesOf n f) by rw [Tx.ungrp, ← Hgd.out, hn.out.1 rfl]; simp only [← hq.out, hq0, if_pos])
              have Hst := hid (Tx.unb64_step _ r _ k f hk4 hr.out Hf.out Hun.out)
              replace hmask : bits .and .u32 (n : Int) ((2 ^ (8 * f) - 1) % 4294967296) = 0 := by rw [hmask, hq0]; rfl
              clear hq hq0
              have j0 : (0 : Int) ≤ 3 - (f : Int) := by omega
              go_wp2
              go_loopw [4, 59] (fun v i w' => ∃ j : Nat, j ≤ 3 - f ∧ i = .int .i64 j ∧ Hid (v ≠ .slice none 0 0) ∧ OwnB w' w.heap.size v (r ++ (Tx.bytesOf n f).take j) ∧ Below w.heap.size w w') (fun _ i _ => 3 - f - (intOf i).toNat)
              case atStart => exact ⟨0, by omega, rfl, hne, by simpa using Hown.out, Hb.out⟩
              case round =>
                obtain ⟨j, hj, rfl, hne2, hown2, hb2⟩ := hrel
                have hbs2 := hb2.size
                by_cases hjl : j < 3 - f
                · have j1 : (j : Int) < 3 - (f : Int) := by omega
                  have j2 : (j : Int) ≤ 2 := by omega
                  have hbyte := Tx.byte_mod n (16 - 8 * j)
                  obtain ⟨v3, w3, hc, hown3, hg3, _⟩ := append_new wr w.heap.size u4 _ [UInt8.ofNat (n / 2 ^ (16 - 8 * j))] 1 #[.int .u8 (UInt8.ofNat (n / 2 ^ (16 - 8 * j))).toNat] rfl rfl hown2 (by rw [List.length_append, List.length_take, Tx.bytesOf_length]; omega) (by omega) (by omega)
                  rw [List.append_assoc, ← Tx.bytesOf_take n f j hjl] at hown3
                  have Hne3 := hid (hown3.ne (by simp [Tx.bytesOf_length]; omega))
                  have Hown3 := hid hown3
                  have Hb3 := hid (hb2.trans (Below.ofGrown hg3 hown2.ge hbs2))
                  clear hown3 hg3 hown2 hb2
                  generalize (UInt8.ofNat (n / 2 ^ (16 - 8 * j))).toNat = q2 at *
                  go_wp2_with (at_builtin; go_must (refine Lib.wpList_append_run _ rfl _ _ 43 43 rfl _ _ rfl rfl _ _ hc ?_))
                  first | exact ⟨⟨j + 1, by omega, by go_num, Hne3, Hown3.out, Hb3.out⟩, by simp [intOf]; omega⟩ | (refine ⟨?_, by simp [intOf]; omega⟩; (repeat apply Exists.intro); exact ⟨⟨j + 1, by omega, by go_num, Hne3, Hown3.out, Hb3.out⟩, rfl⟩)
                · obtain rfl : j = 3 - f := by omega
                  have j1 : ¬ ((3 - f : Nat) : Int) < 3 - (f : Int) := by omega
                  rw [Tx.bytesOf_all] at hown2
                  have Hown3 := hid hown2
                  have Hb3 := hid hb2
                  clear hown2 hb2
                  go_wp2
                  exact ⟨⟨k + 1, r ++ Tx.bytesOf n f, by omega, by go_num, by rw [List.length_append, Tx.bytesOf_length]; omega, Hst, hne2, Hown3.out, Hb3.out⟩, by simp [intOf]; omega⟩
            · have hq1 : ((q : Int) != 0) = true := by simp; omega
              have hbad : Hid (Tx.fromB64 s.data.toList = ([], 11)) := by
                show _ = _
                rw [Tx.fromB64, Tx.unb64_bad _ r k f hk4 hr.out Hf.out (by rw [Tx.ungrp, ← Hgd.out, hn.out.1 rfl]; simp only [← hq.out]; rw [if_neg hq0])]
              go_wp2
              go_ret2
              exact ⟨by rw [hbad.out]; rfl, Hb.out⟩
        · have gl : (((4 * k : Nat) : Int) + 4 == (s.size : Int)) = false := by simp; omega
          have Hlast := hid hlast
          clear hlast
          have Hf := hid (show 0 = if 4 * k + 4 = s.data.toList.length then Tx.fillOf ((s.data.toList.drop (4 * k)).take 4) else 0 by rw [data_length, if_neg Hlast.out])
          go_wp2_with (go_at_call 97; fail)
          rw [Hge.out]
          have hsz : (gg.extract 0 4).size = 4 := by rw [mid_size _ _ _ (by omega)]
          refine (wordOf_any (gg.extract 0 4) (by omega) _).mono ?_
          rintro e w2 ⟨n, b, rfl, rfl, ln, hn⟩
          rw [hsz, mid_data, List.drop_zero, Nat.sub_zero, Tx.wOf_take _ _ _ (Nat.le_refl _)] at hn
          clear hsz
          cases b
          · have hbad : Hid (Tx.fromB64 s.data.toList = ([], 11)) := by
              show _ = _
              rw [Tx.fromB64, Tx.unb64_bad _ r k 0 hk4 hr.out Hf.out (by rw [Tx.ungrp, ← Hgd.out, Nat.sub_zero, hn.out.2 rfl])]
            go_wp2
            go_ret2
            exact ⟨by rw [hbad.out]; rfl, Hb.out⟩
          · have hmask : bits .and .u32 (n : Int) 0 = 0 := by have := Tx.mask_walk n 0 (by omega) ln; simpa using this
            have Hun := hid (show Tx.ungrp ((s.data.toList.drop (4 * k)).take 4) 0 = some (Tx.bytesOf n 0) by rw [Tx.ungrp, ← Hgd.out, Nat.sub_zero, hn.out.1 rfl]; simp [Nat.mod_one])
            have Hst := hid (Tx.unb64_step _ r _ k 0 hk4 hr.out Hf.out Hun.out)
            go_wp2
            go_loopw [4, 59] (fun v i w' => ∃ j : Nat, j ≤ 3 ∧ i = .int .i64 j ∧ Hid (v ≠ .slice none 0 0) ∧ OwnB w' w.heap.size v (r ++ (Tx.bytesOf n 0).take j) ∧ Below w.heap.size w w') (fun _ i _ => 3 - (intOf i).toNat)
            case atStart => exact ⟨0, by omega, rfl, hne, by simpa using Hown.out, Hb.out⟩
            case round =>
              obtain ⟨j, hj, rfl, hne2, hown2, hb2⟩ := hrel
              have hbs2 := hb2.size
              by_cases hjl : j < 3
              · have j1 : (j : Int) < 3 := by omega
                have j2 : (j : Int) ≤ 2 := by omega
                have hbyte := Tx.byte_mod n (16 - 8 * j)
                obtain ⟨v3, w3, hc, hown3, hg3, _⟩ := append_new wr w.heap.size u4 _ [UInt8.ofNat (n / 2 ^ (16 - 8 * j))] 1 #[.int .u8 (UInt8.ofNat (n / 2 ^ (16 - 8 * j))).toNat] rfl rfl hown2 (by rw [List.length_append, List.length_take, Tx.bytesOf_length]; omega) (by omega) (by omega)
                rw [List.append_assoc, ← Tx.bytesOf_take n 0 j hjl] at hown3
                have Hne3 := hid (hown3.ne (by simp [Tx.bytesOf_length]; omega))
                have Hown3 := hid hown3
                have Hb3 := hid (hb2.trans (Below.ofGrown hg3 hown2.ge hbs2))
                clear hown3 hg3 hown2 hb2
                generalize (UInt8.ofNat (n / 2 ^ (16 - 8 * j))).toNat = q2 at *
                go_wp2_with (at_builtin; go_must (refine Lib.wpList_append_run _ rfl _ _ 43 43 rfl _ _ rfl rfl _ _ hc ?_))
                first | exact ⟨⟨j + 1, by omega, by go_num, Hne3, Hown3.out, Hb3.out⟩, by simp [intOf]; omega⟩ | (refine ⟨?_, by simp [intOf]; omega⟩; (repeat apply Exists.intro); exact ⟨⟨j + 1, by omega, by go_num, Hne3, Hown3.out, Hb3.out⟩, rfl⟩)
              · obtain rfl : j = 3 := by omega
                rw [show (Tx.bytesOf n 0).take 3 = Tx.bytesOf n 0 from Tx.bytesOf_all n 0] at hown2
                have Hown3 := hid hown2
                have Hb3 := hid hb2
                clear hown2 hb2
                go_wp2
                exact ⟨⟨k + 1, r ++ Tx.bytesOf n 0, by omega, by go_num, by rw [List.length_append, Tx.bytesOf_length]; omega, Hst, hne2, Hown3.out, Hb3.out⟩, by simp [intOf]; omega⟩
      · have hlt' : ¬ ((4 * k : Nat) : Int) < (s.size : Int) := by omega
        have hcv := conv_own Hown.out hne.out
        have hfin : Hid (Tx.fromB64 s.data.toList = (r, 0)) := by
          have := hr.out
          rw [List.drop_eq_nil_of_le (by rw [data_length]; omega), Tx.unb64] at this
          show _ = _
          rw [Tx.fromB64, this]
          simp
        go_wp2
        go_ret2
        exact ⟨by rw [hfin.out]; rfl, Hb.out⟩
end Go.Proofs.YtdbbemcddhgbcaaGreatDoor

namespace Go.Proofs.YtdbbemcddhgbcaaGreatDoor
open Go.RowKit

set_option maxRecDepth 100000 in
set_option maxHeartbeats 400000 in
theorem leaf_any (s : ByteArray) (hl : s.size ≤ 2305843009213690000) (w : World) (T : Tabs w) :
    Calls Tryz.prog 109 #[.string s] w fun e w' => e = .returned (sv (Sha.sha (0 :: s.data.toList))) ∧ Below w.heap.size w w' := by
  have hT := T.lt
  go_enter Tryz.func109, Tryz.ntmps109
  go_wp2_with (go_at_call 131; go_must (refine (sum_any w.heap.size 0 2 [[0], s.data.toList] (by simp [total]; omega) (by simp [maxLen]) _ (T.below ((Below.refl _ _).alloc (Nat.le_refl _) _) hT) (by rw [size_alloc]; omega) (texts2 w [0] s.data.toList _)).mono ?_); rintro e w5 ⟨rfl, hw5⟩)
  go_ret
  refine ⟨by simp, ?_⟩
  exact ((Below.refl _ _).alloc (Nat.le_refl _) _).trans (hw5.mono (by rw [size_alloc]; omega))
end Go.Proofs.YtdbbemcddhgbcaaGreatDoor

namespace Go.Proofs.YtdbbemcddhgbcaaGreatDoor
open Go.RowKit

theorem sha_abc : Sha.sha [97, 98, 99] = [186, 120, 22, 191, 143, 1, 207, 234, 65, 65, 64, 222, 93, 174, 34, 35, 176, 3, 97, 163, 150, 23, 122, 156, 180, 16, 255, 97, 242, 0, 21, 173] := by decide +kernel
theorem sha_nil : Sha.sha [] = [227, 176, 196, 66, 152, 252, 28, 20, 154, 251, 244, 200, 153, 111, 185, 36, 39, 174, 65, 228, 100, 155, 147, 76, 164, 149, 153, 27, 120, 82, 184, 85] := by decide +kernel
def hexNil : List UInt8 := [101, 51, 98, 48, 99, 52, 52, 50, 57, 56, 102, 99, 49, 99, 49, 52, 57, 97, 102, 98, 102, 52, 99, 56, 57, 57, 54, 102, 98, 57, 50, 52, 50, 55, 97, 101, 52, 49, 101, 52, 54, 52, 57, 98, 57, 51, 52, 99, 97, 52, 57, 53, 57, 57, 49, 98, 55, 56, 53, 50, 98, 56, 53, 53]
def hexAbc : List UInt8 := [98, 97, 55, 56, 49, 54, 98, 102, 56, 102, 48, 49, 99, 102, 101, 97, 52, 49, 52, 49, 52, 48, 100, 101, 53, 100, 97, 101, 50, 50, 50, 51, 98, 48, 48, 51, 54, 49, 97, 51, 57, 54, 49, 55, 55, 97, 57, 99, 98, 52, 49, 48, 102, 102, 54, 49, 102, 50, 48, 48, 49, 53, 97, 100]
theorem hex_nil : Tx.hex (Sha.sha []) = hexNil := by rw [sha_nil]; decide +kernel
theorem hex_abc : Tx.hex (Sha.sha [97, 98, 99]) = hexAbc := by rw [sha_abc]; decide +kernel

theorem lenNil : (Sha.sha []).length ≤ 70368744177664 := by rw [Sha.sha_length]; omega
theorem lenAbc : (Sha.sha [97, 98, 99]).length ≤ 70368744177664 := by rw [Sha.sha_length]; omega
theorem fh1 : Tx.fromHex [48, 48, 102, 102] = ([0, 255], 0) := by decide +kernel
theorem fh2 : Tx.fromHex [48, 70] = ([], 10) := by decide +kernel
theorem fb1 : Tx.fromB64 [89, 81, 61, 61] = ([97], 0) := by decide +kernel
theorem fb2 : Tx.fromB64 [89, 82, 61, 61] = ([], 11) := by decide +kernel
theorem b1 : Tx.b64 [97, 98, 99] = [89, 87, 74, 106] := by decide +kernel
theorem fromB64_1 (w : World) : Calls Tryz.prog 81 #[.string ⟨#[89, 81, 61, 61]⟩] w fun e w' => e = .returned (.tuple #[.string ⟨#[97]⟩, .int .i64 0]) ∧ Below w.heap.size w w' := by
  have := fromBase64_any ⟨#[89, 81, 61, 61]⟩ (by decide) w
  rwa [show (ByteArray.mk #[89, 81, 61, 61]).data.toList = [89, 81, 61, 61] from rfl, fb1] at this
theorem fromB64_2 (w : World) : Calls Tryz.prog 81 #[.string ⟨#[89, 82, 61, 61]⟩] w fun e w' => e = .returned (.tuple #[.string ⟨#[]⟩, .int .i64 11]) ∧ Below w.heap.size w w' := by
  have := fromBase64_any ⟨#[89, 82, 61, 61]⟩ (by decide) w
  rwa [show (ByteArray.mk #[89, 82, 61, 61]).data.toList = [89, 82, 61, 61] from rfl, fb2] at this
theorem base64_1 (w : World) : Calls Tryz.prog 54 #[.string ⟨#[97, 98, 99]⟩] w fun e w' => e = .returned (.string ⟨#[89, 87, 74, 106]⟩) ∧ Below w.heap.size w w' := by
  have := base64_any ⟨#[97, 98, 99]⟩ (by decide) w
  rwa [show (ByteArray.mk #[97, 98, 99]).data.toList = [97, 98, 99] from rfl, b1] at this

end Go.Proofs.YtdbbemcddhgbcaaGreatDoor

namespace Go.Proofs.YtdbbemcddhgbcaaGreatDoor
open Go.RowKit

/-- make([]byte, c) -/
theorem make_zeros (w : World) (c : Nat) (hc : c ≤ 1000) :
    ∃ w', (Instr.makeSlice 43 (.int .i64 (c : Int)) (.int .i64 (c : Int))).run Tryz.prog w = .ok (.slice (some ⟨w.heap.size, 0, none⟩) c c) w' ∧
      (convert 43 9 (.slice (some ⟨w.heap.size, 0, none⟩) c c)).run Tryz.prog w' = .ok (sv (List.replicate c 0)) w' ∧ Below w.heap.size w w' := by
  obtain ⟨i0, hi, hz0, hz1, hz2⟩ := info_parts info5'
  have h := run_make (P := Tryz.prog) w 43 5 i0 (.int .u8 0) Tryz.underlying43 hi hz0 .i64 .i64 (c : Int) (c : Int) (by omega) (by omega) (by rw [hz2]; omega) (by omega)
  rw [Int.toNat_natCast, hz1, Nat.mul_one] at h
  refine ⟨_, h, ?_, (Below.refl _ _).alloc (Nat.le_refl _) _⟩
  refine run_conv_bytes (P := Tryz.prog) _ 43 9 5 w.heap.size 0 c c (List.replicate c 0) (by simp) Tryz.underlying43 Tryz.underlying5 Tryz.underlying9 ?_
  intro j v hv
  rw [cell_of_row _ _ _ _ _ _ (heap_alloc_new w _), Nat.zero_add, ← Array.getElem?_toList]
  rw [show (madeCells (Value.int IntKind.u8 0).cells c).toList = List.replicate c (.int .u8 0) from toList_madeCells_one _ _]
  simpa [bv] using hv

def thirty (l : List UInt8) : List UInt8 := l.take 32 ++ List.replicate (32 - l.length) 0
theorem thirty_length (l : List UInt8) : (thirty l).length = 32 := by simp [thirty]; omega
end Go.Proofs.YtdbbemcddhgbcaaGreatDoor
