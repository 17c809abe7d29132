import Derived.Test.YtdbbemcddhgbcaaGreatDoorPpM6
import Derived.Test.YtdbbemcddhgbcaaGreatDoorPpNA1
import Derived.Test.YtdbbemcddhgbcaaGreatDoorPpX1
import Derived.Test.YtdbbemcddhgbcaaGreatDoorPpNE2
import Derived.Laws.Cover1
import Derived.Deep.RegionHeld3
namespace Go.Proofs.YtdbbemcddhgbcaaGreatDoor
open Go.RowKit

theorem mid_data (s : ByteArray) (a b : Nat) : (s.extract a b).data.toList = (s.data.toList.drop a).take (b - a) := Lib.extract_data s a b
theorem mid_size (s : ByteArray) (a b : Nat) (h : b ≤ s.size) : (s.extract a b).size = b - a := by
  rw [← data_length, mid_data, List.length_take, List.length_drop, data_length]; omega

set_option maxRecDepth 100000 in
set_option maxHeartbeats 1000000 in
theorem fromBase64_any (s : ByteArray) (hs : s.size ≤ 140737488355328) (w : World) :
    Calls Tryz.prog 81 #[.string s] w fun e w' => e = .returned (.tuple #[sv (Tx.fromB64 s.data.toList).1, .int .i64 (Tx.fromB64 s.data.toList).2]) ∧ Below w.heap.size w w' := by
  have hs' : (s.size : Int) ≤ 140737488355328 := by omega
  by_cases hodd : s.size % 4 = 0
  rotate_left
  · have g : ((s.size : Int) % 4 != 0) = true := by simp; omega
    have hf : Hid (Tx.fromB64 s.data.toList = ([], 11)) := by show _ = _; rw [Tx.fromB64, Tx.unb64_odd _ (by rw [data_length]; exact hodd)]
    go_enter Tryz.func81, Tryz.ntmps81
    go_wp2
    go_ret2
    exact ⟨by rw [hf.out]; rfl, Below.refl _ _⟩
  · have g : ((s.size : Int) % 4 != 0) = false := by simp; omega
    obtain ⟨w0, hmk, hown0, hb0⟩ := make_B w (s.size / 4 * 3) (by omega)
    have e2 : ((s.size / 4 * 3 : Nat) : Int) = (s.size : Int) / 4 * 3 := by omega
    rw [e2] at hmk
    have Hown0 := hid hown0
    have Hb0 := hid hb0
    clear hown0 hb0 e2
    go_enter Tryz.func81, Tryz.ntmps81
    go_wp2
    go_loopw [4, 5] (fun v i w' => ∃ (k : Nat) (r : List UInt8), 4 * k ≤ s.size ∧ i = .int .i64 ((4 * k : Nat) : Int) ∧ r.length ≤ 3 * k ∧ Hid (Tx.unb64 s.data.toList = (Tx.unb64 (s.data.toList.drop (4 * k))).map (r ++ ·)) ∧ Hid (v ≠ .slice none 0 0) ∧ OwnB w' w.heap.size v r ∧ Below w.heap.size w w') (fun _ i _ => s.size - (intOf i).toNat)
    case atStart => exact ⟨0, [], by omega, rfl, by simp, hid (by simp), hid (by intro h; injection h with h; cases h), Hown0.out, Hb0.out⟩
    case round =>
      obtain ⟨k, r, hk, rfl, hrl, hr, hne, hown, hb⟩ := hrel
      have Hown := hid hown
      have Hb := hid hb
      have hbs := hb.size
      clear hown hb
      by_cases hlt : 4 * k < s.size
      · have hlt' : ((4 * k : Nat) : Int) < (s.size : Int) := by omega
        have hk4 : 4 * k + 4 ≤ s.data.toList.length := by rw [data_length]; omega
        have t1 : (((4 * k : Nat) : Int) + 4).toNat = 4 * k + 4 := by omega
        have b1 : ((4 * k : Nat) : Int) + 4 ≤ (s.size : Int) := by omega
        obtain ⟨gg, hgg⟩ : ∃ gg, gg = s.extract (4 * k) (4 * k + 4) := ⟨_, rfl⟩
        have hgs : gg.size = 4 := by rw [hgg, mid_size _ _ _ (by omega)]; omega
        have Hgd := hid (show gg.data.toList = (s.data.toList.drop (4 * k)).take 4 by rw [hgg, mid_data]; congr 1; omega)
        have Hge := hid hgg.symm
        clear hgg
        by_cases hlast : 4 * k + 4 = s.size
        · have gl : (((4 * k : Nat) : Int) + 4 == (s.size : Int)) = true := by simp; omega
          have Hlast := hid hlast
          clear hlast
          go_wp2_with (go_at_call 96; fail)
          rw [Hge.out]
          refine (fillOf_any gg hgs _).mono ?_
          rintro e w1 ⟨rfl, rfl⟩
          have hf2 := Tx.fillOf_le gg.data.toList
          have Hf := hid (show Tx.fillOf gg.data.toList = if 4 * k + 4 = s.data.toList.length then Tx.fillOf ((s.data.toList.drop (4 * k)).take 4) else 0 by rw [data_length, if_pos Hlast.out, Hgd.out])
          generalize Tx.fillOf gg.data.toList = f at *
          have f1 : (0 : Int) ≤ 4 - (f : Int) := by omega
          have f2 : 4 - (f : Int) ≤ 4 := by omega
          have f3 : (4 - (f : Int)).toNat = 4 - f := by omega
          go_wp2_with (go_at_call 97; fail)
          have hsz : (gg.extract 0 (4 - f)).size = 4 - f := by rw [mid_size _ _ _ (by omega)]; omega
          refine (wordOf_any (gg.extract 0 (4 - f)) (by omega) _).mono ?_
          rintro e w2 ⟨n, b, rfl, rfl, ln, hn⟩
          rw [hsz, mid_data, List.drop_zero, Nat.sub_zero, Tx.wOf_take _ _ _ (Nat.le_refl _)] at hn
          clear hsz
          cases b
          · have hbad : Hid (Tx.fromB64 s.data.toList = ([], 11)) := by
              show _ = _
              rw [Tx.fromB64, Tx.unb64_bad _ r k f hk4 hr.out Hf.out (by rw [Tx.ungrp, ← Hgd.out, hn.out.2 rfl])]
            go_wp2
            go_ret2
            exact ⟨by rw [hbad.out]; rfl, Hb.out⟩
          · have m1 : 8 * (f : Int) ≤ 16 := by omega
            have m2 : (0 : Int) ≤ 8 * (f : Int) := by omega
            have m3 : (8 * (f : Int)).toNat = 8 * f := by omega
            have hp2 : (2 : Int) ^ (8 * f) % 4294967296 = 2 ^ (8 * f) := by
              have h3 : f = 0 ∨ f = 1 ∨ f = 2 := by omega
              rcases h3 with h3 | h3 | h3 <;> rw [h3] <;> decide
            obtain ⟨q, hq, hmask⟩ : ∃ q : Nat, Hid (q = n % 2 ^ (8 * f)) ∧ bits .and .u32 (n : Int) ((2 ^ (8 * f) - 1) % 4294967296) = (q : Int) := ⟨_, rfl, Tx.mask_walk n f hf2 ln⟩
            by_cases hq0 : q = 0
            · have Hun := hid (show Tx.ungrp ((s.data.toList.drop (4 * k)).take 4) f = some (Tx.bytesOf n f) by rw [Tx.ungrp, ← Hgd.out, hn.out.1 rfl]; simp only [← hq.out, hq0, if_pos])
              have Hst := hid (Tx.unb64_step _ r _ k f hk4 hr.out Hf.out Hun.out)
              replace hmask : bits .and .u32 (n : Int) ((2 ^ (8 * f) - 1) % 4294967296) = 0 := by rw [hmask, hq0]; rfl
              clear hq hq0
              have j0 : (0 : Int) ≤ 3 - (f : Int) := by omega
              go_wp2
              go_loopw [4, 59] (fun v i w' => ∃ j : Nat, j ≤ 3 - f ∧ i = .int .i64 j ∧ Hid (v ≠ .slice none 0 0) ∧ OwnB w' w.heap.size v (r ++ (Tx.bytesOf n f).take j) ∧ Below w.heap.size w w') (fun _ i _ => 3 - f - (intOf i).toNat)
              case atStart => exact ⟨0, by omega, rfl, hne, by simpa using Hown.out, Hb.out⟩
              case round =>
                obtain ⟨j, hj, rfl, hne2, hown2, hb2⟩ := hrel
                have hbs2 := hb2.size
                by_cases hjl : j < 3 - f
                · have j1 : (j : Int) < 3 - (f : Int) := by omega
                  have j2 : (j : Int) ≤ 2 := by omega
                  have hbyte := Tx.byte_mod n (16 - 8 * j)
                  obtain ⟨v3, w3, hc, hown3, hg3, _⟩ := append_new wr w.heap.size u4 _ [UInt8.ofNat (n / 2 ^ (16 - 8 * j))] 1 #[.int .u8 (UInt8.ofNat (n / 2 ^ (16 - 8 * j))).toNat] rfl rfl hown2 (by rw [List.length_append, List.length_take, Tx.bytesOf_length]; omega) (by omega) (by omega)
                  rw [List.append_assoc, ← Tx.bytesOf_take n f j hjl] at hown3
                  have Hne3 := hid (hown3.ne (by simp [Tx.bytesOf_length]; omega))
                  have Hown3 := hid hown3
                  have Hb3 := hid (hb2.trans (Below.ofGrown hg3 hown2.ge hbs2))
                  clear hown3 hg3 hown2 hb2
                  generalize (UInt8.ofNat (n / 2 ^ (16 - 8 * j))).toNat = q2 at *
                  go_wp2_with (at_builtin; go_must (refine Lib.wpList_append_run _ rfl _ _ 43 43 rfl _ _ rfl rfl _ _ hc ?_))
                  first | exact ⟨⟨j + 1, by omega, by go_num, Hne3, Hown3.out, Hb3.out⟩, by simp [intOf]; omega⟩ | (refine ⟨?_, by simp [intOf]; omega⟩; (repeat apply Exists.intro); exact ⟨⟨j + 1, by omega, by go_num, Hne3, Hown3.out, Hb3.out⟩, rfl⟩)
                · obtain rfl : j = 3 - f := by omega
                  have j1 : ¬ ((3 - f : Nat) : Int) < 3 - (f : Int) := by omega
                  rw [Tx.bytesOf_all] at hown2
                  have Hown3 := hid hown2
                  have Hb3 := hid hb2
                  clear hown2 hb2
                  go_wp2
                  exact ⟨⟨k + 1, r ++ Tx.bytesOf n f, by omega, by go_num, by rw [List.length_append, Tx.bytesOf_length]; omega, Hst, hne2, Hown3.out, Hb3.out⟩, by simp [intOf]; omega⟩
            · have hq1 : ((q : Int) != 0) = true := by simp; omega
              have hbad : Hid (Tx.fromB64 s.data.toList = ([], 11)) := by
                show _ = _
                rw [Tx.fromB64, Tx.unb64_bad _ r k f hk4 hr.out Hf.out (by rw [Tx.ungrp, ← Hgd.out, hn.out.1 rfl]; simp only [← hq.out]; rw [if_neg hq0])]
              go_wp2
              go_ret2
              exact ⟨by rw [hbad.out]; rfl, Hb.out⟩
        · have gl : (((4 * k : Nat) : Int) + 4 == (s.size : Int)) = false := by simp; omega
          have Hlast := hid hlast
          clear hlast
          have Hf := hid (show 0 = if 4 * k + 4 = s.data.toList.length then Tx.fillOf ((s.data.toList.drop (4 * k)).take 4) else 0 by rw [data_length, if_neg Hlast.out])
          go_wp2_with (go_at_call 97; fail)
          rw [Hge.out]
          have hsz : (gg.extract 0 4).size = 4 := by rw [mid_size _ _ _ (by omega)]
          refine (wordOf_any (gg.extract 0 4) (by omega) _).mono ?_
          rintro e w2 ⟨n, b, rfl, rfl, ln, hn⟩
          rw [hsz, mid_data, List.drop_zero, Nat.sub_zero, Tx.wOf_take _ _ _ (Nat.le_refl _)] at hn
          clear hsz
          cases b
          · have hbad : Hid (Tx.fromB64 s.data.toList = ([], 11)) := by
              show _ = _
              rw [Tx.fromB64, Tx.unb64_bad _ r k 0 hk4 hr.out Hf.out (by rw [Tx.ungrp, ← Hgd.out, Nat.sub_zero, hn.out.2 rfl])]
            go_wp2
            go_ret2
            exact ⟨by rw [hbad.out]; rfl, Hb.out⟩
          · have hmask : bits .and .u32 (n : Int) 0 = 0 := by have := Tx.mask_walk n 0 (by omega) ln; simpa using this
            have Hun := hid (show Tx.ungrp ((s.data.toList.drop (4 * k)).take 4) 0 = some (Tx.bytesOf n 0) by rw [Tx.ungrp, ← Hgd.out, Nat.sub_zero, hn.out.1 rfl]; simp [Nat.mod_one])
            have Hst := hid (Tx.unb64_step _ r _ k 0 hk4 hr.out Hf.out Hun.out)
            go_wp2
            go_loopw [4, 59] (fun v i w' => ∃ j : Nat, j ≤ 3 ∧ i = .int .i64 j ∧ Hid (v ≠ .slice none 0 0) ∧ OwnB w' w.heap.size v (r ++ (Tx.bytesOf n 0).take j) ∧ Below w.heap.size w w') (fun _ i _ => 3 - (intOf i).toNat)
            case atStart => exact ⟨0, by omega, rfl, hne, by simpa using Hown.out, Hb.out⟩
            case round =>
              obtain ⟨j, hj, rfl, hne2, hown2, hb2⟩ := hrel
              have hbs2 := hb2.size
              by_cases hjl : j < 3
              · have j1 : (j : Int) < 3 := by omega
                have j2 : (j : Int) ≤ 2 := by omega
                have hbyte := Tx.byte_mod n (16 - 8 * j)
                obtain ⟨v3, w3, hc, hown3, hg3, _⟩ := append_new wr w.heap.size u4 _ [UInt8.ofNat (n / 2 ^ (16 - 8 * j))] 1 #[.int .u8 (UInt8.ofNat (n / 2 ^ (16 - 8 * j))).toNat] rfl rfl hown2 (by rw [List.length_append, List.length_take, Tx.bytesOf_length]; omega) (by omega) (by omega)
                rw [List.append_assoc, ← Tx.bytesOf_take n 0 j hjl] at hown3
                have Hne3 := hid (hown3.ne (by simp [Tx.bytesOf_length]; omega))
                have Hown3 := hid hown3
                have Hb3 := hid (hb2.trans (Below.ofGrown hg3 hown2.ge hbs2))
                clear hown3 hg3 hown2 hb2
                generalize (UInt8.ofNat (n / 2 ^ (16 - 8 * j))).toNat = q2 at *
                go_wp2_with (at_builtin; go_must (refine Lib.wpList_append_run _ rfl _ _ 43 43 rfl _ _ rfl rfl _ _ hc ?_))
                first | exact ⟨⟨j + 1, by omega, by go_num, Hne3, Hown3.out, Hb3.out⟩, by simp [intOf]; omega⟩ | (refine ⟨?_, by simp [intOf]; omega⟩; (repeat apply Exists.intro); exact ⟨⟨j + 1, by omega, by go_num, Hne3, Hown3.out, Hb3.out⟩, rfl⟩)
              · obtain rfl : j = 3 := by omega
                rw [show (Tx.bytesOf n 0).take 3 = Tx.bytesOf n 0 from Tx.bytesOf_all n 0] at hown2
                have Hown3 := hid hown2
                have Hb3 := hid hb2
                clear hown2 hb2
                go_wp2
                exact ⟨⟨k + 1, r ++ Tx.bytesOf n 0, by omega, by go_num, by rw [List.length_append, Tx.bytesOf_length]; omega, Hst, hne2, Hown3.out, Hb3.out⟩, by simp [intOf]; omega⟩
      · have hlt' : ¬ ((4 * k : Nat) : Int) < (s.size : Int) := by omega
        have hcv := conv_own Hown.out hne.out
        have hfin : Hid (Tx.fromB64 s.data.toList = (r, 0)) := by
          have := hr.out
          rw [List.drop_eq_nil_of_le (by rw [data_length]; omega), Tx.unb64] at this
          show _ = _
          rw [Tx.fromB64, this]
          simp
        go_wp2
        go_ret2
        exact ⟨by rw [hfin.out]; rfl, Hb.out⟩
end Go.Proofs.YtdbbemcddhgbcaaGreatDoor

/- Layer 22: the document's names -/
namespace Go.Proofs.YtdbbemcddhgbcaaGreatDoor
open Go.RowKit Go.Shelf
namespace Nt
set_option maxRecDepth 100000 in
set_option maxHeartbeats 4000000 in
theorem risName_any (s : ByteArray) (hs : s.size ≤ 9223372036854775807) (w : World) : Calls Tryz.prog 43 #[.string s] w fun r w' => r = .returned (.bool (nmB s.data.toList)) ∧ Below w.heap.size w w' := by
  have hl : s.data.toList.length = s.size := by simp
  by_cases z1 : 0 < s.size
  · by_cases z2 : s.size ≤ 32
    · have z1' : ¬ (s.size : Int) < 1 := by omega
      have z2' : ¬ (32 : Int) < (s.size : Int) := by omega
      go_enter Tryz.func43, Tryz.ntmps43
      go_wp2
      go_loopw [3, 4] (fun i _ wr => ∃ pos : Nat, pos ≤ s.size ∧ i = .int .i64 (pos : Int) ∧ Hid (Below w.heap.size w wr) ∧ Hid (Ok s pos)) (fun i _ _ => s.size - (intOf i).toNat)
      case atStart => exact ⟨0, by omega, rfl, Below.refl _ _, fun j b hj => by omega⟩
      case round =>
        obtain ⟨pos, hps, rfl, hbw, hok⟩ := hrel
        by_cases hp : pos < s.size
        · have hp' : (pos : Int) < (s.size : Int) := by omega
          obtain ⟨c, hc0, hlt, hix, hcc⟩ := index_any s (pos : Int) pos rfl hp
          have h3 := hid (hcc hp)
          clear hc0 hcc
          cases hb : sgB c with
          | true =>
            have nx : Ok s (pos + 1) := hok.out.next hp (by rw [h3.out]; exact hb)
            unfold sgB at hb
            rw [decide_eq_true_eq] at hb
            go_wp2
            all_goals first
              | exact ⟨⟨pos + 1, hp, by go_num, hbw, nx⟩, by simp [intOf]; omega⟩
              | (exfalso; clear hix h3 hs; simp at *; omega)
          | false =>
            have nx : nmB s.data.toList = false := by unfold nmB; rw [not_all hp (by rw [h3.out]; exact hb)]; rfl
            unfold sgB at hb
            rw [decide_eq_false_iff_not] at hb
            go_wp2
            all_goals first
              | (exfalso; clear hix h3 hs; simp at *; omega)
              | (go_ret; exact ⟨by first | rfl | (rw [nx]; rfl), hbw.out⟩)
        · obtain rfl : pos = s.size := by omega
          have e : nmB s.data.toList = true := by unfold nmB; rw [hok.out.all, hl, decide_eq_true z1, decide_eq_true z2]; rfl
          have hp' : ¬ (s.size : Int) < (s.size : Int) := by omega
          go_wp2
          go_ret
          exact ⟨by first | rfl | (rw [e]; rfl), hbw.out⟩
    · have z1' : ¬ (s.size : Int) < 1 := by omega
      have z2' : (32 : Int) < (s.size : Int) := by omega
      have e : nmB s.data.toList = false := by unfold nmB; rw [hl, decide_eq_false z2, Bool.and_false]
      go_enter Tryz.func43, Tryz.ntmps43
      go_wp2
      go_ret
      exact ⟨by first | rfl | (rw [e]; rfl), Below.refl _ _⟩
  · have z1' : (s.size : Int) < 1 := by omega
    have e : nmB s.data.toList = false := by unfold nmB; rw [hl, decide_eq_false z1, Bool.and_false, Bool.false_and]
    go_enter Tryz.func43, Tryz.ntmps43
    go_wp2
    go_ret
    exact ⟨by first | rfl | (rw [e]; rfl), Below.refl _ _⟩
end Nt
end Go.Proofs.YtdbbemcddhgbcaaGreatDoor

/- Layer 22: what may be of a note, in the program -/
namespace Go.Proofs.YtdbbemcddhgbcaaGreatDoor
open Go.RowKit Go.Shelf
namespace Nt
theorem adr_block (x : Addr) (j : Nat) : (x.add j).block = x.block := by unfold Addr.add; split <;> rfl
/-- a note as a value -/
def nv (O : ByteArray) (z : Int) (R : ByteArray) (v : Value) : Value := .agg #[.string O, .int .i64 z, .string R, v]
/-- a note in a box -/
def Bx (w : World) (g : Nat) (O : ByteArray) (z : Int) (R : ByteArray) (v : Value) : Prop := w.heap[g]? = some (.cells #[.string O, .int .i64 z, .string R, v] 26 (0, 0))
theorem Bx.new (w : World) (O : ByteArray) (z : Int) (R : ByteArray) (v : Value) : Bx (w.alloc (.cells #[.string O, .int .i64 z, .string R, v] 26)) w.heap.size O z R v := heap_alloc_new w _
section
variable {w w' : World} {g : Nat} {O R : ByteArray} {z : Int} {v : Value}
theorem Bx.below (h : Bx w g O z R v) (hb : Below w.heap.size w w') : Bx w' g O z R v := (hb.block g (lt_of_heap h)).trans h
theorem Bx.c0 (h : Bx w g O z R v) : w.cell? ⟨g, 0, none⟩ = some (.string O) := by rw [cell_of_row w g 0 _ _ _ h]; rfl
theorem Bx.c1 (h : Bx w g O z R v) : w.cell? ⟨g, 1, none⟩ = some (.int .i64 z) := by rw [cell_of_row w g 1 _ _ _ h]; rfl
theorem Bx.c2 (h : Bx w g O z R v) : w.cell? ⟨g, 2, none⟩ = some (.string R) := by rw [cell_of_row w g 2 _ _ _ h]; rfl
theorem Bx.c3 (h : Bx w g O z R v) : w.cell? ⟨g, 3, none⟩ = some v := by rw [cell_of_row w g 3 _ _ _ h]; rfl
end
/-- a signature: its name, its data -/
abbrev Sg := ByteArray × ByteArray
/-- a list of signatures, wherever it lies -/
def AtS (w : World) (a : Option Addr) (S : List Sg) : Prop := ∀ j x, S[j]? = some x → ∃ p : Addr, a = some p ∧ p.block < w.heap.size ∧ w.cell? (p.add (j * 2)) = some (.string x.1) ∧ w.cell? ⟨(p.add (j * 2)).block, (p.add (j * 2)).off + 1, none⟩ = some (.string x.2)
theorem AtS.below {w w' : World} {a : Option Addr} {S : List Sg} (h : AtS w a S) (hb : Below w.heap.size w w') : AtS w' a S := fun j x hx => by
  obtain ⟨p, e, h1, h2, h3⟩ := h j x hx
  exact ⟨p, e, Nat.lt_of_lt_of_le h1 hb.size, (hb.cell (p := p.add (j * 2)) (by rw [adr_block]; exact h1)).trans h2, (hb.cell (p := ⟨(p.add (j * 2)).block, (p.add (j * 2)).off + 1, none⟩) (by show (p.add (j * 2)).block < _; rw [adr_block]; exact h1)).trans h3⟩
theorem AtS.nil (w : World) (a : Option Addr) : AtS w a [] := fun j x hx => by simp at hx
/-- may the body be? -/
def bdB (O : ByteArray) (z : Int) (R : ByteArray) : Bool := nmB O.data.toList && decide (0 ≤ z ∧ z ≤ 1099511627776) && decide (R.size = 32)
set_option maxRecDepth 100000 in
set_option maxHeartbeats 4000000 in
theorem mayBody_any {E : Es} {w : World} (h : Nw w E) (O R : ByteArray) (z : Int) (v : Value) (B : Bool) (hB : bdB O z R = B) : Calls Tryz.prog 31 #[nv O z R v] w fun q w' => (∃ e, q = .returned e ∧ if B = true then e = .nilIface else ∃ t, e = FV t (EV E.f)) ∧ Below w.heap.size w w' := by
  have i2 := isName_any O (w.alloc (.cells #[.string O, .int .i64 z, .string R, v] 26))
  have H := hid h
  have c1 := fun w' (bb : Below w.heap.size w w') => (H.out.below bb).vf
  have B0 := hid ((Below.refl w.heap.size w).alloc (Nat.le_refl _) (.cells #[.string O, .int .i64 z, .string R, v] 26))
  have S0 := hid (Bx.new w O z R v)
  clear h
  go_enter Tryz.func31, Tryz.ntmps31
  cases hn : nmB O.data.toList with
  | false =>
    rw [hn] at i2
    have hf : B = false := by rw [← hB]; unfold bdB; rw [hn, Bool.false_and, Bool.false_and]
    subst hf
    clear hB
    unfold nv
    go_upto_region 2 with (go_at_call 50; (refine i2.mono ?_); rintro q w1 ⟨rfl, b1⟩)
    have B1 := hid (B0.out.trans (b1.mono B0.out.size))
    have d1 := c1 w1 B1.out
    clear c1 i2 b1
    unfold EV at d1
    go_wp2
    go_ret
    exact ⟨⟨_, rfl, _, rfl⟩, B1.out⟩
  | true =>
    rw [hn] at i2
    have hf : (decide (0 ≤ z ∧ z ≤ 1099511627776) && decide (R.size = 32)) = B := by rw [← hB]; unfold bdB; rw [hn, Bool.true_and]
    clear hB
    unfold nv
    go_upto_region 3 with (go_at_call 50; (refine i2.mono ?_); rintro q w1 ⟨rfl, b1⟩)
    have B1 := hid (B0.out.trans (b1.mono B0.out.size))
    have d1 := c1 w1 B1.out
    have s1 := S0.out.below b1
    have p1 := s1.c1
    have p2 := s1.c2
    clear c1 i2 b1 s1
    unfold EV at d1
    by_cases z0 : z < 0
    · have hb : B = false := by rw [← hf, decide_eq_false (by omega), Bool.false_and]
      subst hb
      clear hf
      go_wp2
      go_ret
      exact ⟨⟨_, rfl, _, rfl⟩, B1.out⟩
    · by_cases z1 : 1099511627776 < z
      · have hb : B = false := by rw [← hf, decide_eq_false (by omega), Bool.false_and]
        subst hb
        clear hf
        go_wp2
        go_ret
        exact ⟨⟨_, rfl, _, rfl⟩, B1.out⟩
      · by_cases zr : R.size = 32
        · have hb : B = true := by rw [← hf, decide_eq_true (by omega), decide_eq_true zr, Bool.true_and]
          subst hb
          have zr' : (R.size : Int) = 32 := by omega
          clear hf zr
          go_wp2
          go_ret
          first | exact ⟨⟨_, rfl, rfl⟩, B1.out⟩ | exact ⟨rfl, B1.out⟩
        · have hb : B = false := by rw [← hf, decide_eq_false zr, Bool.and_false]
          subst hb
          have zr' : ¬ (R.size : Int) = 32 := by omega
          clear hf zr
          go_wp2
          go_ret
          exact ⟨⟨_, rfl, _, rfl⟩, B1.out⟩
end Nt
end Go.Proofs.YtdbbemcddhgbcaaGreatDoor

/- Layer 22: signatures, in the program -/
namespace Go.Proofs.YtdbbemcddhgbcaaGreatDoor
open Go.RowKit Go.Shelf
namespace Nt
theorem bw_drew (w : World) : Below w.heap.size w w.drew := ⟨rfl, rfl, rfl, Nat.le_refl _, fun _ _ => rfl⟩
set_option maxRecDepth 100000 in
set_option maxHeartbeats 4000000 in
theorem mayCount_ok (a : Option Addr) (n c : Nat) (hn : n ≤ 16) (w : World) : Calls Tryz.prog 48 #[.slice a n c] w fun q w' => q = .returned .nilIface ∧ w' = w := by
  have h1 : ¬ (16 : Int) < (n : Int) := by omega
  go_enter Tryz.func48, Tryz.ntmps48
  go_wp2
  go_ret
  exact ⟨rfl, rfl⟩
set_option maxRecDepth 100000 in
set_option maxHeartbeats 4000000 in
theorem mayCount_no {E : Es} {w : World} (h : Nw w E) (a : Option Addr) (n c : Nat) (hn : ¬ n ≤ 16) (hn2 : n ≤ 9223372036854775807) : Calls Tryz.prog 48 #[.slice a n c] w fun q w' => (∃ t, q = .returned (FV t (EV E.m))) ∧ Below w.heap.size w w' := by
  have h1 : (16 : Int) < (n : Int) := by omega
  have d0 := h.vm
  have i1 := fun w' (bb : Below w.heap.size w w') => itoa_any (h.below bb) (n : Int) (by omega) (by omega)
  have c1 := fun w' (bb : Below w.heap.size w w') => (h.below bb).vm
  have sz := iT_size (n : Int) (by omega) (by omega)
  have ad : ¬ 9223372036854775807 < (iT (n : Int)).size + (⟨#[32, 115, 105, 103, 110, 97, 116, 117, 114, 101, 115]⟩ : ByteArray).size := by show ¬ _ < (iT (n : Int)).size + 11; omega
  have ad2 : ¬ 9223372036854775807 < (iT (n : Int)).size + 11 := by omega
  unfold EV FV at *
  clear h
  go_enter Tryz.func48, Tryz.ntmps48
  go_upto_region 2 with fail
  go_region_held3 (fun W => W.cell? ⟨3, 0, none⟩ = some (.iface 242 (.pointer (some E.m)))) (first | exact d0 | exact d1) (first | (go_at_call 53; (refine (i1 _ (bw_drew _)).mono ?_); rintro q w1 ⟨rfl, b1⟩; have b2 := (bw_drew w).trans b1; have d1 := c1 w1 b2))
  go_wp2
  go_ret
  exact ⟨⟨_, rfl⟩, b2⟩
/-- may a signature be? -/
def sgnB (x : Sg) : Bool := nmB x.1.data.toList && decide (0 < x.2.size ∧ x.2.size ≤ 6000)
/-- is a text below another one, by its bytes? -/
def ltN (a b : ByteArray) : Bool := Op.bytesLess a.toList b.toList
/-- may a signature be where it stands? -/
def okJ (S : List Sg) (j : Nat) : Bool := match S[j]? with
  | none => true
  | some x => sgnB x && (decide (j = 0) || ltN (S.getD (j - 1) (⟨#[]⟩, ⟨#[]⟩)).1 x.1)
def allOk (S : List Sg) : Bool := (List.range S.length).all (okJ S)
theorem allOk_of {S : List Sg} (h : ∀ i, i < S.length → okJ S i = true) : allOk S = true := by
  unfold allOk
  rw [List.all_eq_true]
  exact fun i hi => h i (List.mem_range.1 hi)
theorem not_allOk {S : List Sg} {j : Nat} (hj : j < S.length) (h : okJ S j = false) : allOk S = false := by
  unfold allOk
  rw [List.all_eq_false]
  exact ⟨j, List.mem_range.2 hj, by rw [h]; exact Bool.false_ne_true⟩
set_option maxRecDepth 100000 in
set_option maxHeartbeats 4000000 in
theorem isSignature_any (x : Sg) (w : World) : Calls Tryz.prog 78 #[.agg #[.string x.1, .string x.2]] w fun q w' => q = .returned (.bool (sgnB x)) ∧ Below w.heap.size w w' := by
  obtain ⟨N, D⟩ := x
  have i2 := isName_any N (w.alloc (.cells #[.string N, .string D] 32))
  have b0 := (Below.refl w.heap.size w).alloc (Nat.le_refl _) (.cells #[.string N, .string D] 32)
  have hb0 := heap_alloc_new w (.cells #[.string N, .string D] 32)
  have B0 := hid b0
  have S0 := hid hb0
  clear b0 hb0
  go_enter Tryz.func78, Tryz.ntmps78
  show Code.wp _ _ (bodyPost _ _ fun q w' => q = .returned (.bool (nmB N.data.toList && decide (0 < D.size ∧ D.size ≤ 6000))) ∧ _) _ _
  cases hn : nmB N.data.toList with
  | false =>
    rw [hn] at i2
    go_wp2_with (go_at_call 50; (refine i2.mono ?_); rintro q w1 ⟨rfl, b1⟩)
    all_goals go_ret
    all_goals exact ⟨rfl, B0.out.trans (b1.mono B0.out.size)⟩
  | true =>
    rw [hn] at i2
    go_wp2_with (go_at_call 50; (refine i2.mono ?_); rintro q w1 ⟨rfl, b1⟩; have s1 := (b1.block _ (lt_of_heap S0.out)).trans S0.out; have p1 : w1.cell? ⟨w.heap.size, 1, none⟩ = some (.string D) := (by rw [cell_of_row w1 _ 1 _ _ _ s1]; rfl); clear s1)
    all_goals go_ret
    all_goals refine ⟨?_, B0.out.trans (b1.mono B0.out.size)⟩
    all_goals refine congrArg (fun b => Ending.returned (Value.bool b)) (Eq.symm ?_)
    all_goals rw [Bool.true_and]
    all_goals first | exact decide_eq_true (by omega) | exact decide_eq_false (by omega) | exact decide_eq_decide.2 (by omega)
end Nt
end Go.Proofs.YtdbbemcddhgbcaaGreatDoor
