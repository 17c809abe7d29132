import Derived.Test.YtdbbemcddhgbcaaGreatDoorPpR1
import Derived.Laws.RangeAny
import Derived.Lib.OthersKept
import Derived.BigQuiet
import Derived.OwnWalk
import Derived.Lib.AppendZeros
import Derived.Test.YtdbbemcddhgbcaaGreatDoorPpW7
/- Layer 22: names, in both packages -/
namespace Go.Proofs.YtdbbemcddhgbcaaGreatDoor
open Go.RowKit Go.Shelf
namespace Nt
/-- may a sign stand in a name? -/
def sgB (c : Nat) : Bool := decide (c = 46 ∨ c = 45 ∨ c = 47 ∨ (97 ≤ c ∧ c ≤ 122) ∨ (48 ≤ c ∧ c ≤ 57))
/-- a name -/
def nmB (s : List UInt8) : Bool := s.all (fun b => sgB b.toNat) && decide (0 < s.length) && decide (s.length ≤ 32)
theorem sgB_high {c : Nat} (h : 128 ≤ c) : sgB c = false := by unfold sgB; rw [decide_eq_false_iff_not]; omega
theorem width_one (s : ByteArray) (pos : Nat) (h : pos < s.size) : 1 ≤ (Utf8.decode s pos).2 := by
  by_cases ha : (s[pos]'h).toNat < 128
  · rw [decode_ascii s pos h ha]
    exact Nat.le_refl _
  · exact (decode_high s pos h (by omega)).2
/-- the sign that is read at a place tells of the byte that stands there -/
theorem sg_at (s : ByteArray) (pos : Nat) (h : pos < s.size) : sgB (Utf8.decode s pos).1 = sgB (s[pos]'h).toNat ∧ (sgB (s[pos]'h).toNat = true → (Utf8.decode s pos).2 = 1) := by
  by_cases ha : (s[pos]'h).toNat < 128
  · rw [decode_ascii s pos h ha]
    exact ⟨rfl, fun _ => rfl⟩
  · have h1 := decode_high s pos h (by omega)
    rw [sgB_high h1.1, sgB_high (by omega)]
    exact ⟨rfl, fun e => by cases e⟩
theorem getL (s : ByteArray) (pos : Nat) (h : pos < s.size) : s.data.toList[pos]? = some (s[pos]'h) := by
  rw [Array.getElem?_toList, Array.getElem?_eq_getElem (show pos < s.data.size from h)]
  rfl
/-- all ahead of a place may stand -/
def Ok (s : ByteArray) (k : Nat) : Prop := ∀ j b, j < k → s.data.toList[j]? = some b → sgB b.toNat = true
theorem Ok.next {s : ByteArray} {k : Nat} (h : Ok s k) (hk : k < s.size) (hb : sgB (s[k]'hk).toNat = true) : Ok s (k + 1) := fun j b hj hs => by
  rcases Nat.lt_or_ge j k with e | e
  · exact h j b e hs
  · obtain rfl : j = k := by omega
    rw [getL s j hk] at hs
    obtain rfl := Option.some.inj hs
    exact hb
theorem Ok.all {s : ByteArray} (h : Ok s s.size) : s.data.toList.all (fun b => sgB b.toNat) = true := by
  rw [List.all_eq_true]
  intro b hb
  obtain ⟨j, hj, e⟩ := List.mem_iff_getElem.1 hb
  exact h j b (by simpa using hj) (by rw [List.getElem?_eq_getElem hj, e])
theorem not_all {s : ByteArray} {k : Nat} (hk : k < s.size) (hb : sgB (s[k]'hk).toNat = false) : s.data.toList.all (fun b => sgB b.toNat) = false := by
  rw [List.all_eq_false]
  exact ⟨_, List.mem_of_getElem? (getL s k hk), by rw [hb]; exact Bool.false_ne_true⟩
theorem isNameSign_any (c : Nat) (hc : c ≤ 2147483647) (w : World) : Calls Tryz.prog 70 #[.int .i32 (c : Int)] w fun r w' => r = .returned (.bool (sgB c)) ∧ w' = w := by
  go_enter Tryz.func70, Tryz.ntmps70
  go_wp2
  all_goals go_ret
  all_goals refine ⟨congrArg (fun b => Ending.returned (Value.bool b)) (Eq.symm ?_), rfl⟩
  all_goals unfold sgB
  all_goals simp only [beq_iff_eq, beq_eq_false_iff_ne, ne_eq] at *
  all_goals first | exact decide_eq_true (by omega) | exact decide_eq_false (by omega) | exact decide_eq_decide.2 (by omega) | (rw [← Bool.decide_or]; exact decide_eq_decide.2 (by omega))
set_option maxRecDepth 100000 in
set_option maxHeartbeats 2000000 in
theorem isName_any (s : ByteArray) (w : World) : Calls Tryz.prog 50 #[.string s] w fun r w' => r = .returned (.bool (nmB s.data.toList)) ∧ Below w.heap.size w w' := by
  have hl : s.data.toList.length = s.size := by simp
  go_enter Tryz.func50, Tryz.ntmps50
  go_wp2
  go_loopw [4] (fun _ wr => ∃ pos : Nat, pos ≤ s.size ∧ Hid (wr.heap[w.heap.size]? = some (.stringIter s pos)) ∧ Hid (Below w.heap.size w wr) ∧ Hid (Ok s pos)) (fun _ wr => s.size - wr.iterPos w.heap.size)
  case atStart => exact ⟨0, by omega, World.iter_heap w s 0, (Below.refl _ _).alloc (Nat.le_refl _) _, fun j b hj => by omega⟩
  case round =>
    obtain ⟨pos, hps, hit, hbw, hok⟩ := hrel
    have hpos0 : wr.iterPos w.heap.size = pos := by unfold World.iterPos; rw [hit.out]
    by_cases hp : pos < s.size
    · have hnx : ∀ ty, (Instr.next (.pointer (some ⟨w.heap.size, 0, none⟩)) true ty).run Tryz.prog wr = _ := fun ty => Lib.run_next_any_at wr w.heap.size s pos ty hit.out hp
      have hit2 := hid (Lib.iterAt_heap wr w.heap.size s pos (pos + (Utf8.decode s pos).2) hit.out)
      have hbw2 := hid (Lib.below_iterAt hbw.out (k := w.heap.size) (Nat.le_refl _) s (pos + (Utf8.decode s pos).2))
      obtain ⟨W1, hW1⟩ : ∃ W1, W1 = wr.iterAt w.heap.size s (pos + (Utf8.decode s pos).2) := ⟨_, rfl⟩
      rw [← hW1] at hnx hit2 hbw2
      have h3 := hid (sg_at s pos hp)
      have i1 := isNameSign_any (Utf8.decode s pos).1 (decode_le s pos) W1
      obtain ⟨c, hc⟩ : ∃ c, (Utf8.decode s pos).1 = c := ⟨_, rfl⟩
      obtain ⟨d, hd⟩ : ∃ d, (Utf8.decode s pos).2 = d := ⟨_, rfl⟩
      unfold Hid at h3 hit2
      rw [hc] at hnx i1 h3
      rw [hd] at hit2 h3
      have h3 := hid h3
      have hit2 := hid hit2
      clear hc hd hW1 hit hbw
      cases hb : sgB c with
      | true =>
        rw [hb] at i1 h3
        have hP0 := hid hpos0
        clear hpos0
        go_wp2_with (go_at_call 70; (refine i1.mono ?_); rintro r w2 ⟨rfl, h0⟩; have h0 := h0.symm; subst h0)
        have hs1 := h3.out.1.symm
        have hd1 := h3.out.2 hs1
        subst hd1
        refine ⟨⟨pos + 1, hp, hit2, hbw2, hok.out.next hp hs1⟩, ?_⟩
        have : W1.iterPos w.heap.size = pos + 1 := by unfold World.iterPos; rw [hit2.out]
        have := hP0.out
        omega
      | false =>
        rw [hb] at i1 h3
        go_wp2_with (go_at_call 70; (refine i1.mono ?_); rintro r w2 ⟨rfl, h0⟩; have h0 := h0.symm; subst h0)
        go_ret
        have e : nmB s.data.toList = false := by unfold nmB; rw [not_all hp h3.out.1.symm]; rfl
        exact ⟨by rw [e]; rfl, hbw2.out⟩
    · obtain rfl : pos = s.size := by omega
      have hnx : ∀ ty, (Instr.next (.pointer (some ⟨w.heap.size, 0, none⟩)) true ty).run Tryz.prog wr = _ := fun ty => Lib.run_next_end_at wr w.heap.size s s.size ty hit.out hp
      have e : nmB s.data.toList = (decide (0 < s.size) && decide (s.size ≤ 32)) := by unfold nmB; rw [hok.out.all, hl]; rfl
      have E := hid e
      clear e hl
      by_cases z1 : 0 < s.size
      · have z1' : (0 : Int) < (s.size : Int) := by omega
        by_cases z2 : s.size ≤ 32
        · have z2' : (s.size : Int) ≤ 32 := by omega
          go_wp2
          all_goals go_ret
          all_goals exact ⟨by rw [E.out, decide_eq_true z1, decide_eq_true z2]; rfl, hbw.out⟩
        · have z2' : ¬ (s.size : Int) ≤ 32 := by omega
          go_wp2
          all_goals go_ret
          all_goals exact ⟨by rw [E.out, decide_eq_true z1, decide_eq_false z2]; rfl, hbw.out⟩
      · have z1' : ¬ (0 : Int) < (s.size : Int) := by omega
        go_wp2
        all_goals go_ret
        all_goals exact ⟨by rw [E.out, decide_eq_false z1]; rfl, hbw.out⟩
end Nt
end Go.Proofs.YtdbbemcddhgbcaaGreatDoor

/- Layer 22: the first line of a text, in the program -/
namespace Go.Proofs.YtdbbemcddhgbcaaGreatDoor
open Go.RowKit Go.Shelf
namespace Nt
/-- where a text's first line ends; its size, if it has no end -/
def eol (s : ByteArray) : Nat := s.data.toList.findIdx (fun b => b.toNat == 10)
/-- no line's end ahead of a place -/
def Pre (s : ByteArray) (k : Nat) : Prop := ∀ j b, j < k → s.data.toList[j]? = some b → b.toNat ≠ 10
theorem Pre.next {s : ByteArray} {k : Nat} (h : Pre s k) (hk : k < s.size) (hb : (s[k]'hk).toNat ≠ 10) : Pre s (k + 1) := fun j b hj hs => by
  rcases Nat.lt_or_ge j k with e | e
  · exact h j b e hs
  · obtain rfl : j = k := by omega
    rw [getL s j hk] at hs
    obtain rfl := Option.some.inj hs
    exact hb
theorem dlen (s : ByteArray) : s.data.toList.length = s.size := by simp
theorem eol_at {s : ByteArray} {k : Nat} (h : Pre s k) (hk : k < s.size) (hb : (s[k]'hk).toNat = 10) : eol s = k := by
  unfold eol
  have hk' : k < s.data.toList.length := by rw [dlen]; exact hk
  refine (List.findIdx_eq hk').2 ⟨?_, fun j hj => ?_⟩
  · have e := getL s k hk
    rw [List.getElem?_eq_getElem hk'] at e
    rw [Option.some.inj e, hb]
    rfl
  · have := h j _ hj (List.getElem?_eq_getElem (by omega))
    exact beq_false_of_ne this
theorem eol_none {s : ByteArray} (h : Pre s s.size) : eol s = s.size := by
  unfold eol
  rw [← dlen s]
  refine List.findIdx_eq_length_of_false fun b hb => ?_
  obtain ⟨j, hj, e⟩ := List.mem_iff_getElem.1 hb
  exact beq_false_of_ne (h j b (by rw [← dlen]; exact hj) (by rw [List.getElem?_eq_getElem hj, e]))
theorem eol_le (s : ByteArray) : eol s ≤ s.size := by
  unfold eol
  rw [← dlen s]
  exact List.findIdx_le_length
theorem get_bang (s : ByteArray) (j : Nat) (h : j < s.size) : s.get! j = s[j]'h := get_at s j h
theorem cont_high (s : ByteArray) (pos : Nat) (h : pos < s.size) (ha : 128 ≤ (s[pos]'h).toNat) (k : Nat) (h1 : 1 ≤ k) (h2 : k < (Utf8.decode s pos).2) : (s.get! (pos + k)).toNat / 64 = 2 := by
  have hn : ¬ (s[pos]'h).toNat < 128 := by omega
  revert h2
  simp only [Utf8.decode, get_at s pos h, hn, if_false]
  split
  · rename_i g
    simp only [Bool.and_eq_true, beq_iff_eq, decide_eq_true_eq] at g
    split
    · intro h2
      obtain rfl : k = 1 := by simp only at h2; omega
      exact g.2.2
    · intro h2
      simp only at h2
      omega
  · split
    · rename_i g
      simp only [Bool.and_eq_true, beq_iff_eq, decide_eq_true_eq] at g
      split
      · intro h2
        simp only at h2
        rcases (show k = 1 ∨ k = 2 by omega) with rfl | rfl
        · exact g.1.2.2
        · exact g.2.2
      · intro h2
        simp only at h2
        omega
    · split
      · rename_i g
        simp only [Bool.and_eq_true, beq_iff_eq, decide_eq_true_eq] at g
        split
        · intro h2
          simp only at h2
          rcases (show k = 1 ∨ k = 2 ∨ k = 3 by omega) with rfl | rfl | rfl
          · exact g.1.1.2.2
          · exact g.1.2.2
          · exact g.2.2
        · intro h2
          simp only at h2
          omega
      · intro h2
        simp only at h2
        omega
theorem decode_fits (s : ByteArray) (pos : Nat) (h : pos < s.size) : pos + (Utf8.decode s pos).2 ≤ s.size := by
  simp only [Utf8.decode]
  repeat' split
  all_goals simp_all
  all_goals omega
/-- the sign that is read at a place tells of the byte that stands there, and all bytes of it are no line's end if it is none -/
theorem sg10 (s : ByteArray) (pos : Nat) (h : pos < s.size) : ((Utf8.decode s pos).1 = 10 ↔ (s[pos]'h).toNat = 10) := by
  by_cases ha : (s[pos]'h).toNat < 128
  · rw [decode_ascii s pos h ha]
  · have h1 := decode_high s pos h (by omega)
    constructor <;> intro <;> omega
theorem pre_any {s : ByteArray} {pos : Nat} (hp : Pre s pos) (h : pos < s.size) (hb : (s[pos]'h).toNat ≠ 10) : Pre s (pos + (Utf8.decode s pos).2) := by
  by_cases ha : (s[pos]'h).toNat < 128
  · rw [decode_ascii s pos h ha]
    exact hp.next h hb
  · intro j b hj hs
    rcases Nat.lt_or_ge j pos with e | e
    · exact hp j b e hs
    · have hj2 : j < s.size := by
        rw [← dlen]
        exact (List.getElem?_eq_some_iff.1 hs).1
      rw [getL s j hj2] at hs
      obtain rfl := Option.some.inj hs
      rcases Nat.eq_or_lt_of_le e with e | e
      · subst e; exact hb
      · have h1 := cont_high s pos h (by omega) (j - pos) (by omega) (by omega)
        rw [show pos + (j - pos) = j by omega, get_bang s j hj2] at h1
        omega
/-- what is cut off, and whether anything is -/
def cutL (s : ByteArray) : ByteArray := if eol s < s.size then s.extract 0 (eol s) else ⟨#[]⟩
def cutR (s : ByteArray) : ByteArray := if eol s < s.size then s.extract (eol s + 1) s.size else s
set_option maxRecDepth 100000 in
set_option maxHeartbeats 2000000 in
theorem cut_any (s : ByteArray) (hs : s.size ≤ 9223372036854775806) (w : World) : Calls Tryz.prog 57 #[.string s] w fun r w' => r = .returned (.tuple #[.string (cutL s), .string (cutR s), .bool (decide (eol s < s.size))]) ∧ Below w.heap.size w w' := by
  have HS := hid hs
  clear hs
  go_enter Tryz.func57, Tryz.ntmps57
  go_wp2
  go_loopw [5, 6] (fun _ _ wr => ∃ pos : Nat, pos ≤ s.size ∧ Hid (wr.heap[w.heap.size]? = some (.stringIter s pos)) ∧ Hid (Below w.heap.size w wr) ∧ Hid (Pre s pos)) (fun _ _ wr => s.size - wr.iterPos w.heap.size)
  case atStart => exact ⟨0, by omega, World.iter_heap w s 0, (Below.refl _ _).alloc (Nat.le_refl _) _, fun j b hj => by omega⟩
  case round =>
    obtain ⟨pos, hps, hit, hbw, hok⟩ := hrel
    have hpos0 : wr.iterPos w.heap.size = pos := by unfold World.iterPos; rw [hit.out]
    by_cases hp : pos < s.size
    · have hnx : ∀ ty, (Instr.next (.pointer (some ⟨w.heap.size, 0, none⟩)) true ty).run Tryz.prog wr = _ := fun ty => Lib.run_next_any_at wr w.heap.size s pos ty hit.out hp
      have hit2 := hid (Lib.iterAt_heap wr w.heap.size s pos (pos + (Utf8.decode s pos).2) hit.out)
      have hbw2 := hid (Lib.below_iterAt hbw.out (k := w.heap.size) (Nat.le_refl _) s (pos + (Utf8.decode s pos).2))
      obtain ⟨W1, hW1⟩ : ∃ W1, W1 = wr.iterAt w.heap.size s (pos + (Utf8.decode s pos).2) := ⟨_, rfl⟩
      rw [← hW1] at hnx hit2 hbw2
      have h3 := hid (sg10 s pos hp)
      have h4 := hid (fun hb => pre_any hok.out hp hb)
      have h6 := hid (fun hb => eol_at hok.out hp hb)
      have wd := width_one s pos hp
      obtain ⟨c, hc⟩ : ∃ c, (Utf8.decode s pos).1 = c := ⟨_, rfl⟩
      obtain ⟨d, hd⟩ : ∃ d, (Utf8.decode s pos).2 = d := ⟨_, rfl⟩
      have h5 : pos + (Utf8.decode s pos).2 ≤ s.size := decode_fits s pos hp
      unfold Hid at h3 hit2 h4
      rw [hc] at hnx h3
      rw [hd] at hit2 h4 h5 wd
      have h3 := hid h3
      have h4 := hid h4
      have hit2 := hid hit2
      clear hc hd hW1 hit hbw hok
      by_cases hb : c = 10
      · have hb' : (c : Int) = 10 := by omega
        have HP := hid hpos0
        clear hpos0
        have e := hid (h6.out (h3.out.1 hb))
        clear h3 h4 h6 hb
        have r1 := fun W => run_slice_string_h (P := Tryz.prog) W 9 s Tryz.underlying9 .i64 (pos : Int) (by omega) (by omega)
        have r2 := fun W => run_slice_string_l (P := Tryz.prog) W 9 s Tryz.underlying9 .i64 ((pos + 1 : Nat) : Int) (by omega) (by omega)
        have t1 : IntKind.i64.wrap ((pos : Int) + 1) = ((pos + 1 : Nat) : Int) := by have := HS.out; rw [IntKind.wrap_i64]; omega
        go_wp2
        go_quiet (fail)
        go_wp2
        go_ret3
        have e := e.out
        refine ⟨?_, ⟨hbw2.out.os, hbw2.out.tape, hbw2.out.output, hbw2.out.size, hbw2.out.block⟩⟩
        have g1 : cutL s = s.extract 0 pos := by unfold cutL; rw [e, if_pos hp]
        have g2 : cutR s = s.extract (pos + 1) s.size := by unfold cutR; rw [e, if_pos hp]
        rw [g1, g2, e, decide_eq_true hp]
        rfl
      · have hb' : ¬ (c : Int) = 10 := by omega
        have HP := hid hpos0
        clear hpos0
        have h7 := hid (h4.out (fun e => hb (h3.out.2 e)))
        clear h3 h4 h6 hb
        go_wp2
        refine ⟨⟨pos + d, h5, hit2, hbw2, h7⟩, ?_⟩
        have : W1.iterPos w.heap.size = pos + d := by unfold World.iterPos; rw [hit2.out]
        have := HP.out
        omega
    · obtain rfl : pos = s.size := by omega
      have hnx : ∀ ty, (Instr.next (.pointer (some ⟨w.heap.size, 0, none⟩)) true ty).run Tryz.prog wr = _ := fun ty => Lib.run_next_end_at wr w.heap.size s s.size ty hit.out hp
      have e := hid (eol_none hok.out)
      go_wp2
      go_ret3
      have e := e.out
      refine ⟨?_, hbw.out⟩
      unfold cutL cutR
      rw [e, if_neg (Nat.lt_irrefl _), if_neg (Nat.lt_irrefl _), decide_eq_false (Nat.lt_irrefl _)]
      rfl
end Nt
end Go.Proofs.YtdbbemcddhgbcaaGreatDoor

namespace Go.Proofs.YtdbbemcddhgbcaaGreatDoor
open Go.RowKit

def sliceLen : Value → Nat
  | .slice _ n _ => n
  | _ => 0

set_option maxRecDepth 100000 in
set_option maxHeartbeats 400000 in
theorem filled_any (s : ByteArray) (hs : s.size ≤ 140737488355000) (w : World) :
    Calls Tryz.prog 62 #[.string s] w fun e w' => e = .returned (sv (s.data.toList ++ Sha.filling s.size)) ∧ Below w.heap.size w w' := by
  obtain ⟨v0, w0, hc0, hown0, hb0⟩ := conv_bytes w s (by rw [maxLen]; omega)
  obtain ⟨a0, cap0, rfl⟩ := hown0.shape
  have hb0s := hb0.size
  obtain ⟨v1, w1, hc1, hown1, hg1, _⟩ := append_new w0 w.heap.size _ s.data.toList [128] 1 #[.int .u8 128] rfl rfl hown0 (by rw [data_length]; omega) hb0s (by omega)
  have hb1 : Below w.heap.size w w1 := hb0.trans (Below.ofGrown hg1 hown0.ge hb0s)
  rw [bv_length, data_length] at hc0 hc1
  obtain ⟨z, hz⟩ : ∃ z, z = (119 - s.size % 64) % 64 := ⟨_, rfl⟩
  have Hz := hid hz
  have Hown1 := hid hown1
  have Hb1 := hid hb1
  clear hz hown0 hown1 hb0 hb1 hg1 hb0s
  generalize hn : s.size = n at *
  have hs' : (n : Int) ≤ 140737488355000 := by omega
  go_enter Tryz.func62, Tryz.ntmps62
  go_wp2_with (at_builtin; go_must (refine Lib.wpList_append_run _ rfl _ _ 43 43 rfl _ _ rfl rfl _ _ hc1 ?_))
  have hz64 : z < 64 := by have := Hz.out; omega
  have e1 : (bv (s.data.toList ++ [128])).length = n + 1 := by simp [hn]
  obtain ⟨a1, cap1, hv1⟩ := Hown1.out.shape
  rw [e1] at hv1
  subst hv1
  clear e1
  go_loopw [4] (fun v w' => ∃ (k : Nat) (a : Option Addr) (cap : Nat), v = .slice a (n + 1 + k) cap ∧ k ≤ z ∧ OwnB w' w.heap.size (.slice a (n + 1 + k) cap) (s.data.toList ++ 128 :: List.replicate k 0) ∧ Below w.heap.size w w') (fun v _ => n + 1 + z - sliceLen v)
  case atStart =>
    exact ⟨0, a1, cap1, rfl, by omega, Hown1.out, Hb1.out⟩
  case round =>
    obtain ⟨k, a, cap, rfl, hk, hown, hb⟩ := hrel
    have Hown := hid hown
    have Hb := hid hb
    have hbs := hb.size
    by_cases hlt : k < z
    · have g1 : (((n + 1 + k : Nat) : Int) % 64 != 56) = true := by have := Hz.out; simp; omega
      obtain ⟨v2, w2, hc2, hown2, hg2, _⟩ := append_new wr w.heap.size _ _ [0] 1 #[.int .u8 0] rfl rfl hown (by simp; omega) hbs (by omega)
      have e2 : (s.data.toList ++ 128 :: List.replicate k 0) ++ [0] = s.data.toList ++ 128 :: List.replicate (k + 1) 0 := by rw [List.replicate_succ']; simp
      rw [e2] at hown2
      have e3 : (bv (s.data.toList ++ 128 :: List.replicate (k + 1) 0)).length = n + 1 + (k + 1) := by simp [hn]; omega
      obtain ⟨a2, cap2, hv2⟩ := hown2.shape
      rw [e3] at hv2
      subst hv2
      clear e2 e3
      have Hown2 := hid hown2
      have Hb2 := hid (hb.trans (Below.ofGrown hg2 hown.ge hbs))
      clear hown hb hown2 hg2
      go_wp2_with (at_builtin; go_must (refine Lib.wpList_append_run _ rfl _ _ 43 43 rfl _ _ rfl rfl _ _ hc2 ?_))
      exact ⟨⟨k + 1, a2, cap2, rfl, by omega, Hown2.out, Hb2.out⟩, by simp [sliceLen]; omega⟩
    · obtain rfl : k = z := by omega
      have g1 : (((n + 1 + k : Nat) : Int) % 64 != 56) = false := by have := Hz.out; simp; omega
      clear hb
      have hcv : (convert 43 9 (.slice a (n + 1 + k) cap)).run Tryz.prog wr.drew = .ok (sv (s.data.toList ++ 128 :: List.replicate k 0)) wr.drew := conv_own hown.drew (by intro e; injection e; omega)
      have hw8 : IntKind.i64.wrap (8 * (n : Int)) = 8 * (n : Int) := wrap_small _ (by omega) (by omega)
      clear hown
      have hadd := add_sv Tryz.prog 9 (s.data.toList ++ 128 :: List.replicate k 0) (Sha.be (8 * n) 8) (by simp [Sha.be_length]; omega)
      go_wp2
      go_region_with (go_at_call 65; refine (big8 (8 * n) _ (by omega) _).mono ?_; rintro e w5 ⟨rfl, hw5⟩; go_must (have hcv5 := conv_own (Hown.out.drew.below hw5 (Nat.le_refl _)) (by intro e; injection e; omega)))
      all_goals go_wp2
      all_goals go_ret
      all_goals refine ⟨?_, Hb.out.drew.trans (hw5.mono hbs)⟩
      all_goals show Ending.returned (sv _) = _
      all_goals rw [Sha.filling, ← Hz.out]
end Go.Proofs.YtdbbemcddhgbcaaGreatDoor

/- THE PLAIN MATHEMATICS OF LAYER 1's TEXTS: hex and Base64. -/
namespace Go.Proofs.YtdbbemcddhgbcaaGreatDoor.Tx
open Go

/-- the sign of four bits -/
def hexSign (n : Nat) : UInt8 := if n < 10 then UInt8.ofNat (48 + n) else UInt8.ofNat (87 + n)
def hex : List UInt8 → List UInt8
  | [] => []
  | b :: l => hexSign (b.toNat / 16) :: hexSign (b.toNat % 16) :: hex l
theorem hex_append (a b : List UInt8) : hex (a ++ b) = hex a ++ hex b := by
  induction a with
  | nil => rfl
  | cons x a ih => simp [hex, ih]
theorem hex_length (l : List UInt8) : (hex l).length = 2 * l.length := by
  induction l with
  | nil => rfl
  | cons x a ih => simp [hex, ih]; omega
theorem hex_take (l : List UInt8) (k : Nat) (h : k < l.length) : hex (l.take (k + 1)) = hex (l.take k) ++ [hexSign ((l.getD k 0).toNat / 16), hexSign ((l.getD k 0).toNat % 16)] := by
  rw [List.take_succ_eq_append_getElem h, hex_append, List.getD_eq_getElem?_getD, List.getElem?_eq_getElem h]
  rfl
/-- the signs as they stand in a constant -/
def hexTab : List UInt8 := [48, 49, 50, 51, 52, 53, 54, 55, 56, 57, 97, 98, 99, 100, 101, 102]
theorem hexTab_at : ∀ n, n < 16 → hexTab.getD n 0 = hexSign n := by decide +kernel

/-- what a sign stands for -/
def hexVal (c : Nat) : Option Nat := if 48 ≤ c ∧ c ≤ 57 then some (c - 48) else if 97 ≤ c ∧ c ≤ 102 then some (c - 87) else none
def unhex : List UInt8 → Option (List UInt8)
  | [] => some []
  | [_] => none
  | a :: b :: l => match hexVal a.toNat, hexVal b.toNat, unhex l with
    | some x, some y, some r => some (UInt8.ofNat (16 * x + y) :: r)
    | _, _, _ => none
theorem hexVal_lt {c x : Nat} (h : hexVal c = some x) : x < 16 := by
  unfold hexVal at h
  split at h
  · injection h; omega
  · split at h
    · injection h; omega
    · cases h
theorem hexVal_sign : ∀ n, n < 16 → hexVal (hexSign n).toNat = some n := by decide +kernel
theorem sign_hexVal {c : UInt8} {x : Nat} (h : hexVal c.toNat = some x) : hexSign x = c := by
  have : ∀ c : UInt8, ∀ x, x < 16 → hexVal c.toNat = some x → hexSign x = c := by
    intro c x hx hc
    unfold hexVal at hc
    unfold hexSign
    apply UInt8.toNat_inj.1
    split at hc
    · injection hc with hc
      rw [if_pos (by omega)]; simp; omega
    · split at hc
      · injection hc with hc
        rw [if_neg (by omega)]; simp; omega
      · cases hc
  exact this c x (hexVal_lt h) h
theorem unhex_hex : ∀ l, unhex (hex l) = some l
  | [] => rfl
  | b :: l => by
    have hb := UInt8.toNat_lt b
    rw [hex, unhex, hexVal_sign _ (by omega), hexVal_sign _ (by omega), unhex_hex l]
    simp only
    congr 2
    apply UInt8.toNat_inj.1
    simp; omega
theorem hex_unhex : ∀ (l r : List UInt8), unhex l = some r → hex r = l
  | [], r, h => by cases h; rfl
  | [_], r, h => by cases h
  | a :: b :: l, r, h => by
    rw [unhex] at h
    split at h
    · rename_i x y r' hx hy hr
      injection h with h
      subst h
      have := hexVal_lt hx
      have := hexVal_lt hy
      rw [hex, hex_unhex l r' hr]
      have e : (UInt8.ofNat (16 * x + y)).toNat = 16 * x + y := by simp; omega
      rw [e, show (16 * x + y) / 16 = x from by omega, show (16 * x + y) % 16 = y from by omega, sign_hexVal hx, sign_hexVal hy]
    · cases h
theorem unhex_app : ∀ (a b r : List UInt8), unhex a = some r → unhex (a ++ b) = (unhex b).map (r ++ ·)
  | [], b, r, h => by cases h; rw [List.nil_append]; cases unhex b <;> rfl
  | [_], b, r, h => by cases h
  | x :: y :: a, b, r, h => by
    rw [unhex] at h
    split at h
    · rename_i u v r' hx hy hr
      injection h with h
      subst h
      rw [List.cons_append, List.cons_append, unhex, hx, hy, unhex_app a b r' hr]
      cases unhex b <;> rfl
    · cases h
theorem unhex_odd : ∀ l : List UInt8, l.length % 2 = 1 → unhex l = none
  | [], h => by simp at h
  | [_], _ => rfl
  | a :: b :: l, h => by
    rw [unhex, unhex_odd l (by simp at h; omega)]
    cases hexVal a.toNat <;> cases hexVal b.toNat <;> rfl
theorem unhex_length : ∀ (l r : List UInt8), unhex l = some r → l.length = 2 * r.length := fun l r h => by
  have := congrArg List.length (hex_unhex l r h)
  rw [hex_length] at this; omega
/-- D4: FromHex -/
def fromHex (l : List UInt8) : List UInt8 × Int := match unhex l with
  | some r => (r, 0)
  | none => ([], 10)
theorem pair_at (l : List UInt8) (k : Nat) (h : 2 * k + 1 < l.length) : l.take (2 * k + 2) = l.take (2 * k) ++ [l.getD (2 * k) 0, l.getD (2 * k + 1) 0] := by
  rw [List.take_succ_eq_append_getElem (i := 2 * k + 1) (by omega), List.take_succ_eq_append_getElem (i := 2 * k) (by omega), List.append_assoc]
  simp only [List.getD_eq_getElem?_getD]
  rw [List.getElem?_eq_getElem (by omega), List.getElem?_eq_getElem (by omega)]
  rfl
theorem unhex_step (l r : List UInt8) (k x y : Nat) (h : 2 * k + 1 < l.length) (hr : unhex (l.take (2 * k)) = some r) (hx : hexVal (l.getD (2 * k) 0).toNat = some x) (hy : hexVal (l.getD (2 * k + 1) 0).toNat = some y) :
    unhex (l.take (2 * (k + 1))) = some (r ++ [UInt8.ofNat (16 * x + y)]) := by
  rw [show 2 * (k + 1) = 2 * k + 2 from by omega, pair_at l k h, unhex_app _ _ r hr, unhex, hx, hy, unhex]
  rfl
theorem unhex_bad (l r : List UInt8) (k : Nat) (h : 2 * k + 1 < l.length) (hr : unhex (l.take (2 * k)) = some r) (hb : hexVal (l.getD (2 * k) 0).toNat = none ∨ hexVal (l.getD (2 * k + 1) 0).toNat = none) : unhex l = none := by
  have e : l = l.take (2 * k) ++ (l.getD (2 * k) 0 :: l.getD (2 * k + 1) 0 :: l.drop (2 * k + 2)) := by
    have h1 : l.drop (2 * k) = l.getD (2 * k) 0 :: l.drop (2 * k + 1) := by
      rw [List.drop_eq_getElem_cons (by omega), List.getD_eq_getElem?_getD, List.getElem?_eq_getElem (by omega)]; rfl
    have h2 : l.drop (2 * k + 1) = l.getD (2 * k + 1) 0 :: l.drop (2 * k + 2) := by
      rw [List.drop_eq_getElem_cons (by omega), List.getD_eq_getElem?_getD, List.getElem?_eq_getElem (by omega)]; rfl
    rw [← h2, ← h1, List.take_append_drop]
  rw [e, unhex_app _ _ r hr, unhex]
  rcases hb with hb | hb
  · rw [hb]; rfl
  · rw [hb]; cases hexVal (l.getD (2 * k) 0).toNat <;> rfl
theorem orByte (x y : Nat) (hx : x < 16) (hy : y < 16) : bits .or .u8 ((x : Int) * 16) (y : Int) = (((UInt8.ofNat (16 * x + y)).toNat : Nat) : Int) := by
  rw [show (x : Int) * 16 = ((x * 16 : Nat) : Int) from by omega, u8_or_nat _ _ (by omega) (by omega), nat_join 4 (x * 16) y (by omega) (by omega)]
  simp; omega
end Go.Proofs.YtdbbemcddhgbcaaGreatDoor.Tx
