import Derived.Test.YtdbbemcddhgbcaaGreatDoorPpNG2
import Derived.Test.YtdbbemcddhgbcaaGreatDoorPpM7
import Derived.Test.YtdbbemcddhgbcaaGreatDoorPpT4
/- Layer 22: strings.Cut at a space, signatures' lines, in the program -/
namespace Go.Proofs.YtdbbemcddhgbcaaGreatDoor
open Go.RowKit Go.Shelf
namespace Nt
theorem indexByte_lt (l : List UInt8) (c : UInt8) : Lib.indexByte l c < (l.length : Int) ∨ Lib.indexByte l c = -1 := by
  induction l with
  | nil => exact .inr rfl
  | cons b l ih =>
    unfold Lib.indexByte
    split
    · exact .inl (by simp only [List.length_cons]; omega)
    · split
      · exact .inr rfl
      · rename_i h1 h2
        rcases ih with h | h
        · exact .inl (by simp only [List.length_cons]; omega)
        · exact absurd (by rw [h]; rfl) h2
/-- what stands ahead of a space, and behind it; whether there is one -/
def spA (m : ByteArray) : ByteArray × ByteArray × Bool := if 0 ≤ Lib.indexByte m.data.toList 32 then (m.extract 0 (Lib.indexByte m.data.toList 32).toNat, m.extract ((Lib.indexByte m.data.toList 32).toNat + 1) m.size, true) else (m, ⟨#[]⟩, false)
set_option maxRecDepth 100000 in
set_option maxHeartbeats 4000000 in
theorem index_sp (m : ByteArray) (w : World) : Calls Tryz.prog 148 #[.string m, .string ⟨#[32]⟩] w fun q w' => q = .returned (.int .i64 (Lib.indexByte m.data.toList 32)) ∧ w' = w := by
  have i1 := Tryz.stringslite_IndexByte m 32 w
  have e : (32 : Int).toNat.toUInt8 = (32 : UInt8) := by decide
  rw [e] at i1
  by_cases hm : m = ⟨#[32]⟩
  · subst hm
    clear i1 e
    have e2 : Lib.indexByte (ByteArray.mk #[32]).data.toList 32 = 0 := by decide
    rw [e2]
    clear e2
    go_enter Tryz.func148, Tryz.ntmps148
    go_wp2
    go_ret
    exact ⟨rfl, rfl⟩
  · have e2 : ((⟨#[32]⟩ : ByteArray).toList == m.toList) = false := ba_ne (fun h => hm h.symm)
    have e4 : (ByteArray.mk #[32]).toList = [32] := by simp [ByteArray.toList_eq]
    rw [e4] at e2
    clear e hm e4
    go_enter Tryz.func148, Tryz.ntmps148
    go_wp2_with (go_at_call 171; (refine i1.mono ?_); rintro q w1 ⟨rfl, rfl⟩)
    go_ret
    exact ⟨rfl, rfl⟩
set_option maxRecDepth 100000 in
set_option maxHeartbeats 4000000 in
theorem cutlite_sp (m : ByteArray) (hm : m.size ≤ 9223372036854775806) (w : World) : Calls Tryz.prog 121 #[.string m, .string ⟨#[32]⟩] w fun q w' => q = .returned (.tuple #[.string (spA m).1, .string (spA m).2.1, .bool (spA m).2.2]) ∧ Below w.heap.size w w' := by
  have i1 := index_sp m w
  obtain ⟨x, hx⟩ : ∃ x, Lib.indexByte m.data.toList 32 = x := ⟨_, rfl⟩
  have hb := indexByte_lt m.data.toList 32
  rw [dlen, hx] at hb
  rw [hx] at i1
  by_cases h0 : 0 ≤ x
  · obtain ⟨k, rfl⟩ : ∃ k : Nat, x = (k : Int) := ⟨x.toNat, by omega⟩
    have e : spA m = (m.extract 0 k, m.extract (k + 1) m.size, true) := by unfold spA; rw [hx, if_pos h0, Int.toNat_natCast]
    rw [e]
    have hk : k < m.size := by omega
    have HK := hid hk
    have r1 := fun W => run_slice_string_h (P := Tryz.prog) W 9 m Tryz.underlying9 .i64 (k : Int) (by omega) (by omega)
    have r2 := fun W => run_slice_string_l (P := Tryz.prog) W 9 m Tryz.underlying9 .i64 ((k + 1 : Nat) : Int) (by omega) (by omega)
    have t1 : IntKind.i64.wrap ((k : Int) + 1) = ((k + 1 : Nat) : Int) := by rw [IntKind.wrap_i64]; omega
    clear hx hb e
    go_enter Tryz.func121, Tryz.ntmps121
    go_wp2_with (go_at_call 148; (refine i1.mono ?_); rintro q w1 ⟨rfl, rfl⟩)
    go_quiet (fail)
    go_wp2
    go_ret3
    exact ⟨rfl, rfl, rfl, rfl, Nat.le_refl _, fun _ _ => rfl⟩
  · have e : spA m = (m, ⟨#[]⟩, false) := by unfold spA; rw [hx, if_neg h0]
    rw [e]
    clear hx hb e
    go_enter Tryz.func121, Tryz.ntmps121
    go_wp2_with (go_at_call 148; (refine i1.mono ?_); rintro q w1 ⟨rfl, rfl⟩)
    go_ret3
    exact ⟨rfl, Below.refl _ _⟩
set_option maxRecDepth 100000 in
set_option maxHeartbeats 4000000 in
theorem cut_sp (m : ByteArray) (hm : m.size ≤ 9223372036854775806) (w : World) : Calls Tryz.prog 99 #[.string m, .string ⟨#[32]⟩] w fun q w' => q = .returned (.tuple #[.string (spA m).1, .string (spA m).2.1, .bool (spA m).2.2]) ∧ Below w.heap.size w w' := by
  have i1 := cutlite_sp m hm w
  go_enter Tryz.func99, Tryz.ntmps99
  go_wp2_with (go_at_call 121; (refine i1.mono ?_); rintro q w1 ⟨rfl, b1⟩)
  go_ret3
  exact ⟨rfl, b1⟩
/-- what stands behind a signature's mark -/
def mkR (l : ByteArray) : ByteArray := ⟨(Lib.trimPrefix l.data.toList [45, 32]).toArray⟩
def mkB (l : ByteArray) : Bool := Lib.hasPrefix l.data.toList [45, 32]
/-- what a signature's line tells, and whether it is one -/
def sgA (l : ByteArray) : Sg := ((spA (mkR l)).1, ⟨(Tx.fromB64 (spA (mkR l)).2.1.data.toList).1.toArray⟩)
def sgO (l : ByteArray) : Bool := (mkB l && (spA (mkR l)).2.2) && decide ((Tx.fromB64 (spA (mkR l)).2.1.data.toList).2 = 0)
theorem mkR_size (l : ByteArray) : (mkR l).size ≤ l.size := by
  unfold mkR Lib.trimPrefix
  rw [sv_size]
  split
  · rw [List.length_drop, dlen]; omega
  · rw [dlen]; exact Nat.le_refl _
theorem spA_size (m : ByteArray) : (spA m).2.1.size ≤ m.size ∧ (spA m).1.size ≤ m.size := by
  unfold spA
  split
  · refine ⟨?_, ?_⟩
    · show (m.extract _ m.size).size ≤ _
      rw [ByteArray.size_extract]; omega
    · show (m.extract 0 _).size ≤ _
      rw [ByteArray.size_extract]; omega
  · exact ⟨Nat.zero_le _, Nat.le_refl _⟩
theorem sizeSgG (a b : Value) : (Tryz.prog.info? 32).map (·.size) = some #[a, b].size := by
  show _ = some 2
  kernel_rfl
theorem oneSgG (a b : ByteArray) : (#[Value.string a, .string b].all (·.oneCell')) = true := all_oneCell_toArray (cs := [Value.string a, .string b]) fun v hv => by
  simp only [List.mem_cons, List.not_mem_nil, or_false] at hv
  rcases hv with rfl | rfl <;> rfl
set_option maxRecDepth 100000 in
set_option maxHeartbeats 4000000 in
theorem signatureOf_any (l : ByteArray) (hl : l.size ≤ 140737488355328) (w : World) : Calls Tryz.prog 82 #[.string l] w fun q w' => q = .returned (.tuple #[.agg #[.string (sgA l).1, .string (sgA l).2], .bool (sgO l)]) ∧ Below w.heap.size w w' := by
  have b0 := hid ((Below.refl w.heap.size w).alloc (Nat.le_refl _) (.cells #[.string ⟨#[]⟩, .string ⟨#[]⟩] 32))
  have s0 := hid (heap_alloc_new w (.cells #[.string ⟨#[]⟩, .string ⟨#[]⟩] 32))
  obtain ⟨W, hW⟩ : ∃ W, w.alloc (.cells #[.string ⟨#[]⟩, .string ⟨#[]⟩] 32) = W := ⟨_, rfl⟩
  have i1 := Tryz.strings_CutPrefix l ⟨#[45, 32]⟩ W
  have z1 := mkR_size l
  have z2 := spA_size (mkR l)
  have i2 := fun w' => cut_sp (mkR l) (by omega) w'
  have i3 := fun w' => fromBase64_any (spA (mkR l)).2.1 (by omega) w'
  unfold sgA sgO sv at *
  show Calls _ _ _ _ fun q w' => q = .returned (.tuple #[.agg #[.string (spA (mkR l)).1, .string ⟨(Tx.fromB64 (spA (mkR l)).2.1.data.toList).1.toArray⟩], .bool _]) ∧ _
  have e1 : (⟨(Lib.trimPrefix l.data.toList (ByteArray.mk #[45, 32]).data.toList).toArray⟩ : ByteArray) = mkR l := rfl
  have e2 : Lib.hasPrefix l.data.toList (ByteArray.mk #[45, 32]).data.toList = mkB l := rfl
  rw [e1, e2] at i1
  clear e1 e2 z1 z2
  generalize spA (mkR l) = P at *
  generalize mkR l = M at *
  generalize mkB l = B at *
  obtain ⟨P1, P2, P3⟩ := P
  generalize Tx.fromB64 P2.data.toList = D at *
  obtain ⟨D1, D2⟩ := D
  simp only at i2 i3 ⊢
  have HW := hid hW
  unfold Hid at s0 b0
  rw [hW] at b0 s0
  obtain ⟨g, hg⟩ : ∃ g, w.heap.size = g := ⟨_, rfl⟩
  rw [hg] at s0
  have s0 := hid s0
  have b0 := hid b0
  have HG := hid hg
  clear hW hg
  go_enter Tryz.func82, Tryz.ntmps82
  go_upto_region 1 with fail
  rw [HW.out, HG.out]
  have fin : ∀ w3 : World, Below W.heap.size W w3 → w3.heap[g]? = some (.cells #[.string ⟨#[]⟩, .string ⟨#[]⟩] 32 (0, 0)) := fun w3 b => (b.block g (lt_of_heap s0.out)).trans s0.out
  have HF := hid fin
  have glt := hid (lt_of_heap s0.out)
  clear fin
  go_wp2_with (first
    | (go_at_call 98; (refine i1.mono ?_); rintro q w1 ⟨rfl, rfl⟩)
    | (go_at_call 99; (refine (i2 _).mono ?_); rintro q w2 ⟨rfl, b2⟩)
    | (go_at_call 81; (refine (i3 _).mono ?_); rintro q w3 ⟨rfl, b3⟩; have b4 := hid (b2.trans (b3.mono b2.size)); have S3 := hid (HF.out _ b4.out))
    | ((with_reducible show wpList _ _ _ (Oper.mk _ (Op.store 32 _ _) _ _ _ _ :: _) _ _); go_must (refine wpList_store_row rfl 32 _ _ rfl g _ rfl rfl 32 _ S3.out (sizeSgG _ _) rfl (oneSgG _ _) ?_)))
  all_goals refine bodyPost_ret (results_row_tmp22 rfl _ _ g 32 _ (0, 0) _ rfl (setRow_heap _ _ _ _ _ _ S3.out) Tryz.underlying32 rfl (sizeSgG _ _)) rfl ⟨?_, ?_⟩
  all_goals try exact b0.out.trans (Below.setRow (b4.out.mono b0.out.size) (by rw [← HG.out]; exact Nat.le_refl _) _)
  all_goals refine congrArg (fun b => Ending.returned (Value.tuple #[.agg #[.string P1, .string ⟨D1.toArray⟩], Value.bool b])) ?_
  all_goals clear i1 i2 HW HF s0 b0 S3 b4 b3 b2
  all_goals (cases B <;> cases P3 <;> first | rfl | (exfalso; rename_i h1; exact absurd rfl h1) | (exfalso; rename_i h1 h2; exact absurd h1 Bool.false_ne_true) | (exfalso; rename_i h1 h2; exact absurd h2 Bool.false_ne_true) | (exfalso; simp_all; done))
end Nt
end Go.Proofs.YtdbbemcddhgbcaaGreatDoor

/- Base64 AS THE REFERENCE READS IT: loosely, and written again. -/
namespace Go.Proofs.YtdbbemcddhgbcaaGreatDoor.Tx
open Go

def lval (c : Nat) : Nat := (val c).getD 0
theorem lval_lt (c : Nat) : lval c < 64 := by
  unfold lval
  cases h : val c with
  | none => simp
  | some x => have := val_lt h; simpa using this
def lw (g : List UInt8) : Nat → Nat
  | 0 => 0
  | k + 1 => 64 * lw g k + lval (g.getD k 0).toNat
theorem lw_lt (g : List UInt8) : ∀ k, lw g k < 64 ^ k
  | 0 => by simp [lw]
  | k + 1 => by
    have := lw_lt g k
    have h2 := lval_lt (g.getD k 0).toNat
    rw [lw, Nat.pow_succ]; omega
def bd (g : List UInt8) : Nat → Nat
  | 0 => 0
  | k + 1 => bd g k + (if val (g.getD k 0).toNat = none then 1 else 0)
theorem bd_le (g : List UInt8) : ∀ k, bd g k ≤ k
  | 0 => by simp [bd]
  | k + 1 => by
    have := bd_le g k
    rw [bd]; split <;> omega
def lgrp (g : List UInt8) : Option (List UInt8) := if bd g 4 < 3 then some (bytesOf (lw g 4) (bd g 4)) else none
def loose : List UInt8 → Option (List UInt8)
  | a :: b :: c :: d :: l => match lgrp [a, b, c, d], loose l with
    | some x, some r => some (x ++ r)
    | _, _ => none
  | [] => some []
  | _ => none
theorem lval_mod (n : Nat) : lval (sgn (n % 64)).toNat = n % 64 := by rw [lval, val_mod]; rfl
theorem lval_61 : lval (61 : UInt8).toNat = 0 := by decide
theorem val_61' : val (61 : UInt8).toNat = none := by decide
theorem lgrp1 (a : UInt8) : lgrp (grp [a]) = some [a] := by
  have ha := UInt8.toNat_lt a
  have e := word1 a
  rw [grp1]
  generalize word3 [a] = n at *
  have hb : bd [sgn (n / 2 ^ 18 % 64), sgn (n / 2 ^ 12 % 64), 61, 61] 4 = 2 := by simp only [bd, List.getD_cons_zero, List.getD_cons_succ, val_mod, val_61']; simp
  have hl : lw [sgn (n / 2 ^ 18 % 64), sgn (n / 2 ^ 12 % 64), 61, 61] 4 = n := by simp only [lw, List.getD_cons_zero, List.getD_cons_succ, lval_mod, lval_61]; omega
  rw [lgrp, hb, hl, if_pos (by omega)]
  simp only [bytesOf, show 3 - 2 = 1 from rfl, List.take_succ_cons, List.take_zero]
  rw [u8_eq (show n / 65536 % 256 = a.toNat by omega)]
theorem lgrp2 (a b : UInt8) : lgrp (grp [a, b]) = some [a, b] := by
  have ha := UInt8.toNat_lt a
  have hb := UInt8.toNat_lt b
  have e := word2 a b
  rw [grp2]
  generalize word3 [a, b] = n at *
  have hbd : bd [sgn (n / 2 ^ 18 % 64), sgn (n / 2 ^ 12 % 64), sgn (n / 2 ^ 6 % 64), 61] 4 = 1 := by simp only [bd, List.getD_cons_zero, List.getD_cons_succ, val_mod, val_61']; simp
  have hl : lw [sgn (n / 2 ^ 18 % 64), sgn (n / 2 ^ 12 % 64), sgn (n / 2 ^ 6 % 64), 61] 4 = n := by simp only [lw, List.getD_cons_zero, List.getD_cons_succ, lval_mod, lval_61]; omega
  rw [lgrp, hbd, hl, if_pos (by omega)]
  simp only [bytesOf, show 3 - 1 = 2 from rfl, List.take_succ_cons, List.take_zero]
  rw [u8_eq (show n / 65536 % 256 = a.toNat by omega), u8_eq (show n / 256 % 256 = b.toNat by omega)]
theorem lgrp3 (a b c : UInt8) : lgrp (grp [a, b, c]) = some [a, b, c] := by
  have ha := UInt8.toNat_lt a
  have hb := UInt8.toNat_lt b
  have hc := UInt8.toNat_lt c
  have e := word33 a b c
  rw [grp3]
  generalize word3 [a, b, c] = n at *
  have hbd : bd [sgn (n / 2 ^ 18 % 64), sgn (n / 2 ^ 12 % 64), sgn (n / 2 ^ 6 % 64), sgn (n % 64)] 4 = 0 := by simp only [bd, List.getD_cons_zero, List.getD_cons_succ, val_mod]; simp
  have hl : lw [sgn (n / 2 ^ 18 % 64), sgn (n / 2 ^ 12 % 64), sgn (n / 2 ^ 6 % 64), sgn (n % 64)] 4 = n := by simp only [lw, List.getD_cons_zero, List.getD_cons_succ, lval_mod]; omega
  rw [lgrp, hbd, hl, if_pos (by omega)]
  simp only [bytesOf, show 3 - 0 = 3 from rfl, List.take_succ_cons, List.take_zero]
  rw [u8_eq (show n / 65536 % 256 = a.toNat by omega), u8_eq (show n / 256 % 256 = b.toNat by omega), u8_eq (show n % 256 = c.toNat by omega)]
theorem loose_of (g l : List UInt8) (hg : g.length = 4) : loose (g ++ l) = (match lgrp g, loose l with
    | some x, some r => some (x ++ r)
    | _, _ => none) := by
  match g, hg with
  | [a, b, c, d], _ => rfl
theorem loose_b64 : ∀ l, loose (b64 l) = some l
  | [] => rfl
  | [a] => by
    have := loose_of (grp [a]) [] (grp_length _ (by simp) (by simp))
    rw [List.append_nil, lgrp1] at this
    rw [b64, this]; rfl
  | [a, b] => by
    have := loose_of (grp [a, b]) [] (grp_length _ (by simp) (by simp))
    rw [List.append_nil, lgrp2] at this
    rw [b64, this]; rfl
  | a :: b :: c :: l => by
    have := loose_of (grp [a, b, c]) (b64 l) (grp_length _ (by simp) (by simp))
    rw [lgrp3, loose_b64 l] at this
    rw [b64, this]; rfl
theorem loose_none {l : List UInt8} (h : loose l = none) : fromB64 l = ([], 11) := by
  rw [fromB64]
  cases hu : unb64 l with
  | none => rfl
  | some r =>
    have := loose_b64 r
    rw [b64_unb64 l r hu, h] at this
    cases this
theorem loose_ne {l r : List UInt8} (h : loose l = some r) (hne : b64 r ≠ l) : fromB64 l = ([], 11) := by
  rw [fromB64]
  cases hu : unb64 l with
  | none => rfl
  | some r' =>
    have e := b64_unb64 l r' hu
    have := loose_b64 r'
    rw [e, h] at this
    cases this
    exact (hne e).elim
theorem loose_eq {l r : List UInt8} (h : b64 r = l) : fromB64 l = (r, 0) := by
  rw [fromB64, ← h, unb64_b64]
theorem loose_four (l : List UInt8) (h : 4 ≤ l.length) : loose l = (match lgrp (l.take 4), loose (l.drop 4) with
    | some x, some r => some (x ++ r)
    | _, _ => none) := by
  match l, h with
  | a :: b :: c :: d :: l, _ => rfl
theorem loose_step (l r x : List UInt8) (k : Nat) (hk : 4 * k + 4 ≤ l.length) (hr : loose l = (loose (l.drop (4 * k))).map (r ++ ·)) (hx : lgrp ((l.drop (4 * k)).take 4) = some x) :
    loose l = (loose (l.drop (4 * (k + 1)))).map ((r ++ x) ++ ·) := by
  rw [hr, loose_four (l.drop (4 * k)) (by simp; omega), List.drop_drop, hx, show 4 * k + 4 = 4 * (k + 1) from by omega]
  cases loose (l.drop (4 * (k + 1))) <;> simp
theorem loose_bad (l r : List UInt8) (k : Nat) (hk : 4 * k + 4 ≤ l.length) (hr : loose l = (loose (l.drop (4 * k))).map (r ++ ·)) (hx : lgrp ((l.drop (4 * k)).take 4) = none) : loose l = none := by
  rw [hr, loose_four (l.drop (4 * k)) (by simp; omega), hx]
  rfl
end Go.Proofs.YtdbbemcddhgbcaaGreatDoor.Tx

namespace Go.Proofs.YtdbbemcddhgbcaaGreatDoor
open Go.RowKit

theorem rb64_at {s x : ByteArray} (h : Hid (Tx.b64 s.data.toList = x.data.toList)) (hs : s.size ≤ 70368744177664) (w : World) :
    Calls Tryz.prog 28 #[.string s] w fun e w' => e = .returned (.string x) ∧ Below w.heap.size w w' := by
  have := rbase64_any s hs w
  rwa [h.out, ← sv_eta] at this
theorem mid_getD4 (l : List UInt8) (a j : Nat) (hj : j < 4) : ((l.drop a).take 4).getD j 0 = l.getD (a + j) 0 := by
  simp only [List.getD_eq_getElem?_getD, List.getElem?_take, List.getElem?_drop, if_pos hj]
theorem lval_some {c p : Nat} (h : Tx.val c = some p) : Tx.lval c = p := by rw [Tx.lval, h]; rfl
theorem lval_none {c : Nat} (h : Tx.val c = none) : Tx.lval c = 0 := by rw [Tx.lval, h]; rfl

set_option maxRecDepth 100000 in
set_option maxHeartbeats 2000000 in
theorem rfromBase64_any (s : ByteArray) (hs : s.size ≤ 70368744177664) (w : World) :
    Calls Tryz.prog 67 #[.string s] w fun e w' => e = .returned (.tuple #[sv (Tx.fromB64 s.data.toList).1, .int .i64 (Tx.fromB64 s.data.toList).2]) ∧ Below w.heap.size w w' := by
  have hs' : (s.size : Int) ≤ 70368744177664 := by omega
  by_cases hodd : s.size % 4 = 0
  · have g0 : ((s.size : Int) % 4 != 0) = false := by simp; omega
    go_enter Tryz.func67, Tryz.ntmps67
    go_wp2
    go_loopw [4, 5, 6, 7, 8, 9, 10] (fun v i _ _ _ _ _ w' => ∃ (k : Nat) (r : List UInt8), 4 * k ≤ s.size ∧ i = .int .i64 ((4 * k : Nat) : Int) ∧ r.length ≤ 3 * k ∧ Hid (Tx.loose s.data.toList = (Tx.loose (s.data.toList.drop (4 * k))).map (r ++ ·)) ∧ Hid (OwnB w' w.heap.size v r) ∧ Hid (Below w.heap.size w w')) (fun _ i _ _ _ _ _ _ => s.size - (intOf i).toNat)
    case atStart => exact ⟨0, [], by omega, rfl, by simp, (by unfold Hid; rw [Nat.mul_zero, List.drop_zero]; cases Tx.loose s.data.toList <;> simp), Own.nil _ _, Below.refl _ _⟩
    case round =>
      obtain ⟨k, r, hk, rfl, hrl, hr, hown, hb⟩ := hrel
      by_cases hlt : 4 * k < s.size
      · have hlt' : ((4 * k : Nat) : Int) < (s.size : Int) := by omega
        have hk4 : 4 * k + 4 ≤ s.size := by omega
        obtain ⟨g, hg⟩ : ∃ g, Hid (g = (s.data.toList.drop (4 * k)).take 4) := ⟨_, rfl⟩
        have hgd : Hid (∀ j, j < 4 → g.getD j 0 = s.data.toList.getD (4 * k + j) 0) := fun j hj => by rw [hg.out, mid_getD4 _ _ _ hj]
        go_wp2
        go_loopw [6, 7, 8, 9] (fun n m i _ w' => ∃ j : Nat, j ≤ 4 ∧ i = .int .i64 j ∧ n = .int .i64 (Tx.lw g j : Nat) ∧ m = .int .i64 (3 - (Tx.bd g j : Int)) ∧ Hid (OwnB w' w.heap.size u4 r) ∧ Hid (Below w.heap.size w w')) (fun _ _ i _ _ => 4 - (intOf i).toNat)
        case atStart => exact ⟨0, by omega, rfl, rfl, rfl, hown, hb⟩
        case round =>
          clear hown hb
          obtain ⟨j, hj, rfl, rfl, rfl, hown, hb⟩ := hrel
          by_cases hj4 : j < 4
          · have b0 : (j : Int) < 4 := by omega
            have hl2 : 4 * (k : Int) < (s.size : Int) := by omega
            have hin' : 4 * (k : Int) + (j : Int) < (s.size : Int) := by omega
            obtain ⟨x, ex, lx, _, jx⟩ := index_any s (4 * (k : Int) + (j : Int)) (4 * k + j) (by omega) (by omega)
            have t1 : (4 * (k : Int) + (j : Int)).toNat = 4 * k + j := by omega
            have lw : Tx.lw g j < 262144 := by
              have := Tx.lw_lt g j
              have h2 : 64 ^ j ≤ 64 ^ 3 := Nat.pow_le_pow_right (by decide) (by omega)
              omega
            have lb := Tx.bd_le g j
            have hlw := hid (show Tx.lw g (j + 1) = 64 * Tx.lw g j + Tx.lval (g.getD j 0).toNat from rfl)
            have hbd := hid (show Tx.bd g (j + 1) = Tx.bd g j + (if Tx.val (g.getD j 0).toNat = none then 1 else 0) from rfl)
            rw [hgd.out j hj4, ← ex.out] at hlw hbd
            obtain ⟨p, hp⟩ : ∃ p, Hid (sgnAt x Tx.tab 0 = p) := ⟨_, rfl⟩
            have hx := b64_signs x lx
            rw [hp.out] at hx
            go_wp2_with (go_at_call 90; fail)
            refine (sign_at (tab := Tx.tab) hp (by rw [Tx.tab_length]; omega) _).mono ?_
            rintro e w' ⟨rfl, hw'⟩
            rw [hw']
            clear hw' w'
            rcases hx with ⟨rfl, hx⟩ | ⟨p, rfl, hx, lp⟩
            · rw [lval_none hx] at hlw
              rw [if_pos hx] at hbd
              clear hx
              generalize Tx.lw g j = a at *
              generalize Tx.bd g j = f at *
              go_wp2
              refine ⟨?_, by simp [intOf]; omega⟩
              repeat apply Exists.intro
              refine And.intro ?rel ?fr
              case fr =>
                simp only [decide_eq_true hl2]
                rfl
              case rel => exact ⟨j + 1, by omega, by go_num, val_int (by rw [hlw.out]; omega), val_int (by rw [hbd.out]; omega), hown, hb⟩
            · rw [lval_some hx] at hlw
              rw [if_neg (by rw [hx]; simp)] at hbd
              have p0 : ¬ (p : Int) < 0 := by omega
              clear hx
              generalize Tx.lw g j = a at *
              generalize Tx.bd g j = f at *
              go_wp2
              refine ⟨?_, by simp [intOf]; omega⟩
              repeat apply Exists.intro
              refine And.intro ?rel ?fr
              case fr =>
                simp only [decide_eq_true hl2]
                rfl
              case rel => exact ⟨j + 1, by omega, by go_num, val_int (by rw [hlw.out]; omega), val_int (by rw [hbd.out]; omega), hown, hb⟩
          · obtain rfl : j = 4 := by omega
            have ln : Tx.lw g 4 < 16777216 := Tx.lw_lt g 4
            have lf := Tx.bd_le g 4
            have hgr := hid (show Tx.lgrp g = if Tx.bd g 4 < 3 then some (Tx.bytesOf (Tx.lw g 4) (Tx.bd g 4)) else none from rfl)
            generalize Tx.lw g 4 = n at *
            generalize Tx.bd g 4 = f at *
            by_cases hf : f < 3
            · rw [if_pos hf] at hgr
              have hm : ¬ 3 - (f : Int) < 1 := by omega
              have hst := hid (Tx.loose_step s.data.toList r (Tx.bytesOf n f) k (by rw [data_length]; exact hk4) hr.out (by rw [← hg.out]; exact hgr.out))
              go_wp2
              go_loopw [4, 10] (fun v i w' => ∃ j : Nat, j ≤ 3 - f ∧ i = .int .i64 j ∧ Hid (OwnB w' w.heap.size v (r ++ (Tx.bytesOf n f).take j)) ∧ Hid (Below w.heap.size w w')) (fun _ i _ => 3 - f - (intOf i).toNat)
              case atStart => exact ⟨0, by omega, rfl, hid (by simpa using hown.out), hb⟩
              case round =>
                clear hown hb
                obtain ⟨j, hj, rfl, hown, hb⟩ := hrel
                by_cases hjl : j < 3 - f
                · have j1 : (j : Int) < 3 - (f : Int) := by omega
                  have j2 : (j : Int) ≤ 2 := by omega
                  have hbyte := Tx.byte_mod n (16 - 8 * j)
                  obtain ⟨v3, w3, hc, hown3, hg3, _⟩ := append_new wr w.heap.size u4 _ [UInt8.ofNat (n / 2 ^ (16 - 8 * j))] 1 #[.int .u8 (UInt8.ofNat (n / 2 ^ (16 - 8 * j))).toNat] rfl rfl hown.out (by rw [List.length_append, List.length_take, Tx.bytesOf_length]; omega) hb.out.size (by omega)
                  rw [List.append_assoc, ← Tx.bytesOf_take n f j hjl] at hown3
                  have Hown3 := hid hown3
                  have Hb3 := hid (hb.out.trans (Below.ofGrown hg3 hown.out.ge hb.out.size))
                  clear hown3 hg3
                  generalize (UInt8.ofNat (n / 2 ^ (16 - 8 * j))).toNat = q2 at *
                  go_wp2_with (at_builtin; go_must (refine Lib.wpList_append_run _ rfl _ _ 43 43 rfl _ _ rfl rfl _ _ hc ?_))
                  first | exact ⟨⟨j + 1, by omega, by go_num, Hown3, Hb3⟩, by simp [intOf]; omega⟩ | (refine ⟨?_, by simp [intOf]; omega⟩; (repeat apply Exists.intro); exact ⟨⟨j + 1, by omega, by go_num, Hown3, Hb3⟩, rfl⟩)
                · obtain rfl : j = 3 - f := by omega
                  have j1 : ¬ ((3 - f : Nat) : Int) < 3 - (f : Int) := by omega
                  have hall := hown.out
                  rw [Tx.bytesOf_all] at hall
                  have Hall := hid hall
                  clear hall
                  go_wp2
                  exact ⟨⟨k + 1, r ++ Tx.bytesOf n f, by omega, by go_num, by rw [List.length_append, Tx.bytesOf_length]; omega, hst, Hall, hb⟩, by simp [intOf]; omega⟩
            · rw [if_neg hf] at hgr
              have hm : 3 - (f : Int) < 1 := by omega
              have hbad : Hid (Tx.fromB64 s.data.toList = ([], 11)) := Tx.loose_none (Tx.loose_bad s.data.toList r k (by rw [data_length]; exact hk4) hr.out (by rw [← hg.out]; exact hgr.out))
              go_wp2
              go_ret2
              exact ⟨by rw [hbad.out]; rfl, hb.out⟩
      · have hlt' : ¬ ((4 * k : Nat) : Int) < (s.size : Int) := by omega
        have hlo : Hid (Tx.loose s.data.toList = some r) := by
          have := hr.out
          rw [List.drop_eq_nil_of_le (by rw [data_length]; omega), Tx.loose] at this
          unfold Hid
          rw [this]; simp
        obtain ⟨rb, rfl⟩ := ba_exists r
        have hcv := conv_all hown.out
        rw [← sv_eta] at hcv
        obtain ⟨t, ht⟩ := ba_exists (Tx.b64 rb.data.toList)
        have Ht := hid ht
        have hrs : rb.size ≤ 70368744177664 := by rw [← data_length]; omega
        clear ht hr
        by_cases heq : Tx.b64 rb.data.toList = s.data.toList
        · have y : (t.toList == s.toList) = true := by rw [ByteArray.toList_eq, ByteArray.toList_eq, ← Ht.out, heq]; simp
          have hfin := hid (Tx.loose_eq heq)
          clear heq
          go_wp2_with (go_at_call 28; fail)
          refine (rb64_at Ht hrs _).mono ?_
          rintro e w1 ⟨rfl, hw1⟩
          have B1 := hb.out.trans (hw1.mono hb.out.size)
          have hcv1 := conv_all (hown.out.below hw1 (Nat.le_refl _))
          rw [← sv_eta] at hcv1
          go_wp2
          go_ret2
          exact ⟨by rw [hfin.out]; rfl, B1⟩
        · have y : (t.toList == s.toList) = false := by
            rw [ByteArray.toList_eq, ByteArray.toList_eq, ← Ht.out]
            exact Bool.eq_false_iff.2 (fun h => heq (eq_of_beq h))
          have hbad := hid (Tx.loose_ne hlo.out heq)
          clear heq
          go_wp2_with (go_at_call 28; fail)
          refine (rb64_at Ht hrs _).mono ?_
          rintro e w1 ⟨rfl, hw1⟩
          have B1 := hb.out.trans (hw1.mono hb.out.size)
          go_wp2
          go_ret2
          exact ⟨by rw [hbad.out]; rfl, B1⟩
  · have g0 : ((s.size : Int) % 4 != 0) = true := by simp; omega
    have hf : Hid (Tx.fromB64 s.data.toList = ([], 11)) := by show _ = _; rw [Tx.fromB64, Tx.unb64_odd _ (by rw [data_length]; exact hodd)]
    go_enter Tryz.func67, Tryz.ntmps67
    go_wp2
    go_ret2
    exact ⟨by rw [hf.out]; rfl, Below.refl _ _⟩
end Go.Proofs.YtdbbemcddhgbcaaGreatDoor
