import Derived.Test.YtfddkmkibfmmgaaDoorCTL36
import Derived.BigQuiet
namespace Go.Proofs.YtfddkmkibfmmgaaDoor
open Go.RowKit
/-- T3: a tile's hashes, or none -/
def RtP (w : World) (l : List (List UInt8)) (r : Ending) (w' : World) : Prop :=
  Below w.heap.size w w' ∧ if l = [] then r = .returned (.tuple #[.slice none 0 0, .int .i64 72]) else ∃ v, r = .returned (.tuple #[v, .int .i64 0]) ∧ Own w' w.heap.size v (svs l)
set_option maxRecDepth 100000 in
set_option maxHeartbeats 1000000 in
theorem rTile_bad {w : World} {q h : Nat} {L : List (List UInt8)} {F : Nat → Prop} (t : RtL w q h L F) (l i : Int) (hb : l < 0 ∨ 30 < l ∨ i < 0 ∨ 1048576 < i) :
    Calls Tryd.prog 72 #[.pointer (some ⟨q, 0, none⟩), .int .i64 l, .int .i64 i] w (RtP w (tileO L h l i)) := by
  rw [tileO_bad t.n20 hb]
  have fin : RtP w [] (.returned (.tuple #[.slice none 0 0, .int .i64 72])) w := ⟨Below.refl _ _, by rw [if_pos rfl]⟩
  clear t
  by_cases h0 : l < 0
  · go_enter Tryd.func72, Tryd.ntmps72
    go_wp2
    go_ret2
    exact fin
  · by_cases h1 : l > 30
    · go_enter Tryd.func72, Tryd.ntmps72
      go_wp2
      go_ret2
      exact fin
    · by_cases h2 : i < 0
      · go_enter Tryd.func72, Tryd.ntmps72
        go_wp2
        go_ret2
        exact fin
      · have h3 : i > 1048576 := by omega
        go_enter Tryd.func72, Tryd.ntmps72
        go_wp2
        go_ret2
        exact fin
set_option maxRecDepth 100000 in
set_option maxHeartbeats 1000000 in
theorem rTile_ok {w : World} {q h : Nat} {L : List (List UInt8)} {F : Nat → Prop} (t : RtL w q h L F) (l i : Nat) (hl : l ≤ 30) (hi : i ≤ 1048576) :
    Calls Tryd.prog 72 #[.pointer (some ⟨q, 0, none⟩), .int .i64 (l : Int), .int .i64 (i : Int)] w (RtP w (rp L h l i (2 ^ h))) := by
  have HT := hid t
  have h8 := t.h8
  have n20 := t.n20
  have hqlt : q < w.heap.size := t.lt q (by obtain ⟨⟨v, _, _, _, rfl⟩, _⟩ := t; exact .inl rfl)
  clear t
  have k0 : ¬ (l : Int) < 0 := by omega
  have k1 : ¬ (l : Int) > 30 := by omega
  have k2 : ¬ (i : Int) < 0 := by omega
  have k3 : ¬ (i : Int) > 1048576 := by omega
  obtain ⟨H, hH⟩ : ∃ H : Nat, Hid (2 ^ h = H) := ⟨_, rfl⟩
  have hH8 : H ≤ 256 := by rw [← hH.out]; exact Nat.pow_le_pow_right (n := 2) (by omega) h8
  have hlh : l * h ≤ 30 * 8 := Nat.mul_le_mul hl h8
  have hih : i * H ≤ 1048576 * 256 := Nat.mul_le_mul hi hH8
  have p1 : (2 : Int) ^ h = (H : Int) := by rw [← hH.out]; simp
  have s0 : IntKind.i64.wrap ((2 : Int) ^ h) = (H : Int) := by rw [p1]; exact wrap_small _ (by omega) (by omega)
  have s0' : IntKind.i64.wrap ((1 : Int) * 2 ^ h) = (H : Int) := by rw [p1]; rw [wrap_small _ (by omega) (by omega)]; omega
  obtain ⟨lh, hlh2⟩ : ∃ x : Nat, Hid (l * h = x) := ⟨_, rfl⟩
  obtain ⟨ih, hih2⟩ : ∃ x : Nat, Hid (i * H = x) := ⟨_, rfl⟩
  rw [hlh2.out] at hlh
  rw [hih2.out] at hih
  have s1 : IntKind.i64.wrap ((l : Int) * (h : Int)) = (lh : Int) := by rw [← Int.natCast_mul, hlh2.out]; exact wrap_small _ (by omega) (by omega)
  have s2 : IntKind.i64.wrap ((i : Int) * 2 ^ h) = (ih : Int) := by rw [p1, ← Int.natCast_mul, hih2.out]; exact wrap_small _ (by omega) (by omega)
  rw [hH.out]
  clear p1
  go_enter Tryd.func72, Tryd.ntmps72
  go_wp2
  go_loopw [8, 9] (fun lv tv w' => ∃ k : Nat, k ≤ H ∧ tv = .int .i64 (k : Int) ∧ Hid (Own w' w.heap.size lv (svs (rp L h l i k))) ∧ Hid (Below w.heap.size w w')) (fun _ tv _ => H - (intOf tv).toNat)
  case atStart => exact ⟨0, by omega, rfl, by unfold Hid; rw [rp_zero]; exact Own.nil _ _, hid (Below.refl _ _)⟩
  case round =>
    obtain ⟨k, hk, rfl, hO, hB⟩ := hrel
    obtain ⟨a1, c1, rfl, _, _, _⟩ := hO.out.at
    have T1 := hid (HT.out.below hB.out)
    obtain ⟨a, c, r2, _, _, _, hA, hLc, hc9⟩ := T1.out.open
    have q0 : wr.cell? ⟨q, 0, none⟩ = some (.int .i64 (h : Int)) := by rw [cell_of_row _ _ _ _ _ _ r2]; rfl
    have q1 : wr.cell? ⟨q, 1, none⟩ = some (.slice a L.length c) := by rw [cell_of_row _ _ _ _ _ _ r2]; rfl
    have hqr : q < wr.heap.size := lt_of_heap r2
    clear r2
    have hdw : Below wr.heap.size wr wr.drew := (Below.refl _ _).drew
    have rl := rp_len L h l i k
    by_cases hkH : k < H
    · have cc : (k : Int) < (H : Int) := by omega
      obtain ⟨j, hj⟩ : ∃ j : Nat, ih + k = j := ⟨_, rfl⟩
      have s3 : IntKind.i64.wrap ((ih : Int) + (k : Int)) = (j : Int) := by rw [wrap_small _ (by omega) (by omega)]; omega
      have iC := rcomplete_nat (T1.out.below hdw) lh j
      have ek : i * 2 ^ h + k = j := by rw [hH.out, hih2.out]; exact hj
      have n2 : IntKind.i64.wrap ((k : Int) + 1) = (k : Int) + 1 := wrap_small _ (by omega) (by omega)
      have RL := hid rl
      clear hj rl
      by_cases hd : (j + 1) * 2 ^ lh ≤ L.length
      · rw [decide_eq_true hd] at iC
        have hrp := rp_yes (L := L) (h := h) (l := l) (i := i) (k := k) (by rw [ek, hlh2.out]; exact hd)
        rw [ek, hlh2.out] at hrp
        obtain ⟨x, hx⟩ : ∃ x, Til.hs L lh j = x := ⟨_, rfl⟩
        rw [hx] at hrp
        unfold Til.hs at hx
        have hp := Nat.two_pow_pos lh
        have hbe : j * 2 ^ lh < (j + 1) * 2 ^ lh := by rw [Nat.add_mul, Nat.one_mul]; omega
        obtain ⟨y, rfl⟩ := hA.pos (by omega)
        have hlen := Til.sg_len (L := L) (b := j * 2 ^ lh) hd
        have i2 := fun w' (bb : Below wr.heap.size wr w') => hash7_any _ (Til.sg L (j * 2 ^ lh) ((j + 1) * 2 ^ lh)) (some (y.add (j * 2 ^ lh))) (c - j * 2 ^ lh) w' (Nat.le_refl _) (by omega) (by omega) (by omega) (Til.sg_hs T1.out.hs _ _) ((hA.sg _ _).below bb (Nat.le_refl _))
        rw [hlen, hx, svS x] at i2
        have iD := iC.mono (R' := fun r w' => r = .returned (.tuple #[.int .i64 ((j * 2 ^ lh : Nat) : Int), .int .i64 (((j + 1) * 2 ^ lh : Nat) : Int), .bool true]) ∧ Below wr.heap.size wr w') (by
          rintro r w' ⟨b, e, rfl, hw, hq⟩
          obtain ⟨rfl, rfl⟩ := hq hd
          exact ⟨rfl, hdw.trans (hw.mono hdw.size)⟩)
        clear hA hlen hx hp ek iC HT
        generalize j * 2 ^ lh = b at *
        generalize (j + 1) * 2 ^ lh = e at *
        generalize hm : (rp L h l i k).length = m at *
        generalize L.length = n at *
        have m0 : (0 : Int) ≤ (b : Int) := by omega
        have m1 : (b : Int) ≤ (e : Int) := by omega
        have m2 : (e : Int) ≤ (c : Int) := by omega
        have hne : ¬ c = b := by omega
        go_wp2
        go_region_held3 (fun w' => w'.cell? ⟨q, 0, none⟩ = some (.int .i64 (h : Int))) (first | exact q0 | exact S3) ((go_at_call 86; with_reducible refine iD.mono ?_; rintro r w3 ⟨rfl, hw3⟩; have S3 := (hw3.cell (p := ⟨q, 0, none⟩) hqr).trans q0))
        have d1 := (hw3.cell (p := ⟨q, 1, none⟩) hqr).trans q1
        have i3 := i2 w3 hw3
        clear i2 iD q1 S3 q0
        go_wp2_with (go_at_call 87; fail)
        refine i3.mono ?_
        rintro r w4 ⟨rfl, hw4⟩
        have B4 := hid (hB.out.trans ((hw3.trans (hw4.mono hw3.size)).mono hB.out.size))
        have O4 := hO.out.below (hw3.trans (hw4.mono hw3.size)) (Nat.le_refl _)
        obtain ⟨v', w5, hap, o5, g5⟩ := append_S w4 w.heap.size _ (rp L h l i k) x O4 (by have := RL.out; omega) B4.out.size
        rw [← hrp] at o5
        have B5 := hid (B4.out.trans ⟨g5.os, g5.tape, g5.output, g5.size, fun k' hk' => g5.old k' (Nat.lt_of_lt_of_le hk' B4.out.size) fun e' => by have := O4.ge k' e'; omega⟩)
        obtain ⟨a5, c5, rfl, _, _, _⟩ := o5.at
        have O5 := hid o5
        clear i3 O4 g5 o5 hO hB hw3 hw4 B4 hrp
        generalize (rp L h l i (k + 1)).length = m' at *
        go_wp2_with (at_builtin; go_must (refine Lib.wpList_append_run _ rfl _ _ 33 33 rfl _ _ rfl rfl _ _ hap ?_); clear hap)
        exact ⟨⟨k + 1, by omega, by go_num, O5, B5⟩, by simp [intOf]; omega⟩
      · rw [decide_eq_false hd] at iC
        have hrp := rp_no (L := L) (h := h) (l := l) (i := i) (k := k) (by rw [ek, hlh2.out]; exact hd)
        have iD := iC.mono (R' := fun r w' => ∃ b e : Nat, r = .returned (.tuple #[.int .i64 (b : Int), .int .i64 (e : Int), .bool false]) ∧ Below wr.heap.size wr w') (by
          rintro r w' ⟨b, e, rfl, hw, hq⟩
          exact ⟨b, e, rfl, hdw.trans (hw.mono hdw.size)⟩)
        clear iC hA ek hd HT
        go_wp2
        go_region_held3 (fun w' => w'.cell? ⟨q, 0, none⟩ = some (.int .i64 (h : Int))) (first | exact q0 | exact S3) ((go_at_call 86; with_reducible refine iD.mono ?_; rintro r w3 ⟨b, e, rfl, hw3⟩; have S3 := (hw3.cell (p := ⟨q, 0, none⟩) hqr).trans q0))
        have B5 := hid (hB.out.trans (hw3.mono hB.out.size))
        have O5 := hid (hO.out.below hw3 (Nat.le_refl _))
        have O5 := O5.out
        rw [← hrp] at O5 ⊢
        have O5 := hid O5
        go_wp2
        exact ⟨⟨k + 1, by omega, by go_num, O5, B5⟩, by simp [intOf]; omega⟩
    · obtain rfl : k = H := by omega
      have cc : ¬ (k : Int) < (k : Int) := by omega
      have fin : ∀ r, (if rp L h l i k = [] then r = .returned (.tuple #[.slice none 0 0, .int .i64 72]) else r = .returned (.tuple #[.slice a1 (rp L h l i k).length c1, .int .i64 0])) → RtP w (rp L h l i k) r wr := fun r hr => by
        refine ⟨hB.out, ?_⟩
        by_cases e : rp L h l i k = []
        · rw [if_pos e] at hr ⊢; exact hr
        · rw [if_neg e] at hr ⊢; exact ⟨_, hr, hO.out⟩
      have FIN := hid fin
      clear fin hA HT T1 hO
      by_cases e : rp L h l i k = []
      · have m0 : (rp L h l i k).length = 0 := by rw [e]; rfl
        have f2 := FIN.out (.returned (.tuple #[.slice none 0 0, .int .i64 72])) (by rw [if_pos e])
        rw [m0]
        clear FIN
        generalize rp L h l i k = O at *
        clear e
        go_wp2
        go_ret2
        exact f2
      · have m0 : (rp L h l i k).length ≠ 0 := fun e' => e (List.eq_nil_of_length_eq_zero e')
        have f2 := FIN.out (.returned (.tuple #[.slice a1 (rp L h l i k).length c1, .int .i64 0])) (by rw [if_neg e])
        clear FIN e
        generalize (rp L h l i k).length = m at *
        have m1 : ((m : Int) == 0) = false := by simp; omega
        go_wp2
        go_ret2
        exact f2
theorem rTile7_any {w : World} {q h : Nat} {L : List (List UInt8)} {F : Nat → Prop} (t : RtL w q h L F) (l i : Int) :
    Calls Tryd.prog 72 #[.pointer (some ⟨q, 0, none⟩), .int .i64 l, .int .i64 i] w (RtP w (tileO L h l i)) := by
  by_cases hb : l < 0 ∨ 30 < l ∨ i < 0 ∨ 1048576 < i
  · exact rTile_bad t l i hb
  · obtain ⟨l', rfl⟩ : ∃ l' : Nat, l = (l' : Int) := ⟨l.toNat, by omega⟩
    obtain ⟨i', rfl⟩ : ∃ i' : Nat, i = (i' : Int) := ⟨i.toNat, by omega⟩
    rw [tileO_nat t.h1]
    exact rTile_ok t l' i' (by omega) (by omega)
end Go.Proofs.YtfddkmkibfmmgaaDoor

namespace Go.Proofs.YtfddkmkibfmmgaaDoor
open Go.RowKit
set_option maxRecDepth 100000 in
set_option maxHeartbeats 1000000 in
theorem isComplete_neg {w : World} {q : Nat} (l i : Int) (hb : l < 0 ∨ i < 0) :
    Calls Tryd.prog 34 #[.pointer (some ⟨q, 0, none⟩), .agg #[.int .i64 l, .int .i64 i]] w fun r w' => r = .returned (.bool false) ∧ Below w.heap.size w w' := by
  obtain ⟨w1, hw1⟩ : ∃ w1, w.alloc (.cells #[Value.int .i64 l, .int .i64 i] 31) = w1 := ⟨_, rfl⟩
  have b1 := (Below.refl w.heap.size w).alloc (Nat.le_refl _) (.cells #[Value.int .i64 l, .int .i64 i] 31)
  have r1 := heap_alloc_new w (.cells #[Value.int .i64 l, .int .i64 i] 31)
  rw [hw1] at b1 r1
  have s0 : w1.cell? ⟨w.heap.size, 0, none⟩ = some (.int .i64 l) := by rw [cell_of_row _ _ _ _ _ _ r1]; rfl
  have s1 : w1.cell? ⟨w.heap.size, 1, none⟩ = some (.int .i64 i) := by rw [cell_of_row _ _ _ _ _ _ r1]; rfl
  have B1 := hid b1
  clear b1 r1
  by_cases h0 : 0 ≤ l
  · have y0 : decide (0 ≤ l) = true := decide_eq_true h0
    have y1 : decide (0 ≤ i) = false := decide_eq_false (by omega)
    clear hb h0
    go_enter Tryd.func34, Tryd.ntmps34
    go_wp2
    go_quiet (fail)
    go_wp2
    go_ret
    exact ⟨rfl, ⟨B1.out.os, B1.out.tape, B1.out.output, B1.out.size, B1.out.block⟩⟩
  · have y0 : decide (0 ≤ l) = false := decide_eq_false h0
    clear hb h0
    go_enter Tryd.func34, Tryd.ntmps34
    go_wp2
    go_quiet (fail)
    go_wp2
    go_ret
    exact ⟨rfl, ⟨B1.out.os, B1.out.tape, B1.out.output, B1.out.size, B1.out.block⟩⟩
set_option maxRecDepth 100000 in
set_option maxHeartbeats 1000000 in
theorem isComplete_high {w : World} {q h : Nat} {L : List (List UInt8)} {F : Nat → Prop} (t : TrL w q h L F) (l i : Nat) (hl : 64 < l) :
    Calls Tryd.prog 34 #[.pointer (some ⟨q, 0, none⟩), .agg #[.int .i64 (l : Int), .int .i64 (i : Int)]] w fun r w' => r = .returned (.bool false) ∧ Below w.heap.size w w' := by
  obtain ⟨w1, hw1⟩ : ∃ w1, w.alloc (.cells #[Value.int .i64 (l : Int), .int .i64 (i : Int)] 31) = w1 := ⟨_, rfl⟩
  have b1 := (Below.refl w.heap.size w).alloc (Nat.le_refl _) (.cells #[Value.int .i64 (l : Int), .int .i64 (i : Int)] 31)
  have r1 := heap_alloc_new w (.cells #[Value.int .i64 (l : Int), .int .i64 (i : Int)] 31)
  rw [hw1] at b1 r1
  have S0 : w1.cell? ⟨w.heap.size, 0, none⟩ = some (.int .i64 (l : Int)) ∧ w1.cell? ⟨w.heap.size, 1, none⟩ = some (.int .i64 (i : Int)) := ⟨by rw [cell_of_row _ _ _ _ _ _ r1]; rfl, by rw [cell_of_row _ _ _ _ _ _ r1]; rfl⟩
  have T1 := t.below b1
  have i1 := tSizeL (T1.below (Below.refl w1.heap.size w1).drew)
  have B1 := hid b1
  have n20 := t.n20
  obtain ⟨n, hn⟩ : ∃ n, L.length = n := ⟨_, rfl⟩
  rw [hn] at i1 n20
  have c0 : (0 : Int) ≤ (l : Int) := by omega
  have c1 : (0 : Int) ≤ (i : Int) := by omega
  have c2 : ¬ (l : Int) ≤ 64 := by omega
  have c2' : 64 < (l : Int) := by omega
  have fz := hid (show decide ((i : Int) < (n : Int) / 2 ^ min l 64) = false by rw [Nat.min_eq_right (by omega)]; exact decide_eq_false (by omega))
  clear t T1 b1 r1
  go_enter Tryd.func34, Tryd.ntmps34
  go_wp2
  go_region_held3 (fun w' => w'.cell? ⟨w.heap.size, 0, none⟩ = some (.int .i64 (l : Int)) ∧ w'.cell? ⟨w.heap.size, 1, none⟩ = some (.int .i64 (i : Int))) (exact S0) ((go_at_call 10; refine i1.mono ?_; rintro r w9 ⟨rfl, rfl⟩))
  go_wp2
  go_ret
  exact ⟨by rw [← fz.out]; rfl, B1.out.drew⟩
theorem isComplete_any {w : World} {q h : Nat} {L : List (List UInt8)} {F : Nat → Prop} (t : TrL w q h L F) (l i : Int) (c : Bool) (hc : decide (0 ≤ l ∧ 0 ≤ i ∧ (i.toNat + 1) * 2 ^ l.toNat ≤ L.length) = c) :
    Calls Tryd.prog 34 #[.pointer (some ⟨q, 0, none⟩), .agg #[.int .i64 l, .int .i64 i]] w fun r w' => r = .returned (.bool c) ∧ Below w.heap.size w w' := by
  by_cases hb : l < 0 ∨ i < 0
  · rw [← hc, decide_eq_false (by rintro ⟨_, _, _⟩; omega)]
    exact isComplete_neg l i hb
  · obtain ⟨l', rfl⟩ : ∃ l' : Nat, l = (l' : Int) := ⟨l.toNat, by omega⟩
    obtain ⟨i', rfl⟩ : ∃ i' : Nat, i = (i' : Int) := ⟨i.toNat, by omega⟩
    rw [Int.toNat_natCast, Int.toNat_natCast] at hc
    by_cases hl : 64 < l'
    · have hn := big_not t.n20 (l := (l' : Int)) (i := (i' : Int)) (by omega)
      rw [Int.toNat_natCast, Int.toNat_natCast] at hn
      rw [← hc, decide_eq_false hn]
      exact isComplete_high t l' i' hl
    · refine isComplete_nat t l' i' (by omega) c ?_
      rw [← hc]
      refine decide_eq_decide.2 ⟨fun x => ⟨by omega, by omega, cn_iff.2 x⟩, fun x => cn_iff.1 x.2.2⟩
set_option maxRecDepth 100000 in
set_option maxHeartbeats 1000000 in
theorem tHash_any {w : World} {q h : Nat} {L : List (List UInt8)} {F : Nat → Prop} (t : TrL w q h L F) (l i : Int) {x : List UInt8} {z : Int} (hx : Hid (hashO L l i = (x, z))) :
    Calls Tryd.prog 11 #[.pointer (some ⟨q, 0, none⟩), .agg #[.int .i64 l, .int .i64 i]] w fun r w' => r = .returned (.tuple #[sv x, .int .i64 z]) ∧ Below w.heap.size w w' := by
  have hxo := hx.out
  unfold hashO at hxo
  by_cases hd : 0 ≤ l ∧ 0 ≤ i ∧ (i.toNat + 1) * 2 ^ l.toNat ≤ L.length
  · rw [if_pos hd] at hxo
    injection hxo with e1 e2
    subst e2
    obtain ⟨h1, h2, h3⟩ := hd
    obtain ⟨l', rfl⟩ : ∃ l' : Nat, l = (l' : Int) := ⟨l.toNat, by omega⟩
    obtain ⟨i', rfl⟩ : ∃ i' : Nat, i = (i' : Int) := ⟨i.toNat, by omega⟩
    rw [Int.toNat_natCast, Int.toNat_natCast] at e1 h3
    have hl : ¬ 64 < l' := fun hl => by
      have hn := big_not t.n20 (l := (l' : Int)) (i := (i' : Int)) (by omega)
      rw [Int.toNat_natCast, Int.toNat_natCast] at hn
      exact hn ⟨by omega, by omega, h3⟩
    exact tHash_ok t l' i' (by omega) (cn_iff.1 h3) e1
  · rw [if_neg hd] at hxo
    injection hxo with e1 e2
    subst e1 e2
    obtain ⟨w1, hw1⟩ : ∃ w1, w.alloc (.cells #[Value.int .i64 l, .int .i64 i] 31) = w1 := ⟨_, rfl⟩
    have b1 := (Below.refl w.heap.size w).alloc (Nat.le_refl _) (.cells #[Value.int .i64 l, .int .i64 i] 31)
    have r1 := heap_alloc_new w (.cells #[Value.int .i64 l, .int .i64 i] 31)
    rw [hw1] at b1 r1
    have c0 : w1.cell? ⟨w.heap.size, 0, none⟩ = some (.int .i64 l) := by rw [cell_of_row _ _ _ _ _ _ r1]; rfl
    have c1 : w1.cell? ⟨w.heap.size, 1, none⟩ = some (.int .i64 i) := by rw [cell_of_row _ _ _ _ _ _ r1]; rfl
    have i1 := isComplete_any (t.below b1) l i false (decide_eq_false hd)
    have B1 := hid b1
    clear t b1 r1 hd hx
    go_enter Tryd.func11, Tryd.ntmps11
    go_wp2_with (go_at_call 34; refine i1.mono ?_; rintro r w2 ⟨rfl, hw2⟩)
    go_ret2
    exact ⟨rfl, B1.out.trans (hw2.mono B1.out.size)⟩
set_option maxRecDepth 100000 in
set_option maxHeartbeats 1000000 in
theorem tLeaves_bad {w : World} {q h : Nat} {L : List (List UInt8)} {F : Nat → Prop} (t : TrL w q h L F) (b e : Int) (hsp : spB L.length b e = false) :
    Calls Tryd.prog 25 #[.pointer (some ⟨q, 0, none⟩), .agg #[.int .i64 b, .int .i64 e]] w fun r w' => r = .returned (.tuple #[.slice none 0 0, .int .i64 73]) ∧ Below w.heap.size w w' := by
  obtain ⟨w1, hw1⟩ : ∃ w1, w.alloc (.cells #[Value.int .i64 b, .int .i64 e] 47) = w1 := ⟨_, rfl⟩
  have b1 := (Below.refl w.heap.size w).alloc (Nat.le_refl _) (.cells #[Value.int .i64 b, .int .i64 e] 47)
  have r1 := heap_alloc_new w (.cells #[Value.int .i64 b, .int .i64 e] 47)
  rw [hw1] at b1 r1
  have c0 : w1.cell? ⟨w.heap.size, 0, none⟩ = some (.int .i64 b) := by rw [cell_of_row _ _ _ _ _ _ r1]; rfl
  have c1 : w1.cell? ⟨w.heap.size, 1, none⟩ = some (.int .i64 e) := by rw [cell_of_row _ _ _ _ _ _ r1]; rfl
  have i1 := hasSpan_any (t.below b1) b e
  rw [hsp] at i1
  have B1 := hid b1
  clear t b1 r1 hsp
  go_enter Tryd.func25, Tryd.ntmps25
  go_wp2_with (go_at_call 46; refine i1.mono ?_; rintro r w2 ⟨rfl, hw2⟩)
  go_ret2
  exact ⟨rfl, B1.out.trans (hw2.mono B1.out.size)⟩
theorem Row.ownB {w : World} {g B : Nat} {L : List (List UInt8)} (h : Row w g L) (hl : L.length ≤ 8796093021952) (hB : B ≤ g) : Own w B (.slice (some ⟨g, 0, none⟩) L.length L.length) (svs L) :=
  (h.own hl).from fun k hk => by cases hk; exact hB
/-- the program's list of leaves, as the document's -/
theorem tLeaves7_any {w : World} {q h : Nat} {L : List (List UInt8)} {F : Nat → Prop} (t : TrL w q h L F) (b e : Int) :
    Calls Tryd.prog 25 #[.pointer (some ⟨q, 0, none⟩), .agg #[.int .i64 b, .int .i64 e]] w (LvP w L b e) := by
  obtain ⟨c, hc⟩ : ∃ c, spB L.length b e = c := ⟨_, rfl⟩
  cases c
  · refine (tLeaves_bad t b e hc).mono ?_
    rintro r w' ⟨rfl, hw⟩
    exact ⟨hw, by rw [if_neg (by rw [hc]; simp)]⟩
  · have hd := hc
    unfold spB at hd
    have hd := of_decide_eq_true hd
    obtain ⟨b', rfl⟩ : ∃ b' : Nat, b = (b' : Int) := ⟨b.toNat, by omega⟩
    obtain ⟨e', rfl⟩ : ∃ e' : Nat, e = (e' : Int) := ⟨e.toNat, by omega⟩
    have hlen := Til.sg_len (L := L) (b := b') (e := e') (by omega)
    have n20 := t.n20
    refine (tLeaves_any t b' e' (by omega) (by omega)).mono ?_
    rintro r w' ⟨g, hg, rfl, hR, hw⟩
    refine ⟨hw, ?_⟩
    rw [if_pos hc, Int.toNat_natCast, Int.toNat_natCast]
    refine ⟨_, rfl, ?_⟩
    have := hR.ownB (B := w.heap.size) (by omega) hg
    rw [hlen] at this
    exact this
/-- the program's tile, as the document's -/
theorem tTile7_any {w : World} {q h : Nat} {L : List (List UInt8)} {F : Nat → Prop} (t : TrL w q h L F) (l i : Int) (hi1 : -9223372036854775808 ≤ i) (hi2 : i ≤ 9223372036854775807) :
    Calls Tryd.prog 13 #[.pointer (some ⟨q, 0, none⟩), .int .i64 l, .int .i64 i] w (RtP w (tileO L h l i)) := by
  have hlen := tileO_len t l i
  refine (tTile_any t l i hi1 hi2).mono ?_
  rintro r w' ⟨hw, hr⟩
  refine ⟨hw, ?_⟩
  by_cases e : tileO L h l i = []
  · rw [if_pos e] at hr ⊢
    exact hr
  · rw [if_neg e] at hr ⊢
    obtain ⟨g, hg, rfl, hR⟩ := hr
    exact ⟨_, rfl, hR.ownB (by omega) hg⟩
end Go.Proofs.YtfddkmkibfmmgaaDoor
