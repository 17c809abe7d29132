import Derived.Test.YtcaephnicaepaaaDoorT4
import Derived.Test.YtcaephnicaepaaaDoorM8
namespace Go.Proofs.YtcaephnicaepaaaDoor
open Go.RowKit

theorem rb64_at {s x : ByteArray} (h : Hid (Tx.b64 s.data.toList = x.data.toList)) (hs : s.size ≤ 70368744177664) (w : World) :
    Calls Tryd.prog 25 #[.string s] w fun e w' => e = .returned (.string x) ∧ Below w.heap.size w w' := by
  have := rbase64_any s hs w
  rwa [h.out, ← sv_eta] at this
theorem mid_getD4 (l : List UInt8) (a j : Nat) (hj : j < 4) : ((l.drop a).take 4).getD j 0 = l.getD (a + j) 0 := by
  simp only [List.getD_eq_getElem?_getD, List.getElem?_take, List.getElem?_drop, if_pos hj]
theorem lval_some {c p : Nat} (h : Tx.val c = some p) : Tx.lval c = p := by rw [Tx.lval, h]; rfl
theorem lval_none {c : Nat} (h : Tx.val c = none) : Tx.lval c = 0 := by rw [Tx.lval, h]; rfl

set_option maxRecDepth 100000 in
set_option maxHeartbeats 2000000 in
theorem rfromBase64_any (s : ByteArray) (hs : s.size ≤ 70368744177664) (w : World) :
    Calls Tryd.prog 23 #[.string s] w fun e w' => e = .returned (.tuple #[sv (Tx.fromB64 s.data.toList).1, .int .i64 (Tx.fromB64 s.data.toList).2]) ∧ Below w.heap.size w w' := by
  have hs' : (s.size : Int) ≤ 70368744177664 := by omega
  by_cases hodd : s.size % 4 = 0
  · have g0 : ((s.size : Int) % 4 != 0) = false := by simp; omega
    go_enter Tryd.func23, Tryd.ntmps23
    go_wp2
    go_loopw [4, 5, 6, 7, 8, 9, 10] (fun v i _ _ _ _ _ w' => ∃ (k : Nat) (r : List UInt8), 4 * k ≤ s.size ∧ i = .int .i64 ((4 * k : Nat) : Int) ∧ r.length ≤ 3 * k ∧ Hid (Tx.loose s.data.toList = (Tx.loose (s.data.toList.drop (4 * k))).map (r ++ ·)) ∧ Hid (OwnB w' w.heap.size v r) ∧ Hid (Below w.heap.size w w')) (fun _ i _ _ _ _ _ _ => s.size - (intOf i).toNat)
    case atStart => exact ⟨0, [], by omega, rfl, by simp, (by unfold Hid; rw [Nat.mul_zero, List.drop_zero]; cases Tx.loose s.data.toList <;> simp), Own.nil _ _, Below.refl _ _⟩
    case round =>
      obtain ⟨k, r, hk, rfl, hrl, hr, hown, hb⟩ := hrel
      by_cases hlt : 4 * k < s.size
      · have hlt' : ((4 * k : Nat) : Int) < (s.size : Int) := by omega
        have hk4 : 4 * k + 4 ≤ s.size := by omega
        obtain ⟨g, hg⟩ : ∃ g, Hid (g = (s.data.toList.drop (4 * k)).take 4) := ⟨_, rfl⟩
        have hgd : Hid (∀ j, j < 4 → g.getD j 0 = s.data.toList.getD (4 * k + j) 0) := fun j hj => by rw [hg.out, mid_getD4 _ _ _ hj]
        go_wp2
        go_loopw [6, 7, 8, 9] (fun n m i _ w' => ∃ j : Nat, j ≤ 4 ∧ i = .int .i64 j ∧ n = .int .i64 (Tx.lw g j : Nat) ∧ m = .int .i64 (3 - (Tx.bd g j : Int)) ∧ Hid (OwnB w' w.heap.size u4 r) ∧ Hid (Below w.heap.size w w')) (fun _ _ i _ _ => 4 - (intOf i).toNat)
        case atStart => exact ⟨0, by omega, rfl, rfl, rfl, hown, hb⟩
        case round =>
          clear hown hb
          obtain ⟨j, hj, rfl, rfl, rfl, hown, hb⟩ := hrel
          by_cases hj4 : j < 4
          · have b0 : (j : Int) < 4 := by omega
            have hl2 : 4 * (k : Int) < (s.size : Int) := by omega
            have hin' : 4 * (k : Int) + (j : Int) < (s.size : Int) := by omega
            obtain ⟨x, ex, lx, _, jx⟩ := index_any s (4 * (k : Int) + (j : Int)) (4 * k + j) (by omega) (by omega)
            have t1 : (4 * (k : Int) + (j : Int)).toNat = 4 * k + j := by omega
            have lw : Tx.lw g j < 262144 := by
              have := Tx.lw_lt g j
              have h2 : 64 ^ j ≤ 64 ^ 3 := Nat.pow_le_pow_right (by decide) (by omega)
              omega
            have lb := Tx.bd_le g j
            have hlw := hid (show Tx.lw g (j + 1) = 64 * Tx.lw g j + Tx.lval (g.getD j 0).toNat from rfl)
            have hbd := hid (show Tx.bd g (j + 1) = Tx.bd g j + (if Tx.val (g.getD j 0).toNat = none then 1 else 0) from rfl)
            rw [hgd.out j hj4, ← ex.out] at hlw hbd
            obtain ⟨p, hp⟩ : ∃ p, Hid (sgnAt x Tx.tab 0 = p) := ⟨_, rfl⟩
            have hx := b64_signs x lx
            rw [hp.out] at hx
            go_wp2_with (go_at_call 44; fail)
            refine (sign_at (tab := Tx.tab) hp (by rw [Tx.tab_length]; omega) _).mono ?_
            rintro e w' ⟨rfl, hw'⟩
            rw [hw']
            clear hw' w'
            rcases hx with ⟨rfl, hx⟩ | ⟨p, rfl, hx, lp⟩
            · rw [lval_none hx] at hlw
              rw [if_pos hx] at hbd
              clear hx
              generalize Tx.lw g j = a at *
              generalize Tx.bd g j = f at *
              go_wp2
              refine ⟨?_, by simp [intOf]; omega⟩
              repeat apply Exists.intro
              refine And.intro ?rel ?fr
              case fr =>
                simp only [decide_eq_true hl2]
                rfl
              case rel => exact ⟨j + 1, by omega, by go_num, val_int (by rw [hlw.out]; omega), val_int (by rw [hbd.out]; omega), hown, hb⟩
            · rw [lval_some hx] at hlw
              rw [if_neg (by rw [hx]; simp)] at hbd
              have p0 : ¬ (p : Int) < 0 := by omega
              clear hx
              generalize Tx.lw g j = a at *
              generalize Tx.bd g j = f at *
              go_wp2
              refine ⟨?_, by simp [intOf]; omega⟩
              repeat apply Exists.intro
              refine And.intro ?rel ?fr
              case fr =>
                simp only [decide_eq_true hl2]
                rfl
              case rel => exact ⟨j + 1, by omega, by go_num, val_int (by rw [hlw.out]; omega), val_int (by rw [hbd.out]; omega), hown, hb⟩
          · obtain rfl : j = 4 := by omega
            have ln : Tx.lw g 4 < 16777216 := Tx.lw_lt g 4
            have lf := Tx.bd_le g 4
            have hgr := hid (show Tx.lgrp g = if Tx.bd g 4 < 3 then some (Tx.bytesOf (Tx.lw g 4) (Tx.bd g 4)) else none from rfl)
            generalize Tx.lw g 4 = n at *
            generalize Tx.bd g 4 = f at *
            by_cases hf : f < 3
            · rw [if_pos hf] at hgr
              have hm : ¬ 3 - (f : Int) < 1 := by omega
              have hst := hid (Tx.loose_step s.data.toList r (Tx.bytesOf n f) k (by rw [data_length]; exact hk4) hr.out (by rw [← hg.out]; exact hgr.out))
              go_wp2
              go_loopw [4, 10] (fun v i w' => ∃ j : Nat, j ≤ 3 - f ∧ i = .int .i64 j ∧ Hid (OwnB w' w.heap.size v (r ++ (Tx.bytesOf n f).take j)) ∧ Hid (Below w.heap.size w w')) (fun _ i _ => 3 - f - (intOf i).toNat)
              case atStart => exact ⟨0, by omega, rfl, hid (by simpa using hown.out), hb⟩
              case round =>
                clear hown hb
                obtain ⟨j, hj, rfl, hown, hb⟩ := hrel
                by_cases hjl : j < 3 - f
                · have j1 : (j : Int) < 3 - (f : Int) := by omega
                  have j2 : (j : Int) ≤ 2 := by omega
                  have hbyte := Tx.byte_mod n (16 - 8 * j)
                  obtain ⟨v3, w3, hc, hown3, hg3, _⟩ := append_new wr w.heap.size u4 _ [UInt8.ofNat (n / 2 ^ (16 - 8 * j))] 1 #[.int .u8 (UInt8.ofNat (n / 2 ^ (16 - 8 * j))).toNat] rfl rfl hown.out (by rw [List.length_append, List.length_take, Tx.bytesOf_length]; omega) hb.out.size (by omega)
                  rw [List.append_assoc, ← Tx.bytesOf_take n f j hjl] at hown3
                  have Hown3 := hid hown3
                  have Hb3 := hid (hb.out.trans (Below.ofGrown hg3 hown.out.ge hb.out.size))
                  clear hown3 hg3
                  generalize (UInt8.ofNat (n / 2 ^ (16 - 8 * j))).toNat = q2 at *
                  go_wp2_with (at_builtin; go_must (refine Lib.wpList_append_run _ rfl _ _ 48 48 rfl _ _ rfl rfl _ _ hc ?_))
                  first | exact ⟨⟨j + 1, by omega, by go_num, Hown3, Hb3⟩, by simp [intOf]; omega⟩ | (refine ⟨?_, by simp [intOf]; omega⟩; (repeat apply Exists.intro); exact ⟨⟨j + 1, by omega, by go_num, Hown3, Hb3⟩, rfl⟩)
                · obtain rfl : j = 3 - f := by omega
                  have j1 : ¬ ((3 - f : Nat) : Int) < 3 - (f : Int) := by omega
                  have hall := hown.out
                  rw [Tx.bytesOf_all] at hall
                  have Hall := hid hall
                  clear hall
                  go_wp2
                  exact ⟨⟨k + 1, r ++ Tx.bytesOf n f, by omega, by go_num, by rw [List.length_append, Tx.bytesOf_length]; omega, hst, Hall, hb⟩, by simp [intOf]; omega⟩
            · rw [if_neg hf] at hgr
              have hm : 3 - (f : Int) < 1 := by omega
              have hbad : Hid (Tx.fromB64 s.data.toList = ([], 11)) := Tx.loose_none (Tx.loose_bad s.data.toList r k (by rw [data_length]; exact hk4) hr.out (by rw [← hg.out]; exact hgr.out))
              go_wp2
              go_ret2
              exact ⟨by rw [hbad.out]; rfl, hb.out⟩
      · have hlt' : ¬ ((4 * k : Nat) : Int) < (s.size : Int) := by omega
        have hlo : Hid (Tx.loose s.data.toList = some r) := by
          have := hr.out
          rw [List.drop_eq_nil_of_le (by rw [data_length]; omega), Tx.loose] at this
          unfold Hid
          rw [this]; simp
        obtain ⟨rb, rfl⟩ := ba_exists r
        have hcv := conv_all hown.out
        rw [← sv_eta] at hcv
        obtain ⟨t, ht⟩ := ba_exists (Tx.b64 rb.data.toList)
        have Ht := hid ht
        have hrs : rb.size ≤ 70368744177664 := by rw [← data_length]; omega
        clear ht hr
        by_cases heq : Tx.b64 rb.data.toList = s.data.toList
        · have y : (t.toList == s.toList) = true := by rw [ByteArray.toList_eq, ByteArray.toList_eq, ← Ht.out, heq]; simp
          have hfin := hid (Tx.loose_eq heq)
          clear heq
          go_wp2_with (go_at_call 25; fail)
          refine (rb64_at Ht hrs _).mono ?_
          rintro e w1 ⟨rfl, hw1⟩
          have B1 := hb.out.trans (hw1.mono hb.out.size)
          have hcv1 := conv_all (hown.out.below hw1 (Nat.le_refl _))
          rw [← sv_eta] at hcv1
          go_wp2
          go_ret2
          exact ⟨by rw [hfin.out]; rfl, B1⟩
        · have y : (t.toList == s.toList) = false := by
            rw [ByteArray.toList_eq, ByteArray.toList_eq, ← Ht.out]
            exact Bool.eq_false_iff.2 (fun h => heq (eq_of_beq h))
          have hbad := hid (Tx.loose_ne hlo.out heq)
          clear heq
          go_wp2_with (go_at_call 25; fail)
          refine (rb64_at Ht hrs _).mono ?_
          rintro e w1 ⟨rfl, hw1⟩
          have B1 := hb.out.trans (hw1.mono hb.out.size)
          go_wp2
          go_ret2
          exact ⟨by rw [hbad.out]; rfl, B1⟩
  · have g0 : ((s.size : Int) % 4 != 0) = true := by simp; omega
    have hf : Hid (Tx.fromB64 s.data.toList = ([], 11)) := by show _ = _; rw [Tx.fromB64, Tx.unb64_odd _ (by rw [data_length]; exact hodd)]
    go_enter Tryd.func23, Tryd.ntmps23
    go_wp2
    go_ret2
    exact ⟨by rw [hf.out]; rfl, Below.refl _ _⟩
end Go.Proofs.YtcaephnicaepaaaDoor
