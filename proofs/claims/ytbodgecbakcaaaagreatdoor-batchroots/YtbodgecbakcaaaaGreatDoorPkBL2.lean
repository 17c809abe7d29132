import Derived.Test.YtbodgecbakcaaaaGreatDoorPkTL11
import Derived.Test.YtbodgecbakcaaaaGreatDoorPkR5
import Derived.Test.YtbodgecbakcaaaaGreatDoorPkSP18
import Derived.Test.YtbodgecbakcaaaaGreatDoorPkBR1
import Derived.BigQuiet
import Derived.Maps.RangeRun
import Derived.Maps.Range
import Derived.Deep.CutRange
import Derived.Test.YtbodgecbakcaaaaGreatDoorPkO23
namespace Go.Proofs.YtbodgecbakcaaaaGreatDoor
open Go.RowKit Go.Shelf
namespace Bat
set_option maxRecDepth 100000 in
set_option maxHeartbeats 4000000 in
theorem planted12_any (ht : Int) (L : List (List UInt8)) (hL : Tree.Hs L) (hl : L.length ≤ 1000) (a : Option Addr) (ca : Nat) (w : World) (h1 : -9223372036854775808 ≤ ht) (h2 : ht ≤ 9223372036854775807) (hA : At w a L) (Z : Tb w) :
    Calls Tryz.prog 11 #[.slice a L.length ca, .int .i64 ht] w fun e w' => ∃ (q h : Nat) (F : Nat → Prop), e = .returned (.pointer (some ⟨q, 0, none⟩)) ∧ TrL w' q h L F ∧ (∀ k, F k → w.heap.size ≤ k) ∧ Below w.heap.size w w' := by
  have HZ := hid Z
  have HA := hid hA
  have HL := hid hL
  have hT := Z.lt
  clear Z hA hL
  have p0 := pk_nonneg ht 8 (by omega)
  have p1 := pk_lt ht 8 (by omega)
  have i1 := pick_any ht 8 h1 h2 (by omega) (by omega) w
  obtain ⟨h, hh⟩ : ∃ h : Nat, (h : Int) = 1 + pk ht 8 := ⟨(1 + pk ht 8).toNat, by omega⟩
  have s1 : IntKind.i64.wrap (1 + pk ht 8) = (h : Int) := by rw [wrap_small _ (by omega) (by omega)]; omega
  have new := tNew_any h (by omega) (by omega) w hT
  have HH := hid hh
  generalize pk ht 8 = p at *
  obtain ⟨n, hn⟩ : ∃ n : Nat, Hid (L.length = n) := ⟨_, rfl⟩
  rw [hn.out] at hl ⊢
  clear hh p0 p1
  go_enter Tryz.func11, Tryz.ntmps11
  go_wp2_with (go_at_call 7; refine i1.mono ?_; rintro e w0 ⟨rfl, h0⟩; have h0 := h0.symm; subst h0)
  go_wp2_with (go_at_call 33; fail)
  refine new.mono ?_
  rintro e w1 ⟨q, F1, rfl, E1, hF1, B1⟩
  have E1 := hid E1
  have B1 := hid B1
  have hF1 := hid hF1
  clear new i1 s1
  go_wp2
  go_loopw [7, 8] (fun i _ w' => ∃ (k : Nat) (F : Nat → Prop), k ≤ n ∧ i = .int .i64 (k : Int) ∧ Hid (TrL w' q h (L.take k) F) ∧ Hid (∀ k, F k → w.heap.size ≤ k) ∧ Hid (Below w.heap.size w w')) (fun i _ _ => n - (intOf i).toNat)
  case atStart => exact ⟨0, F1, by omega, rfl, E1, hF1, B1⟩
  case round =>
    clear E1 B1 hF1
    obtain ⟨k, F, hk, rfl, hE, hF, hB⟩ := hrel
    by_cases hkn : k < n
    · have b0 : (k : Int) < (n : Int) := by omega
      have hkc : k < L.length := by rw [hn.out]; exact hkn
      obtain ⟨y, rfl, _, hy⟩ := (HA.out.below hB.out (Nat.le_refl _)) k L[k] (List.getElem?_eq_getElem hkc)
      have hnx := hid (show L.take (k + 1) = L.take k ++ [L[k]] by rw [List.take_add_one, List.getElem?_eq_getElem hkc]; rfl)
      have hlk : (L.take k).length = k := by rw [List.length_take]; omega
      have lr : L[k].length = 32 := HL.out _ (List.getElem_mem hkc)
      generalize L[k] = r at *
      have add := tAdd_any hE.out r lr (by rw [hlk]; omega) (HZ.out.below hB.out hT)
      rw [← hnx.out] at add
      rw [show sv r = Value.string ⟨r.toArray⟩ from rfl] at hy
      have HB := hB
      clear hB hE hnx hlk
      go_wp2_with (go_at_call 34; fail)
      refine add.mono ?_
      rintro e w3 ⟨rfl, F3, E3, M3⟩
      obtain ⟨b3, f3⟩ := M3.below (B := w.heap.size) HB.out.size hF.out
      have B3 := hid (HB.out.trans b3)
      have E3 := hid E3
      have f3 := hid f3
      clear b3 M3 add
      go_wp2
      exact ⟨⟨k + 1, F3, by omega, by go_num, E3, f3, B3⟩, by simp [intOf]; omega⟩
    · obtain rfl : k = n := by omega
      have b0 : ¬ (k : Int) < (k : Int) := by omega
      go_wp2
      go_ret
      have := hE.out
      rw [← hn.out, List.take_length] at this
      exact ⟨q, rfl, h, F, this, hF.out, hB.out⟩
set_option maxRecDepth 100000 in
set_option maxHeartbeats 8000000 in
theorem rights12_any (raw : List Int) (n : Nat) (hn1 : 1 ≤ n) (hn2 : n ≤ 1099511627776) (a : Option Addr) (ca : Nat) (w : World) (hr : raw.length ≤ 9223372036854775807) (hin : ∀ c ∈ raw, -9223372036854775808 ≤ c ∧ c ≤ 9223372036854775807) (hA : AtI w a raw) :
    Calls Tryz.prog 8 #[.slice a raw.length ca, .int .i64 (n : Int)] w fun e w' => ∃ v, e = .returned v ∧ Own w' w.heap.size v (ivs (rgs (fun c => pk c n) raw 20)) ∧ Below w.heap.size w w' := by
  have HA := hid hA
  have HI := hid hin
  obtain ⟨N, hN⟩ : ∃ N : Nat, Hid (raw.length = N) := ⟨_, rfl⟩
  rw [hN.out] at hr ⊢
  have hpk := fun (c : Int) (h1 : -9223372036854775808 ≤ c) (h2 : c ≤ 9223372036854775807) w' => pick_any c (n : Int) h1 h2 (by omega) (by omega) w'
  clear hA hin
  go_enter Tryz.func8, Tryz.ntmps8
  go_wp2
  go_loopw [5, 6, 7, 8, 9, 10] (fun v i _ _ _ _ w' => ∃ k : Nat, k ≤ N ∧ k ≤ 20 ∧ i = .int .i64 (k : Int) ∧ Hid (Own w' w.heap.size v (ivs (rgs (fun c => pk c n) raw k))) ∧ Hid (Below w.heap.size w w')) (fun _ i _ _ _ _ _ => 20 - (intOf i).toNat)
  case atStart => exact ⟨0, by omega, by omega, rfl, Own.nil _ _, Below.refl _ _⟩
  case round =>
    obtain ⟨k, hk, hk20, rfl, hO, hB⟩ := hrel
    obtain ⟨w0, hw0⟩ : ∃ w0, w0 = wr := ⟨_, rfl⟩
    subst hw0
    by_cases hgo : k < N ∧ k < 20
    · obtain ⟨g1, g2⟩ := hgo
      have b0 : (k : Int) < (N : Int) := by omega
      have b1 : (k : Int) < 20 := by omega
      have hkr : k < raw.length := by rw [hN.out]; exact g1
      obtain ⟨x, rfl⟩ := HA.out.pos (by omega)
      have hcell := (HA.out.below hB.out (Nat.le_refl _)).cell k hkr
      have hci := HI.out raw[k] (List.getElem_mem hkr)
      have hnext := hid (rgs_succ (p := fun c => pk c n) hkr)
      have hL20 := hid (rgs_len (fun c => pk c n) raw k)
      have hpick := hpk raw[k] hci.1 hci.2
      obtain ⟨c, hc⟩ : ∃ c, pk raw[k] n = c := ⟨_, rfl⟩
      rw [hc] at hpick
      unfold Hid at hnext
      simp only [hc] at hnext
      have hnext := hid hnext
      generalize raw[k] = r0 at *
      generalize hLL : rgs (fun c => pk c n) raw k = L at *
      obtain ⟨la, lc, rfl, hat, -⟩ := hO.out.atI
      have HL := hid hat
      obtain ⟨m, hm⟩ : ∃ m : Nat, Hid (L.length = m) := ⟨_, rfl⟩
      rw [hm.out]
      have hm20 : m ≤ 20 := by have := hL20.out; rw [hm.out] at this; omega
      clear hc hci hat hpk hLL
      go_wp2_with (go_at_call 7; refine (hpick _).mono ?_; rintro e w1 ⟨rfl, h0⟩; have h0 := h0.symm; subst h0)
      go_loopw [8, 9, 10] (fun v q i w' => ∃ (j : Nat) (put : Bool) (out : List Int), j ≤ m ∧ i = .int .i64 (j : Int) ∧ q = .bool put ∧ Hid (Own w' w0.heap.size v (ivs out)) ∧ Hid (Below w0.heap.size w0 w') ∧ Hid (out ++ goI c (L.drop j) put = goI c L false) ∧ Hid (out.length ≤ 2 * j)) (fun _ _ i _ => m - (intOf i).toNat)
      case atStart => exact ⟨0, false, [], by omega, rfl, rfl, Own.nil _ _, Below.refl _ _, rfl, by unfold Hid; simp⟩
      case round =>
        obtain ⟨j, put, out, hj, rfl, rfl, hQ, hQB, hQe, hQl⟩ := hrel
        by_cases hjm : j < m
        · have d0 : (j : Int) < (m : Int) := by omega
          have hjL : j < L.length := by rw [hm.out]; exact hjm
          obtain ⟨y, rfl⟩ := HL.out.pos (by omega)
          have hy := (HL.out.below hQB.out (Nat.le_refl _)).cell j hjL
          have hdr := hid (List.drop_eq_getElem_cons hjL)
          have hl2 := hQl.out
          obtain ⟨z, hzL⟩ : ∃ z, L[j] = z := ⟨_, rfl⟩
          rw [hzL] at hy
          unfold Hid at hdr
          rw [hzL] at hdr
          have hdr := hid hdr
          have HZL := hid hzL
          clear hzL
          by_cases hz : z = c
          · subst hz
            have zz : (z == z) = true := by simp
            obtain ⟨v3, w3, hap, hO3, hb3⟩ := append_int wr w0.heap.size _ out z hQ.out (by omega) hQB.out.size
            have B3 := hid (hQB.out.trans hb3)
            have O3 := hid hO3
            have e3 : Hid ((out ++ [z]) ++ goI z (L.drop (j + 1)) true = goI z L false) := by
              unfold Hid
              rw [← hQe.out, hdr.out, goI, if_neg (by simp), List.append_assoc]
              simp
            clear hb3 hO3 hQe hdr
            go_wp2_with (at_builtin; go_must (refine Lib.wpList_append_run _ rfl _ _ 22 22 rfl _ _ rfl rfl _ _ hap ?_); clear hap)
            exact ⟨⟨j + 1, true, out ++ [z], by omega, by go_num, rfl, O3, B3, e3, by unfold Hid; simp; omega⟩, by simp [intOf]; omega⟩
          · have zz : (z == c) = false := by simp [hz]
            have zd : decide (z = c) = false := by simp [hz]
            cases put with
            | true =>
              obtain ⟨v3, w3, hap, hO3, hb3⟩ := append_int wr w0.heap.size _ out z hQ.out (by omega) hQB.out.size
              have B3 := hid (hQB.out.trans hb3)
              have O3 := hid hO3
              have e3 : Hid ((out ++ [z]) ++ goI c (L.drop (j + 1)) true = goI c L false) := by
                unfold Hid
                rw [← hQe.out, hdr.out, goI, if_neg (by simp), List.append_assoc]
                simp
              clear hb3 hO3 hQe hdr
              go_wp2_with (at_builtin; go_must (refine Lib.wpList_append_run _ rfl _ _ 22 22 rfl _ _ rfl rfl _ _ hap ?_); clear hap)
              exact ⟨⟨j + 1, true, out ++ [z], by omega, by go_num, rfl, O3, B3, e3, by unfold Hid; simp; omega⟩, by simp [intOf]; omega⟩
            | false =>
              by_cases hcz : c < z
              · obtain ⟨v2, w2, hap2, hO2, hb2⟩ := append_int wr w0.heap.size _ out c hQ.out (by omega) hQB.out.size
                have hQB2 := hQB.out.trans hb2
                have hy2 := (HL.out.below hQB2 (Nat.le_refl _)).cell j hjL
                rw [HZL.out] at hy2
                obtain ⟨v3, w3, hap, hO3, hb3⟩ := append_int w2 w0.heap.size _ (out ++ [c]) z hO2 (by simp; omega) hQB2.size
                have B3 := hid (hQB2.trans hb3)
                have O3 := hid hO3
                have e3 : Hid ((out ++ [c] ++ [z]) ++ goI c (L.drop (j + 1)) true = goI c L false) := by
                  unfold Hid
                  rw [← hQe.out, hdr.out, goI, if_pos ⟨by simp [hz], hcz⟩]
                  simp
                clear hb3 hO3 hO2 hb2 hQB2 hQe hdr
                go_wp2_with (at_builtin; first | (refine Lib.wpList_append_run _ rfl _ _ 22 22 rfl _ _ rfl rfl _ _ hap2 ?_; clear hap2) | (refine Lib.wpList_append_run _ rfl _ _ 22 22 rfl _ _ rfl rfl _ _ hap ?_; clear hap))
                exact ⟨⟨j + 1, true, out ++ [c] ++ [z], by omega, by go_num, rfl, O3, B3, e3, by unfold Hid; simp; omega⟩, by simp [intOf]; omega⟩
              · obtain ⟨v3, w3, hap, hO3, hb3⟩ := append_int wr w0.heap.size _ out z hQ.out (by omega) hQB.out.size
                have B3 := hid (hQB.out.trans hb3)
                have O3 := hid hO3
                have e3 : Hid ((out ++ [z]) ++ goI c (L.drop (j + 1)) false = goI c L false) := by
                  unfold Hid
                  rw [← hQe.out, hdr.out, goI, if_neg (by simp [hcz]), List.append_assoc]
                  simp [zd]
                clear hb3 hO3 hQe hdr
                go_wp2_with (at_builtin; go_must (refine Lib.wpList_append_run _ rfl _ _ 22 22 rfl _ _ rfl rfl _ _ hap ?_); clear hap)
                exact ⟨⟨j + 1, false, out ++ [z], by omega, by go_num, rfl, O3, B3, e3, by unfold Hid; simp; omega⟩, by simp [intOf]; omega⟩
        · obtain rfl : j = m := by omega
          have d0 : ¬ (j : Int) < (j : Int) := by omega
          have hdr : L.drop j = [] := List.drop_eq_nil_of_le (by rw [hm.out]; exact Nat.le_refl _)
          have hl2 := hQl.out
          have BW := hid (hB.out.trans (hQB.out.mono hB.out.size))
          cases put with
          | true =>
            have e3 : out = goI c L false := by
              have := hQe.out
              rw [hdr, goI_true, List.append_nil] at this
              exact this
            rw [e3, ← hnext.out] at hQ
            have O3 := hid (hQ.out.mono hB.out.size)
            clear hQe hdr e3 hQ
            go_wp2
            exact ⟨⟨k + 1, by omega, by omega, by go_num, O3, BW⟩, by simp [intOf]; omega⟩
          | false =>
            have e3 : out ++ [c] = goI c L false := by
              have := hQe.out
              rw [hdr] at this
              simpa [goI] using this
            obtain ⟨v3, w3, hap, hO3, hb3⟩ := append_int wr w0.heap.size _ out c hQ.out (by omega) hQB.out.size
            have B3 := hid (hB.out.trans ((hQB.out.trans hb3).mono hB.out.size))
            rw [e3, ← hnext.out] at hO3
            have O3 := hid (hO3.mono hB.out.size)
            clear hQe hdr e3 hO3 hb3 hQ
            go_wp2_with (at_builtin; go_must (refine Lib.wpList_append_run _ rfl _ _ 22 22 rfl _ _ rfl rfl _ _ hap ?_); clear hap)
            exact ⟨⟨k + 1, by omega, by omega, by go_num, O3, B3⟩, by simp [intOf]; omega⟩
    · have e : rgs (fun c => pk c n) raw k = rgs (fun c => pk c n) raw 20 := by
        have := hN.out
        by_cases h : k < N
        · rw [show k = 20 by omega]
        · have := rgs_end (p := fun c => pk c n) (raw := raw) (k := k) (by omega) (20 - k)
          rw [show k + (20 - k) = 20 by omega] at this
          exact this.symm
      rw [e] at hO
      by_cases h1 : k < N
      · have b0 : (k : Int) < (N : Int) := by omega
        have b1 : ¬ (k : Int) < 20 := by omega
        go_wp2
        go_ret
        exact ⟨_, rfl, hO.out, hB.out⟩
      · have b0 : ¬ (k : Int) < (N : Int) := by omega
        go_wp2
        go_ret
        exact ⟨_, rfl, hO.out, hB.out⟩
end Bat
end Go.Proofs.YtbodgecbakcaaaaGreatDoor

namespace Go.Proofs.YtbodgecbakcaaaaGreatDoor
open Go.RowKit Go.Shelf
namespace Bat
def rightB (n : Int) (l : List Int) : Bool := decide (l ≠ [] ∧ l.length ≤ 256 ∧ l.Pairwise (· < ·) ∧ ∀ x ∈ l, 0 ≤ x ∧ x < n)
theorem pw_adj : ∀ (l : List Int), (∀ (j : Nat) (x y : Int), l[j]? = some x → l[j + 1]? = some y → x < y) → l.Pairwise (· < ·)
  | [], _ => List.Pairwise.nil
  | [a], _ => List.pairwise_singleton _ _
  | a :: b :: l, h => by
    have ih := pw_adj (b :: l) (fun j x y h1 h2 => h (j + 1) x y h1 h2)
    have hab := h 0 a b rfl rfl
    refine List.pairwise_cons.2 ⟨fun y hy => ?_, ih⟩
    rcases List.mem_cons.1 hy with rfl | hy
    · exact hab
    · exact Int.lt_trans hab ((List.pairwise_cons.1 ih).1 y hy)
theorem batOk_iff {n : Int} {l : List Int} (h1 : 1 ≤ n) (h2 : n ≤ 1099511627776) : BatOk n l ↔ rightB n l = true := by
  unfold rightB
  rw [decide_eq_true_iff]
  constructor
  · intro b
    exact ⟨List.length_pos_iff.1 b.l1, b.l2, b.so, b.all⟩
  · rintro ⟨q1, q2, q3, q4⟩
    obtain ⟨m, rfl⟩ := Int.eq_ofNat_of_zero_le (show 0 ≤ n by omega)
    have l1 : 0 < l.length := List.length_pos_iff.2 q1
    have m0 := q4 l[0] (List.getElem_mem l1)
    have m1 := q4 (l[l.length - 1]'(by omega)) (List.getElem_mem (by omega))
    exact ⟨h1, h2, l1, q2, q3, by rw [getD_at l1]; omega, by rw [getD_at l1]; omega, by rw [getD_at (by omega)]; omega, by rw [getD_at (by omega)]; omega⟩
theorem tolE_is {n : Int} {l : List Int} : tolE n l = if 1 ≤ n ∧ n ≤ 1099511627776 then (if rightB n l = true then 0 else 120) else 121 := by
  by_cases h : 1 ≤ n ∧ n ≤ 1099511627776
  · rw [if_pos h]
    by_cases hr : rightB n l = true
    · rw [if_pos hr]
      exact tolE_zero.2 (batchE_ok ((batOk_iff h.1 h.2).2 hr))
    · rw [if_neg hr]
      have h0 : batchE n l ≠ 0 := fun e => hr ((batOk_iff h.1 h.2).1 (BatOk.of e))
      have h1 : batchE n l ≠ 81 := by
        unfold batchE
        rw [if_pos h]
        split
        · omega
        · split
          · split
            · split <;> omega
            · omega
          · omega
      unfold tolE
      rw [if_neg h0, if_neg h1]
  · rw [if_neg h]
    have h1 : batchE n l = 81 := by unfold batchE; rw [if_neg h]
    unfold tolE
    rw [h1]
    rfl
theorem below_drewN12 {B : Nat} {a w : World} (h : Below B a w) (n : Nat) : Below B a (w.drewN n) := ⟨h.os, h.tape, h.output, h.size, h.block⟩
set_option maxRecDepth 100000 in
set_option maxHeartbeats 800000 in
theorem rright_any (n : Int) (l : List Int) (hl : l.length ≤ 9223372036854775807) (hin : ∀ c ∈ l, -9223372036854775808 ≤ c ∧ c ≤ 9223372036854775807) (a : Option Addr) (ca : Nat) (w : World) (hA : AtI w a l) :
    Calls Tryz.prog 79 #[.int .i64 n, .slice a l.length ca] w fun r w' => r = .returned (.bool (rightB n l)) ∧ Below w.heap.size w w' := by
  have HA := hid hA
  have HI := hid hin
  obtain ⟨B, hB⟩ : ∃ B, Hid (rightB n l = B) := ⟨_, rfl⟩
  rw [hB.out]
  obtain ⟨N, hN⟩ : ∃ N : Nat, Hid (l.length = N) := ⟨_, rfl⟩
  rw [hN.out] at hl ⊢
  clear hA hin
  by_cases c0 : N = 0
  · subst c0
    have : B = false := by
      rw [← hB.out]
      unfold rightB
      rw [List.length_eq_zero_iff.1 hN.out]
      simp
    subst this
    have q0 : (((0 : Nat) : Int) == 0) = true := rfl
    go_enter Tryz.func79, Tryz.ntmps79
    go_wp2
    go_ret
    exact ⟨rfl, Below.refl _ _⟩
  have q0 : ((N : Int) == 0) = false := by simp; omega
  by_cases c1 : 256 < N
  · have : B = false := by
      rw [← hB.out]
      unfold rightB
      rw [decide_eq_false_iff_not]
      rintro ⟨_, h, _⟩
      rw [hN.out] at h
      omega
    subst this
    have q1 : (256 : Int) < (N : Int) := by omega
    go_enter Tryz.func79, Tryz.ntmps79
    go_wp2
    go_ret
    exact ⟨rfl, Below.refl _ _⟩
  have q1 : ¬ (256 : Int) < (N : Int) := by omega
  go_enter Tryz.func79, Tryz.ntmps79
  go_wp2
  go_loopw [5] (fun i w' => ∃ k : Nat, k ≤ N ∧ i = .int .i64 (k : Int) ∧ Hid (∀ (j : Nat) (x : Int), j < k → l[j]? = some x → 0 ≤ x ∧ x < n ∧ ∀ y, l[j - 1]? = some y → 0 < j → y < x) ∧ Hid (Below w.heap.size w w')) (fun i _ => N - (intOf i).toNat)
  case atStart => exact ⟨0, by omega, rfl, (fun j x h => by omega), Below.refl _ _⟩
  case round =>
    obtain ⟨k, hk, rfl, hG, hBl⟩ := hrel
    by_cases hkN : k < N
    · have b0 : (k : Int) < (N : Int) := by omega
      have hkl : k < l.length := by rw [hN.out]; exact hkN
      have AW := HA.out.below hBl.out (Nat.le_refl _)
      obtain ⟨x, rfl⟩ := HA.out.pos (by rw [hN.out]; omega)
      have hc := AW.cell k hkl
      have l0 : (0 : Int) ≤ (k : Int) := by omega
      have hel : l[k]? = some l[k] := List.getElem?_eq_getElem hkl
      have bad : (0 ≤ l[k] ∧ l[k] < n ∧ ∀ y, l[k - 1]? = some y → 0 < k → y < l[k]) ∨ B = false := by
        by_cases g : 0 ≤ l[k] ∧ l[k] < n ∧ ∀ y, l[k - 1]? = some y → 0 < k → y < l[k]
        · exact .inl g
        · refine .inr ?_
          rw [← hB.out]
          unfold rightB
          rw [decide_eq_false_iff_not]
          rintro ⟨_, _, hp, hi⟩
          apply g
          have := hi l[k] (List.getElem_mem hkl)
          refine ⟨this.1, this.2, fun y hy h0 => ?_⟩
          obtain ⟨hy1, hy2⟩ := List.getElem?_eq_some_iff.1 hy
          have := List.pairwise_iff_getElem.1 hp (k - 1) k hy1 hkl (by omega)
          omega
      have good : (0 ≤ l[k] ∧ l[k] < n ∧ ∀ y, l[k - 1]? = some y → 0 < k → y < l[k]) → ∀ (j : Nat) (x : Int), j < k + 1 → l[j]? = some x → 0 ≤ x ∧ x < n ∧ ∀ y, l[j - 1]? = some y → 0 < j → y < x := fun g j x hj hx => by
        by_cases e : j = k
        · subst e
          rw [hel] at hx
          cases hx
          exact g
        · exact hG.out j x (by omega) hx
      by_cases d1 : l[k] < 0
      · obtain rfl : B = false := by
          rcases bad with g | g
          · omega
          · exact g
        have HBl := hBl
        generalize l[k] = z at *
        have g1 : decide (z < 0) = true := decide_eq_true d1
        clear bad good hG hel
        go_wp2
        go_quiet (fail)
        go_wp2
        go_ret
        exact ⟨rfl, below_drewN12 HBl.out _⟩
      by_cases d2 : n ≤ l[k]
      · obtain rfl : B = false := by
          rcases bad with g | g
          · omega
          · exact g
        have HBl := hBl
        generalize l[k] = z at *
        have g1 : decide (z < 0) = false := decide_eq_false d1
        have g2 : decide (n ≤ z) = true := decide_eq_true d2
        clear bad good hG hel
        go_wp2
        go_quiet (fail)
        go_wp2
        go_ret
        exact ⟨rfl, below_drewN12 HBl.out _⟩
      by_cases d3 : k = 0
      · subst d3
        have hG' := hid (good ⟨by omega, by omega, fun y _ h => by omega⟩)
        have z0 : ¬ (0 : Int) < ((0 : Nat) : Int) := by omega
        have hc0 : wr.cell? x = some (.int .i64 l[0]) := by
          have := hc
          simpa [Addr.add] using this
        generalize l[0] = z at *
        have g1 : decide (z < 0) = false := decide_eq_false d1
        have g2 : decide (n ≤ z) = false := decide_eq_false d2
        have g3 : decide ((0 : Int) < ((0 : Nat) : Int)) = false := rfl
        have g3' : decide ((0 : Int) < 0) = false := rfl
        clear bad good hG hel
        go_wp2
        go_quiet (fail)
        go_wp2
        exact ⟨⟨0 + 1, by omega, by go_num, hG', below_drewN12 hBl.out _⟩, by simp [intOf]; omega⟩
      have hk1 : k - 1 < l.length := by omega
      have hcp := AW.cell (k - 1) hk1
      have hep : l[k - 1]? = some l[k - 1] := List.getElem?_eq_getElem hk1
      have z0 : (0 : Int) < (k : Int) := by omega
      have zw : IntKind.i64.wrap ((k : Int) - 1) = ((k - 1 : Nat) : Int) := by rw [IntKind.wrap_i64]; omega
      have zl : ((k - 1 : Nat) : Int) < (N : Int) := by omega
      have zg : (0 : Int) ≤ ((k - 1 : Nat) : Int) := by omega
      by_cases d4 : l[k] ≤ l[k - 1]
      · obtain rfl : B = false := by
          rcases bad with g | g
          · have := g.2.2 _ hep (by omega)
            omega
          · exact g
        generalize l[k] = z at *
        obtain ⟨y, hy0⟩ : ∃ y, l[k - 1] = y := ⟨_, rfl⟩
        rw [hy0] at hcp hep d4
        obtain ⟨k1, hk1e⟩ : ∃ k1, k - 1 = k1 := ⟨_, rfl⟩
        simp only [hk1e] at hcp hep zw zl zg hk1
        have g1 : decide (z < 0) = false := decide_eq_false d1
        have g2 : decide (n ≤ z) = false := decide_eq_false d2
        have g3 : decide ((0 : Int) < (k : Int)) = true := decide_eq_true z0
        have g3n : decide (0 < k) = true := decide_eq_true (by omega)
        have zs : (k : Int) - 1 = (k1 : Int) := by omega
        have g4 : decide (z ≤ y) = true := decide_eq_true d4
        clear bad good hG hel hep
        go_wp2
        go_quiet (fail)
        go_wp2
        go_ret
        exact ⟨rfl, below_drewN12 hBl.out _⟩
      · have hG' := hid (good ⟨by omega, by omega, fun y hy _ => by rw [hep] at hy; cases hy; omega⟩)
        generalize l[k] = z at *
        obtain ⟨y, hy0⟩ : ∃ y, l[k - 1] = y := ⟨_, rfl⟩
        rw [hy0] at hcp hep d4
        obtain ⟨k1, hk1e⟩ : ∃ k1, k - 1 = k1 := ⟨_, rfl⟩
        simp only [hk1e] at hcp hep zw zl zg hk1
        have g1 : decide (z < 0) = false := decide_eq_false d1
        have g2 : decide (n ≤ z) = false := decide_eq_false d2
        have g3 : decide ((0 : Int) < (k : Int)) = true := decide_eq_true z0
        have g3n : decide (0 < k) = true := decide_eq_true (by omega)
        have zs : (k : Int) - 1 = (k1 : Int) := by omega
        have g4 : decide (z ≤ y) = false := decide_eq_false d4
        clear bad good hG hel hep
        go_wp2
        go_quiet (fail)
        go_wp2
        exact ⟨⟨k + 1, by omega, by go_num, hG', below_drewN12 hBl.out _⟩, by simp [intOf]; omega⟩
    · obtain rfl : k = N := by omega
      have b0 : ¬ (k : Int) < (k : Int) := by omega
      have : B = true := by
        rw [← hB.out]
        unfold rightB
        rw [decide_eq_true_iff]
        have hkl := hN.out
        refine ⟨by intro e; rw [e] at hkl; simp at hkl; omega, by omega, pw_adj l fun j x y h1 h2 => ?_, fun x hx => ?_⟩
        · have hj := (List.getElem?_eq_some_iff.1 h2).1
          exact (hG.out (j + 1) y (by omega) h2).2.2 x (by simpa using h1) (by omega)
        · obtain ⟨j, hj, rfl⟩ := List.mem_iff_getElem.1 hx
          have := hG.out j l[j] (by omega) (List.getElem?_eq_getElem hj)
          exact ⟨this.1, this.2.1⟩
      subst this
      go_wp2
      go_ret
      exact ⟨rfl, hBl.out⟩
end Bat
end Go.Proofs.YtbodgecbakcaaaaGreatDoor

namespace Go.Proofs.YtbodgecbakcaaaaGreatDoor
open Go.RowKit
open Go.ChangeMaps (setBlock)
def Itr (w : World) (b r : Nat) (es : List ((Int × Int) × Value)) (sk : List (Int × Int)) : Prop :=
  ∃ arr clock since seen c0, w.heap[b]? = some (.map arr clock) ∧ ((∀ x ∈ arr.toList, x.born < clock) ∧ (arr.toList.map (·.born)).Nodup ∧ arr.toList.map (fun e => (e.key, e.val)) = es.map (fun x => (kv x.1, x.2)) ∧ es.Pairwise (fun x y => x.1 ≠ y.1) ∧ ∀ x ∈ es, InR x.1) ∧
    w.heap[r]? = some (.mapIter (some b) since seen c0) ∧ (∀ x ∈ arr.toList, x.born < since) ∧ since ≤ c0 ∧ since ≤ clock ∧ ∀ e ∈ arr.toList, ∀ p, e.key = kv p → (seen.contains e.born = true ↔ p ∈ sk)
end Go.Proofs.YtbodgecbakcaaaaGreatDoor

namespace Go.Proofs.YtbodgecbakcaaaaGreatDoor
open Go.RowKit
structure Cl (w0 w : World) (q b h s : Nat) (es : List ((Int × Int) × Value)) (R : Int × Int → List (List UInt8)) (B r q2 b2 : Nat) (es2 : List ((Int × Int) × Value)) (sk : List (Int × Int)) : Prop where
  src : Tr w q b h s es R
  it : Itr w b r es sk
  row : w.heap[q2]? = some (.cells #[.int .i64 (h : Int), .int .i64 (s : Int), .map (some b2)] 91 (0, 0))
  mp : Mp w b2 es2
  ks : ∀ p, has es2 p ↔ p ∈ sk
  el : ∀ p v, (p, v) ∈ es2 → Own w B v (svs (R p)) ∧ ∀ k, v.ownBlock = some k → k ≠ q2 ∧ k ≠ b2 ∧ k ≠ r
  apart : ∀ p v p' v' k, (p, v) ∈ es2 → (p', v') ∈ es2 → p ≠ p' → v.ownBlock = some k → v'.ownBlock ≠ some k
  ne : q2 ≠ b2 ∧ r ≠ q2 ∧ r ≠ b2
  lo : B ≤ q2 ∧ B ≤ b2 ∧ B ≤ r
  bB : ∀ k, Fb q b es k → k < B
  bel : Below B w0 w
  szB : B ≤ w.heap.size
end Go.Proofs.YtbodgecbakcaaaaGreatDoor

namespace Go.Proofs.YtbodgecbakcaaaaGreatDoor
open Go.RowKit
theorem append_at (w : World) (a : Option Addr) (cap : Nat) (L : List (List UInt8)) (hA : At w a L) (hlen : L.length ≤ 8796093022208) :
    ∃ v' w', (Builtin.append_ #[23, 23] 23 #[.slice none 0 0, .slice a L.length cap]).run Tryz.prog w = .ok v' w' ∧ Own w' w.heap.size v' (svs L) ∧ Below w.heap.size w w' := by
  obtain ⟨i0, hi, hz0, hz1, hz2⟩ := info_parts infoS
  by_cases h0 : L.length = 0
  · obtain rfl : L = [] := List.length_eq_zero_iff.1 h0
    refine ⟨_, w, append_zero w _ ?_, Own.nil _ _, Below.refl _ _⟩
    cases a with
    | none => exact Src.ofNil w Tryz.underlying23 cap
    | some x => exact Src.ofSlice w Tryz.underlying23 x 0 cap [] (by simp) (fun j u hj => by simp at hj) (fun u hu => by simp at hu)
  · obtain ⟨x, rfl⟩ := hA.pos (by omega)
    have hsrc : Src Tryz.prog 1 23 (.slice (some x) L.length cap) L.length (svs L) w :=
      Src.ofSlice w Tryz.underlying23 x L.length cap (svs L) (by rw [svs_length, Nat.mul_one]) (fun j u hj => by
        rw [svs, List.getElem?_map] at hj
        cases hp : L[j]? with
        | none => rw [hp] at hj; cases hj
        | some p =>
          rw [hp] at hj
          obtain rfl := Option.some.inj hj
          obtain ⟨y, e, _, hc⟩ := hA j p hp
          cases e
          exact hc) (fun u hu => svs_one hu)
    obtain ⟨v', w', h1, h2, h3, h4⟩ := run_append_O (P := Tryz.prog) w w.heap.size 23 23 23 9 i0 (.string ⟨#[]⟩) Tryz.underlying23 hi hz0 hz1 rfl (.slice none 0 0) (svs []) (Own.nil _ _) _ L.length (svs L) hsrc
      (by rw [svs_length, hz2]; simp; omega) (by rw [svs_length, maxLen]; simp; omega) (Nat.le_refl _) (fun _ => by omega)
    exact ⟨v', w', h1, by simpa [svs] using h2, Below.ofGrown h3 (Own.nil w w.heap.size).ge (Nat.le_refl _)⟩
end Go.Proofs.YtbodgecbakcaaaaGreatDoor
