import Derived.Test.YtmpaliocfikifaaGreatDoorCTL10
import Derived.Test.YtmpaliocfikifaaGreatDoorCO4
import Derived.Test.YtmpaliocfikifaaGreatDoorCO36
import Derived.BigQuiet
import Derived.Test.YtmpaliocfikifaaGreatDoorCSP18
import Derived.Maps.RangeRun
import Derived.Maps.Range
import Derived.Deep.CutRange
namespace Go.Proofs.YtmpaliocfikifaaGreatDoor
open Go.RowKit Go.Shelf
namespace Bat
set_option maxRecDepth 100000 in
set_option maxHeartbeats 4000000 in
/-- a tree of these leaves -/
theorem planted12_any (ht : Int) (L : List (List UInt8)) (hL : Tree.Hs L) (hl : L.length ≤ 1000) (a : Option Addr) (ca : Nat) (w : World) (h1 : -9223372036854775808 ≤ ht) (h2 : ht ≤ 9223372036854775807) (hA : At w a L) (Z : Tb w) :
    Calls Tryz.prog 8 #[.slice a L.length ca, .int .i64 ht] w fun e w' => ∃ (q h : Nat) (F : Nat → Prop), e = .returned (.pointer (some ⟨q, 0, none⟩)) ∧ TrL w' q h L F ∧ (∀ k, F k → w.heap.size ≤ k) ∧ Below w.heap.size w w' := by
  have HZ := hid Z
  have HA := hid hA
  have HL := hid hL
  have hT := Z.lt
  clear Z hA hL
  have p0 := pk_nonneg ht 8 (by omega)
  have p1 := pk_lt ht 8 (by omega)
  have i1 := pick_any ht 8 h1 h2 (by omega) (by omega) w
  obtain ⟨h, hh⟩ : ∃ h : Nat, (h : Int) = 1 + pk ht 8 := ⟨(1 + pk ht 8).toNat, by omega⟩
  have s1 : IntKind.i64.wrap (1 + pk ht 8) = (h : Int) := by rw [wrap_small _ (by omega) (by omega)]; omega
  have new := tNew_any h (by omega) (by omega) w hT
  have HH := hid hh
  generalize pk ht 8 = p at *
  obtain ⟨n, hn⟩ : ∃ n : Nat, Hid (L.length = n) := ⟨_, rfl⟩
  rw [hn.out] at hl ⊢
  clear hh p0 p1
  go_enter Tryz.func8, Tryz.ntmps8
  go_wp2_with (go_at_call 10; refine i1.mono ?_; rintro e w0 ⟨rfl, h0⟩; have h0 := h0.symm; subst h0)
  go_wp2_with (go_at_call 31; fail)
  refine new.mono ?_
  rintro e w1 ⟨q, F1, rfl, E1, hF1, B1⟩
  have E1 := hid E1
  have B1 := hid B1
  have hF1 := hid hF1
  clear new i1 s1
  go_wp2
  go_loopw [7, 8] (fun i _ w' => ∃ (k : Nat) (F : Nat → Prop), k ≤ n ∧ i = .int .i64 (k : Int) ∧ Hid (TrL w' q h (L.take k) F) ∧ Hid (∀ k, F k → w.heap.size ≤ k) ∧ Hid (Below w.heap.size w w')) (fun i _ _ => n - (intOf i).toNat)
  case atStart => exact ⟨0, F1, by omega, rfl, E1, hF1, B1⟩
  case round =>
    clear E1 B1 hF1
    obtain ⟨k, F, hk, rfl, hE, hF, hB⟩ := hrel
    by_cases hkn : k < n
    · have b0 : (k : Int) < (n : Int) := by omega
      have hkc : k < L.length := by rw [hn.out]; exact hkn
      obtain ⟨y, rfl, _, hy⟩ := (HA.out.below hB.out (Nat.le_refl _)) k L[k] (List.getElem?_eq_getElem hkc)
      have hnx := hid (show L.take (k + 1) = L.take k ++ [L[k]] by rw [List.take_add_one, List.getElem?_eq_getElem hkc]; rfl)
      have hlk : (L.take k).length = k := by rw [List.length_take]; omega
      have lr : L[k].length = 32 := HL.out _ (List.getElem_mem hkc)
      generalize L[k] = r at *
      have add := tAdd_any hE.out r lr (by rw [hlk]; omega) (HZ.out.below hB.out hT)
      rw [← hnx.out] at add
      rw [show sv r = Value.string ⟨r.toArray⟩ from rfl] at hy
      have HB := hB
      clear hB hE hnx hlk
      go_wp2_with (go_at_call 32; fail)
      refine add.mono ?_
      rintro e w3 ⟨rfl, F3, E3, M3⟩
      obtain ⟨b3, f3⟩ := M3.below (B := w.heap.size) HB.out.size hF.out
      have B3 := hid (HB.out.trans b3)
      have E3 := hid E3
      have f3 := hid f3
      clear b3 M3 add
      go_wp2
      exact ⟨⟨k + 1, F3, by omega, by go_num, E3, f3, B3⟩, by simp [intOf]; omega⟩
    · obtain rfl : k = n := by omega
      have b0 : ¬ (k : Int) < (k : Int) := by omega
      go_wp2
      go_ret
      have := hE.out
      rw [← hn.out, List.take_length] at this
      exact ⟨q, rfl, h, F, this, hF.out, hB.out⟩
set_option maxRecDepth 100000 in
set_option maxHeartbeats 8000000 in
/-- indices that rise, out of raw numbers -/
theorem rights12_any (raw : List Int) (n : Nat) (hn1 : 1 ≤ n) (hn2 : n ≤ 1099511627776) (a : Option Addr) (ca : Nat) (w : World) (hr : raw.length ≤ 9223372036854775807) (hin : ∀ c ∈ raw, -9223372036854775808 ≤ c ∧ c ≤ 9223372036854775807) (hA : AtI w a raw) :
    Calls Tryz.prog 25 #[.slice a raw.length ca, .int .i64 (n : Int)] w fun e w' => ∃ v, e = .returned v ∧ Own w' w.heap.size v (ivs (rgs (fun c => pk c n) raw 20)) ∧ Below w.heap.size w w' := by
  have HA := hid hA
  have HI := hid hin
  obtain ⟨N, hN⟩ : ∃ N : Nat, Hid (raw.length = N) := ⟨_, rfl⟩
  rw [hN.out] at hr ⊢
  have hpk := fun (c : Int) (h1 : -9223372036854775808 ≤ c) (h2 : c ≤ 9223372036854775807) w' => pick_any c (n : Int) h1 h2 (by omega) (by omega) w'
  clear hA hin
  go_enter Tryz.func25, Tryz.ntmps25
  go_wp2
  go_loopw [5, 6, 7, 8, 9, 10] (fun v i _ _ _ _ w' => ∃ k : Nat, k ≤ N ∧ k ≤ 20 ∧ i = .int .i64 (k : Int) ∧ Hid (Own w' w.heap.size v (ivs (rgs (fun c => pk c n) raw k))) ∧ Hid (Below w.heap.size w w')) (fun _ i _ _ _ _ _ => 20 - (intOf i).toNat)
  case atStart => exact ⟨0, by omega, by omega, rfl, Own.nil _ _, Below.refl _ _⟩
  case round =>
    obtain ⟨k, hk, hk20, rfl, hO, hB⟩ := hrel
    obtain ⟨w0, hw0⟩ : ∃ w0, w0 = wr := ⟨_, rfl⟩
    subst hw0
    by_cases hgo : k < N ∧ k < 20
    · obtain ⟨g1, g2⟩ := hgo
      have b0 : (k : Int) < (N : Int) := by omega
      have b1 : (k : Int) < 20 := by omega
      have hkr : k < raw.length := by rw [hN.out]; exact g1
      obtain ⟨x, rfl⟩ := HA.out.pos (by omega)
      have hcell := (HA.out.below hB.out (Nat.le_refl _)).cell k hkr
      have hci := HI.out raw[k] (List.getElem_mem hkr)
      have hnext := hid (rgs_succ (p := fun c => pk c n) hkr)
      have hL20 := hid (rgs_len (fun c => pk c n) raw k)
      have hpick := hpk raw[k] hci.1 hci.2
      obtain ⟨c, hc⟩ : ∃ c, pk raw[k] n = c := ⟨_, rfl⟩
      rw [hc] at hpick
      unfold Hid at hnext
      simp only [hc] at hnext
      have hnext := hid hnext
      generalize raw[k] = r0 at *
      generalize hLL : rgs (fun c => pk c n) raw k = L at *
      obtain ⟨la, lc, rfl, hat, -⟩ := hO.out.atI
      have HL := hid hat
      obtain ⟨m, hm⟩ : ∃ m : Nat, Hid (L.length = m) := ⟨_, rfl⟩
      rw [hm.out]
      have hm20 : m ≤ 20 := by have := hL20.out; rw [hm.out] at this; omega
      clear hc hci hat hpk hLL
      go_wp2_with (go_at_call 10; refine (hpick _).mono ?_; rintro e w1 ⟨rfl, h0⟩; have h0 := h0.symm; subst h0)
      go_loopw [8, 9, 10] (fun v q i w' => ∃ (j : Nat) (put : Bool) (out : List Int), j ≤ m ∧ i = .int .i64 (j : Int) ∧ q = .bool put ∧ Hid (Own w' w0.heap.size v (ivs out)) ∧ Hid (Below w0.heap.size w0 w') ∧ Hid (out ++ goI c (L.drop j) put = goI c L false) ∧ Hid (out.length ≤ 2 * j)) (fun _ _ i _ => m - (intOf i).toNat)
      case atStart => exact ⟨0, false, [], by omega, rfl, rfl, Own.nil _ _, Below.refl _ _, rfl, by unfold Hid; simp⟩
      case round =>
        obtain ⟨j, put, out, hj, rfl, rfl, hQ, hQB, hQe, hQl⟩ := hrel
        by_cases hjm : j < m
        · have d0 : (j : Int) < (m : Int) := by omega
          have hjL : j < L.length := by rw [hm.out]; exact hjm
          obtain ⟨y, rfl⟩ := HL.out.pos (by omega)
          have hy := (HL.out.below hQB.out (Nat.le_refl _)).cell j hjL
          have hdr := hid (List.drop_eq_getElem_cons hjL)
          have hl2 := hQl.out
          obtain ⟨z, hzL⟩ : ∃ z, L[j] = z := ⟨_, rfl⟩
          rw [hzL] at hy
          unfold Hid at hdr
          rw [hzL] at hdr
          have hdr := hid hdr
          have HZL := hid hzL
          clear hzL
          by_cases hz : z = c
          · subst hz
            have zz : (z == z) = true := by simp
            obtain ⟨v3, w3, hap, hO3, hb3⟩ := append_int wr w0.heap.size _ out z hQ.out (by omega) hQB.out.size
            have B3 := hid (hQB.out.trans hb3)
            have O3 := hid hO3
            have e3 : Hid ((out ++ [z]) ++ goI z (L.drop (j + 1)) true = goI z L false) := by
              unfold Hid
              rw [← hQe.out, hdr.out, goI, if_neg (by simp), List.append_assoc]
              simp
            clear hb3 hO3 hQe hdr
            go_wp2_with (at_builtin; go_must (refine Lib.wpList_append_run _ rfl _ _ 22 22 rfl _ _ rfl rfl _ _ hap ?_); clear hap)
            exact ⟨⟨j + 1, true, out ++ [z], by omega, by go_num, rfl, O3, B3, e3, by unfold Hid; simp; omega⟩, by simp [intOf]; omega⟩
          · have zz : (z == c) = false := by simp [hz]
            have zd : decide (z = c) = false := by simp [hz]
            cases put with
            | true =>
              obtain ⟨v3, w3, hap, hO3, hb3⟩ := append_int wr w0.heap.size _ out z hQ.out (by omega) hQB.out.size
              have B3 := hid (hQB.out.trans hb3)
              have O3 := hid hO3
              have e3 : Hid ((out ++ [z]) ++ goI c (L.drop (j + 1)) true = goI c L false) := by
                unfold Hid
                rw [← hQe.out, hdr.out, goI, if_neg (by simp), List.append_assoc]
                simp
              clear hb3 hO3 hQe hdr
              go_wp2_with (at_builtin; go_must (refine Lib.wpList_append_run _ rfl _ _ 22 22 rfl _ _ rfl rfl _ _ hap ?_); clear hap)
              exact ⟨⟨j + 1, true, out ++ [z], by omega, by go_num, rfl, O3, B3, e3, by unfold Hid; simp; omega⟩, by simp [intOf]; omega⟩
            | false =>
              by_cases hcz : c < z
              · obtain ⟨v2, w2, hap2, hO2, hb2⟩ := append_int wr w0.heap.size _ out c hQ.out (by omega) hQB.out.size
                have hQB2 := hQB.out.trans hb2
                have hy2 := (HL.out.below hQB2 (Nat.le_refl _)).cell j hjL
                rw [HZL.out] at hy2
                obtain ⟨v3, w3, hap, hO3, hb3⟩ := append_int w2 w0.heap.size _ (out ++ [c]) z hO2 (by simp; omega) hQB2.size
                have B3 := hid (hQB2.trans hb3)
                have O3 := hid hO3
                have e3 : Hid ((out ++ [c] ++ [z]) ++ goI c (L.drop (j + 1)) true = goI c L false) := by
                  unfold Hid
                  rw [← hQe.out, hdr.out, goI, if_pos ⟨by simp [hz], hcz⟩]
                  simp
                clear hb3 hO3 hO2 hb2 hQB2 hQe hdr
                go_wp2_with (at_builtin; first | (refine Lib.wpList_append_run _ rfl _ _ 22 22 rfl _ _ rfl rfl _ _ hap2 ?_; clear hap2) | (refine Lib.wpList_append_run _ rfl _ _ 22 22 rfl _ _ rfl rfl _ _ hap ?_; clear hap))
                exact ⟨⟨j + 1, true, out ++ [c] ++ [z], by omega, by go_num, rfl, O3, B3, e3, by unfold Hid; simp; omega⟩, by simp [intOf]; omega⟩
              · obtain ⟨v3, w3, hap, hO3, hb3⟩ := append_int wr w0.heap.size _ out z hQ.out (by omega) hQB.out.size
                have B3 := hid (hQB.out.trans hb3)
                have O3 := hid hO3
                have e3 : Hid ((out ++ [z]) ++ goI c (L.drop (j + 1)) false = goI c L false) := by
                  unfold Hid
                  rw [← hQe.out, hdr.out, goI, if_neg (by simp [hcz]), List.append_assoc]
                  simp [zd]
                clear hb3 hO3 hQe hdr
                go_wp2_with (at_builtin; go_must (refine Lib.wpList_append_run _ rfl _ _ 22 22 rfl _ _ rfl rfl _ _ hap ?_); clear hap)
                exact ⟨⟨j + 1, false, out ++ [z], by omega, by go_num, rfl, O3, B3, e3, by unfold Hid; simp; omega⟩, by simp [intOf]; omega⟩
        · obtain rfl : j = m := by omega
          have d0 : ¬ (j : Int) < (j : Int) := by omega
          have hdr : L.drop j = [] := List.drop_eq_nil_of_le (by rw [hm.out]; exact Nat.le_refl _)
          have hl2 := hQl.out
          have BW := hid (hB.out.trans (hQB.out.mono hB.out.size))
          cases put with
          | true =>
            have e3 : out = goI c L false := by
              have := hQe.out
              rw [hdr, goI_true, List.append_nil] at this
              exact this
            rw [e3, ← hnext.out] at hQ
            have O3 := hid (hQ.out.mono hB.out.size)
            clear hQe hdr e3 hQ
            go_wp2
            exact ⟨⟨k + 1, by omega, by omega, by go_num, O3, BW⟩, by simp [intOf]; omega⟩
          | false =>
            have e3 : out ++ [c] = goI c L false := by
              have := hQe.out
              rw [hdr] at this
              simpa [goI] using this
            obtain ⟨v3, w3, hap, hO3, hb3⟩ := append_int wr w0.heap.size _ out c hQ.out (by omega) hQB.out.size
            have B3 := hid (hB.out.trans ((hQB.out.trans hb3).mono hB.out.size))
            rw [e3, ← hnext.out] at hO3
            have O3 := hid (hO3.mono hB.out.size)
            clear hQe hdr e3 hO3 hb3 hQ
            go_wp2_with (at_builtin; go_must (refine Lib.wpList_append_run _ rfl _ _ 22 22 rfl _ _ rfl rfl _ _ hap ?_); clear hap)
            exact ⟨⟨k + 1, by omega, by omega, by go_num, O3, B3⟩, by simp [intOf]; omega⟩
    · have e : rgs (fun c => pk c n) raw k = rgs (fun c => pk c n) raw 20 := by
        have := hN.out
        by_cases h : k < N
        · rw [show k = 20 by omega]
        · have := rgs_end (p := fun c => pk c n) (raw := raw) (k := k) (by omega) (20 - k)
          rw [show k + (20 - k) = 20 by omega] at this
          exact this.symm
      rw [e] at hO
      by_cases h1 : k < N
      · have b0 : (k : Int) < (N : Int) := by omega
        have b1 : ¬ (k : Int) < 20 := by omega
        go_wp2
        go_ret
        exact ⟨_, rfl, hO.out, hB.out⟩
      · have b0 : ¬ (k : Int) < (N : Int) := by omega
        go_wp2
        go_ret
        exact ⟨_, rfl, hO.out, hB.out⟩
end Bat
end Go.Proofs.YtmpaliocfikifaaGreatDoor

namespace Go.Proofs.YtmpaliocfikifaaGreatDoor
open Go.RowKit Go.Shelf
namespace Bat
/-- are these indices for a size? -/
def rightB (n : Int) (l : List Int) : Bool := decide (l ≠ [] ∧ l.length ≤ 256 ∧ l.Pairwise (· < ·) ∧ ∀ x ∈ l, 0 ≤ x ∧ x < n)
theorem pw_adj : ∀ (l : List Int), (∀ (j : Nat) (x y : Int), l[j]? = some x → l[j + 1]? = some y → x < y) → l.Pairwise (· < ·)
  | [], _ => List.Pairwise.nil
  | [a], _ => List.pairwise_singleton _ _
  | a :: b :: l, h => by
    have ih := pw_adj (b :: l) (fun j x y h1 h2 => h (j + 1) x y h1 h2)
    have hab := h 0 a b rfl rfl
    refine List.pairwise_cons.2 ⟨fun y hy => ?_, ih⟩
    rcases List.mem_cons.1 hy with rfl | hy
    · exact hab
    · exact Int.lt_trans hab ((List.pairwise_cons.1 ih).1 y hy)
theorem batOk_iff {n : Int} {l : List Int} (h1 : 1 ≤ n) (h2 : n ≤ 1099511627776) : BatOk n l ↔ rightB n l = true := by
  unfold rightB
  rw [decide_eq_true_iff]
  constructor
  · intro b
    exact ⟨List.length_pos_iff.1 b.l1, b.l2, b.so, b.all⟩
  · rintro ⟨q1, q2, q3, q4⟩
    obtain ⟨m, rfl⟩ := Int.eq_ofNat_of_zero_le (show 0 ≤ n by omega)
    have l1 : 0 < l.length := List.length_pos_iff.2 q1
    have m0 := q4 l[0] (List.getElem_mem l1)
    have m1 := q4 (l[l.length - 1]'(by omega)) (List.getElem_mem (by omega))
    exact ⟨h1, h2, l1, q2, q3, by rw [getD_at l1]; omega, by rw [getD_at l1]; omega, by rw [getD_at (by omega)]; omega, by rw [getD_at (by omega)]; omega⟩
/-- B1, as the document says it -/
theorem tolE_is {n : Int} {l : List Int} : tolE n l = if 1 ≤ n ∧ n ≤ 1099511627776 then (if rightB n l = true then 0 else 120) else 121 := by
  by_cases h : 1 ≤ n ∧ n ≤ 1099511627776
  · rw [if_pos h]
    by_cases hr : rightB n l = true
    · rw [if_pos hr]
      exact tolE_zero.2 (batchE_ok ((batOk_iff h.1 h.2).2 hr))
    · rw [if_neg hr]
      have h0 : batchE n l ≠ 0 := fun e => hr ((batOk_iff h.1 h.2).1 (BatOk.of e))
      have h1 : batchE n l ≠ 81 := by
        unfold batchE
        rw [if_pos h]
        split
        · omega
        · split
          · split
            · split <;> omega
            · omega
          · omega
      unfold tolE
      rw [if_neg h0, if_neg h1]
  · rw [if_neg h]
    have h1 : batchE n l = 81 := by unfold batchE; rw [if_neg h]
    unfold tolE
    rw [h1]
    rfl
theorem below_drewN12 {B : Nat} {a w : World} (h : Below B a w) (n : Nat) : Below B a (w.drewN n) := ⟨h.os, h.tape, h.output, h.size, h.block⟩
set_option maxRecDepth 100000 in
set_option maxHeartbeats 800000 in
theorem rright_any (n : Int) (l : List Int) (hl : l.length ≤ 9223372036854775807) (hin : ∀ c ∈ l, -9223372036854775808 ≤ c ∧ c ≤ 9223372036854775807) (a : Option Addr) (ca : Nat) (w : World) (hA : AtI w a l) :
    Calls Tryz.prog 59 #[.int .i64 n, .slice a l.length ca] w fun r w' => r = .returned (.bool (rightB n l)) ∧ Below w.heap.size w w' := by
  have HA := hid hA
  have HI := hid hin
  obtain ⟨B, hB⟩ : ∃ B, Hid (rightB n l = B) := ⟨_, rfl⟩
  rw [hB.out]
  obtain ⟨N, hN⟩ : ∃ N : Nat, Hid (l.length = N) := ⟨_, rfl⟩
  rw [hN.out] at hl ⊢
  clear hA hin
  by_cases c0 : N = 0
  · subst c0
    have : B = false := by
      rw [← hB.out]
      unfold rightB
      rw [List.length_eq_zero_iff.1 hN.out]
      simp
    subst this
    have q0 : (((0 : Nat) : Int) == 0) = true := rfl
    go_enter Tryz.func59, Tryz.ntmps59
    go_wp2
    go_ret
    exact ⟨rfl, Below.refl _ _⟩
  have q0 : ((N : Int) == 0) = false := by simp; omega
  by_cases c1 : 256 < N
  · have : B = false := by
      rw [← hB.out]
      unfold rightB
      rw [decide_eq_false_iff_not]
      rintro ⟨_, h, _⟩
      rw [hN.out] at h
      omega
    subst this
    have q1 : (256 : Int) < (N : Int) := by omega
    go_enter Tryz.func59, Tryz.ntmps59
    go_wp2
    go_ret
    exact ⟨rfl, Below.refl _ _⟩
  have q1 : ¬ (256 : Int) < (N : Int) := by omega
  go_enter Tryz.func59, Tryz.ntmps59
  go_wp2
  go_loopw [5] (fun i w' => ∃ k : Nat, k ≤ N ∧ i = .int .i64 (k : Int) ∧ Hid (∀ (j : Nat) (x : Int), j < k → l[j]? = some x → 0 ≤ x ∧ x < n ∧ ∀ y, l[j - 1]? = some y → 0 < j → y < x) ∧ Hid (Below w.heap.size w w')) (fun i _ => N - (intOf i).toNat)
  case atStart => exact ⟨0, by omega, rfl, (fun j x h => by omega), Below.refl _ _⟩
  case round =>
    obtain ⟨k, hk, rfl, hG, hBl⟩ := hrel
    by_cases hkN : k < N
    · have b0 : (k : Int) < (N : Int) := by omega
      have hkl : k < l.length := by rw [hN.out]; exact hkN
      have AW := HA.out.below hBl.out (Nat.le_refl _)
      obtain ⟨x, rfl⟩ := HA.out.pos (by rw [hN.out]; omega)
      have hc := AW.cell k hkl
      have l0 : (0 : Int) ≤ (k : Int) := by omega
      have hel : l[k]? = some l[k] := List.getElem?_eq_getElem hkl
      have bad : (0 ≤ l[k] ∧ l[k] < n ∧ ∀ y, l[k - 1]? = some y → 0 < k → y < l[k]) ∨ B = false := by
        by_cases g : 0 ≤ l[k] ∧ l[k] < n ∧ ∀ y, l[k - 1]? = some y → 0 < k → y < l[k]
        · exact .inl g
        · refine .inr ?_
          rw [← hB.out]
          unfold rightB
          rw [decide_eq_false_iff_not]
          rintro ⟨_, _, hp, hi⟩
          apply g
          have := hi l[k] (List.getElem_mem hkl)
          refine ⟨this.1, this.2, fun y hy h0 => ?_⟩
          obtain ⟨hy1, hy2⟩ := List.getElem?_eq_some_iff.1 hy
          have := List.pairwise_iff_getElem.1 hp (k - 1) k hy1 hkl (by omega)
          omega
      have good : (0 ≤ l[k] ∧ l[k] < n ∧ ∀ y, l[k - 1]? = some y → 0 < k → y < l[k]) → ∀ (j : Nat) (x : Int), j < k + 1 → l[j]? = some x → 0 ≤ x ∧ x < n ∧ ∀ y, l[j - 1]? = some y → 0 < j → y < x := fun g j x hj hx => by
        by_cases e : j = k
        · subst e
          rw [hel] at hx
          cases hx
          exact g
        · exact hG.out j x (by omega) hx
      by_cases d1 : l[k] < 0
      · obtain rfl : B = false := by
          rcases bad with g | g
          · omega
          · exact g
        have HBl := hBl
        generalize l[k] = z at *
        have g1 : decide (z < 0) = true := decide_eq_true d1
        clear bad good hG hel
        go_wp2
        go_quiet (fail)
        go_wp2
        go_ret
        exact ⟨rfl, below_drewN12 HBl.out _⟩
      by_cases d2 : n ≤ l[k]
      · obtain rfl : B = false := by
          rcases bad with g | g
          · omega
          · exact g
        have HBl := hBl
        generalize l[k] = z at *
        have g1 : decide (z < 0) = false := decide_eq_false d1
        have g2 : decide (n ≤ z) = true := decide_eq_true d2
        clear bad good hG hel
        go_wp2
        go_quiet (fail)
        go_wp2
        go_ret
        exact ⟨rfl, below_drewN12 HBl.out _⟩
      by_cases d3 : k = 0
      · subst d3
        have hG' := hid (good ⟨by omega, by omega, fun y _ h => by omega⟩)
        have z0 : ¬ (0 : Int) < ((0 : Nat) : Int) := by omega
        have hc0 : wr.cell? x = some (.int .i64 l[0]) := by
          have := hc
          simpa [Addr.add] using this
        generalize l[0] = z at *
        have g1 : decide (z < 0) = false := decide_eq_false d1
        have g2 : decide (n ≤ z) = false := decide_eq_false d2
        have g3 : decide ((0 : Int) < ((0 : Nat) : Int)) = false := rfl
        have g3' : decide ((0 : Int) < 0) = false := rfl
        clear bad good hG hel
        go_wp2
        go_quiet (fail)
        go_wp2
        exact ⟨⟨0 + 1, by omega, by go_num, hG', below_drewN12 hBl.out _⟩, by simp [intOf]; omega⟩
      have hk1 : k - 1 < l.length := by omega
      have hcp := AW.cell (k - 1) hk1
      have hep : l[k - 1]? = some l[k - 1] := List.getElem?_eq_getElem hk1
      have z0 : (0 : Int) < (k : Int) := by omega
      have zw : IntKind.i64.wrap ((k : Int) - 1) = ((k - 1 : Nat) : Int) := by rw [IntKind.wrap_i64]; omega
      have zl : ((k - 1 : Nat) : Int) < (N : Int) := by omega
      have zg : (0 : Int) ≤ ((k - 1 : Nat) : Int) := by omega
      by_cases d4 : l[k] ≤ l[k - 1]
      · obtain rfl : B = false := by
          rcases bad with g | g
          · have := g.2.2 _ hep (by omega)
            omega
          · exact g
        generalize l[k] = z at *
        obtain ⟨y, hy0⟩ : ∃ y, l[k - 1] = y := ⟨_, rfl⟩
        rw [hy0] at hcp hep d4
        obtain ⟨k1, hk1e⟩ : ∃ k1, k - 1 = k1 := ⟨_, rfl⟩
        simp only [hk1e] at hcp hep zw zl zg hk1
        have g1 : decide (z < 0) = false := decide_eq_false d1
        have g2 : decide (n ≤ z) = false := decide_eq_false d2
        have g3 : decide ((0 : Int) < (k : Int)) = true := decide_eq_true z0
        have g3n : decide (0 < k) = true := decide_eq_true (by omega)
        have zs : (k : Int) - 1 = (k1 : Int) := by omega
        have g4 : decide (z ≤ y) = true := decide_eq_true d4
        clear bad good hG hel hep
        go_wp2
        go_quiet (fail)
        go_wp2
        go_ret
        exact ⟨rfl, below_drewN12 hBl.out _⟩
      · have hG' := hid (good ⟨by omega, by omega, fun y hy _ => by rw [hep] at hy; cases hy; omega⟩)
        generalize l[k] = z at *
        obtain ⟨y, hy0⟩ : ∃ y, l[k - 1] = y := ⟨_, rfl⟩
        rw [hy0] at hcp hep d4
        obtain ⟨k1, hk1e⟩ : ∃ k1, k - 1 = k1 := ⟨_, rfl⟩
        simp only [hk1e] at hcp hep zw zl zg hk1
        have g1 : decide (z < 0) = false := decide_eq_false d1
        have g2 : decide (n ≤ z) = false := decide_eq_false d2
        have g3 : decide ((0 : Int) < (k : Int)) = true := decide_eq_true z0
        have g3n : decide (0 < k) = true := decide_eq_true (by omega)
        have zs : (k : Int) - 1 = (k1 : Int) := by omega
        have g4 : decide (z ≤ y) = false := decide_eq_false d4
        clear bad good hG hel hep
        go_wp2
        go_quiet (fail)
        go_wp2
        exact ⟨⟨k + 1, by omega, by go_num, hG', below_drewN12 hBl.out _⟩, by simp [intOf]; omega⟩
    · obtain rfl : k = N := by omega
      have b0 : ¬ (k : Int) < (k : Int) := by omega
      have : B = true := by
        rw [← hB.out]
        unfold rightB
        rw [decide_eq_true_iff]
        have hkl := hN.out
        refine ⟨by intro e; rw [e] at hkl; simp at hkl; omega, by omega, pw_adj l fun j x y h1 h2 => ?_, fun x hx => ?_⟩
        · have hj := (List.getElem?_eq_some_iff.1 h2).1
          exact (hG.out (j + 1) y (by omega) h2).2.2 x (by simpa using h1) (by omega)
        · obtain ⟨j, hj, rfl⟩ := List.mem_iff_getElem.1 hx
          have := hG.out j l[j] (by omega) (List.getElem?_eq_getElem hj)
          exact ⟨this.1, this.2.1⟩
      subst this
      go_wp2
      go_ret
      exact ⟨rfl, hBl.out⟩
end Bat
end Go.Proofs.YtmpaliocfikifaaGreatDoor

namespace Go.Proofs.YtmpaliocfikifaaGreatDoor
open Go.RowKit
theorem Tb.mov {w w' : World} {F F' : Nat → Prop} (Z : Tb w) (hm : Mov F w w' F') (hF : ∀ k, F k → 4 ≤ k) : Tb w' := Z.below (hm.below Z.lt hF).1 (Nat.le_refl _)
end Go.Proofs.YtmpaliocfikifaaGreatDoor

namespace Go.Proofs.YtmpaliocfikifaaGreatDoor
open Go.RowKit
end Go.Proofs.YtmpaliocfikifaaGreatDoor

namespace Go.Proofs.YtmpaliocfikifaaGreatDoor
open Go.RowKit
/-- T3: the hashes that a tile has so far -/
def tileO (L : List (List UInt8)) (h : Nat) (l i : Int) : List (List UInt8) := if 0 ≤ l ∧ 2 ^ l.toNat ≤ L.length then Til.rf L h (Til.cn L.length) (l * (h : Int), i) else []
theorem blen (n : Nat) (hn : n < 18446744073709551616) (w : World) : ∃ c : Nat, c ≤ 64 ∧ (∀ l : Nat, 2 ^ l ≤ n ↔ l < c) ∧ Calls Tryz.prog 82 #[.int .u64 (n : Int)] w fun e w' => e = .returned (.int .i64 (c : Int)) ∧ w' = w := by
  by_cases h0 : n = 0
  · subst h0
    refine ⟨0, by omega, fun l => ⟨fun h => absurd (Nat.two_pow_pos l) (by omega), fun h => absurd h (by omega)⟩, ?_⟩
    have := lenU_any (0 : Nat) (by omega) (by omega) w
    exact this
  · have h1 : n.log2 < 64 := (Nat.log2_lt h0).2 hn
    refine ⟨n.log2 + 1, by omega, fun l => ?_, ?_⟩
    · rw [Nat.lt_succ_iff, ← Nat.le_log2 h0]
    · have := lenU_nat n n.log2 (by omega) hn rfl w
      exact this
end Go.Proofs.YtmpaliocfikifaaGreatDoor

namespace Go.Proofs.YtmpaliocfikifaaGreatDoor
open Go.RowKit
/-- what Tile answers: none, or a list of its own -/
def TileP (w : World) (l : List (List UInt8)) (r : Ending) (w' : World) : Prop :=
  Below w.heap.size w w' ∧ if l = [] then r = .returned (.tuple #[.slice none 0 0, .int .i64 72]) else ∃ g, w.heap.size ≤ g ∧ r = .returned (.tuple #[.slice (some ⟨g, 0, none⟩) l.length l.length, .int .i64 0]) ∧ Row w' g l
theorem tileO_len {w : World} {q h : Nat} {L : List (List UInt8)} {F : Nat → Prop} (t : TrL w q h L F) (l i : Int) : (tileO L h l i).length ≤ 2000000 := by
  unfold tileO
  split
  · exact Til.rf_len L h t.h8 _ _
  · simp
end Go.Proofs.YtmpaliocfikifaaGreatDoor

namespace Go.Proofs.YtmpaliocfikifaaGreatDoor
open Go.RowKit
open Go.ChangeMaps (setBlock)
theorem nodup_inj {α β : Type} {f : α → β} : ∀ {l : List α}, (l.map f).Nodup → ∀ {x y : α}, x ∈ l → y ∈ l → f x = f y → x = y
  | [], _, _, _, hx, _, _ => by cases hx
  | a :: l, h, x, y, hx, hy, e => by
    rw [List.map_cons, List.nodup_cons] at h
    rcases List.mem_cons.1 hx with ex | mx
    · rcases List.mem_cons.1 hy with ey | my
      · rw [ex, ey]
      · exact absurd (List.mem_map.2 ⟨y, my, by rw [← e, ex]⟩) h.1
    · rcases List.mem_cons.1 hy with ey | my
      · exact absurd (List.mem_map.2 ⟨x, mx, by rw [e, ey]⟩) h.1
      · exact nodup_inj h.2 mx my e
/-- m[p] = v, of a place that it has not -/
theorem Mp.store {w : World} {b : Nat} {es : List ((Int × Int) × Value)} (h : Mp w b es) {p : Int × Int} (hp : InR p) (hno : ¬ has es p) (val : Value) :
    ∃ w', (Instr.mapUpdate 75 (.map (some b)) (.agg #[.int .i64 p.1, .int .i64 p.2]) val).run Tryz.prog w = .ok () w' ∧ Mp w' b (es ++ [(p, val)]) ∧ But b w w' ∧ w'.heap.size = w.heap.size := by
  obtain ⟨arr, clock, hb, h1, h2, h3, h4, h5⟩ := h
  obtain ⟨l, hl⟩ := keyPl hp
  rcases lawPl.find w hl arr.toList (Mp.keysOk h3 h5) with ⟨f1, f2⟩ | ⟨j, e0, f1, f2, f3⟩
  · refine ⟨setBlock w b (.map (arr.push ⟨kv p, val, clock⟩) (clock + 1)), ?_, ⟨_, _, setBlock_at hb, ?_, ?_, ?_, ?_, ?_⟩, (But.refl b w).setBlock _, by simp [setBlock]⟩
    · have := lawPl.check w false hl
      unfold kv at this f1
      simp [Instr.mapUpdate, run_underlying undMp, MapKept.run_getObj_map hb, this, f1, MapKept.run_setObj_map _ hb, setBlock, kv]
    · intro x hx
      rw [Array.toList_push, List.mem_append, List.mem_singleton] at hx
      rcases hx with hx | rfl
      · have := h1 x hx; omega
      · simp
    · simp only [Array.toList_push, List.map_append, List.map_cons, List.map_nil]
      refine List.nodup_append.2 ⟨h2, by simp, fun a ha c hc e1 => ?_⟩
      simp only [List.mem_singleton] at hc
      obtain ⟨x, hx, rfl⟩ := List.mem_map.1 ha
      have := h1 x hx
      omega
    · simp only [Array.toList_push, List.map_append, List.map_cons, List.map_nil, h3]
    · have := put_keys (p := p) (v := val) h4
      rwa [put_new hno] at this
    · intro x hx
      rcases List.mem_append.1 hx with hx | hx
      · exact h5 x hx
      · rw [List.mem_singleton.1 hx]; exact hp
  · exact absurd ⟨_, Mp.memE h3 (List.mem_of_getElem? f2) f3⟩ hno
theorem Mp.len {w : World} {b : Nat} {es : List ((Int × Int) × Value)} (h : Mp w b es) (ty : TypeId) : ∃ n : Nat, (Builtin.len_ #[75] ty #[.map (some b)]).run Tryz.prog w = .ok (.int .i64 (n : Int)) w := by
  obtain ⟨arr, clock, hb, _⟩ := h
  exact ⟨arr.size, by simp [Builtin.len_, run_underlying undMp, MapKept.run_getObj_map hb, goInt, Result.andThen]⟩
theorem make_map (w : World) (n : Nat) : (Instr.makeMap 75 (some (.int .i64 (n : Int)))).run Tryz.prog w = .ok (.map (some w.heap.size)) (w.alloc (.map #[] 0)) := by
  simp [Instr.makeMap, run_underlying undMp, asInt, asIntOf, Result.andThen]
/-- a map that is ranged over: the places that came out -/
def Itr (w : World) (b r : Nat) (es : List ((Int × Int) × Value)) (sk : List (Int × Int)) : Prop :=
  ∃ arr clock since seen c0, w.heap[b]? = some (.map arr clock) ∧ ((∀ x ∈ arr.toList, x.born < clock) ∧ (arr.toList.map (·.born)).Nodup ∧ arr.toList.map (fun e => (e.key, e.val)) = es.map (fun x => (kv x.1, x.2)) ∧ es.Pairwise (fun x y => x.1 ≠ y.1) ∧ ∀ x ∈ es, InR x.1) ∧
    w.heap[r]? = some (.mapIter (some b) since seen c0) ∧ (∀ x ∈ arr.toList, x.born < since) ∧ since ≤ c0 ∧ since ≤ clock ∧ ∀ e ∈ arr.toList, ∀ p, e.key = kv p → (seen.contains e.born = true ↔ p ∈ sk)
theorem Itr.heap {w w' : World} {b r : Nat} {es : List ((Int × Int) × Value)} {sk : List (Int × Int)} (h : Itr w b r es sk) (h1 : w'.heap[b]? = w.heap[b]?) (h2 : w'.heap[r]? = w.heap[r]?) : Itr w' b r es sk ∧ w'.rangeLeft b r = w.rangeLeft b r := by
  obtain ⟨arr, clock, since, seen, c0, g1, g2, g3, g4⟩ := h
  exact ⟨⟨arr, clock, since, seen, c0, h1.trans g1, g2, h2.trans g3, g4⟩, by unfold World.rangeLeft; rw [h1, h2]⟩
theorem Itr.lt {w : World} {b r : Nat} {es : List ((Int × Int) × Value)} {sk : List (Int × Int)} (h : Itr w b r es sk) : b < w.heap.size ∧ r < w.heap.size ∧ r ≠ b := by
  obtain ⟨arr, clock, since, seen, c0, g1, g2, g3, g4⟩ := h
  refine ⟨(Array.getElem?_eq_some_iff.1 g1).1, (Array.getElem?_eq_some_iff.1 g3).1, fun e => ?_⟩
  rw [e, g1] at g3
  cases g3
theorem Itr.start {w : World} {b : Nat} {es : List ((Int × Int) × Value)} (h : Mp w b es) : ∃ w', (Instr.range 75 (.map (some b))).run Tryz.prog w = .ok (.pointer (some ⟨w.heap.size, 0, none⟩)) w' ∧ Itr w' b w.heap.size es [] ∧ Below w.heap.size w w' ∧ w'.heap.size = w.heap.size + 1 := by
  have hlt := h.lt
  obtain ⟨arr, clock, hb, h1, h2, h3, h4, h5⟩ := h
  have ba := (Below.refl w.heap.size w).alloc (Nat.le_refl _) (.mapIter (some b) clock #[] clock)
  exact ⟨_, run_range_map w _ _ _ b arr clock undMp hb, ⟨arr, clock, clock, #[], clock, (ba.block b hlt).trans hb, ⟨h1, h2, h3, h4, h5⟩, heap_alloc_new w _, h1, Nat.le_refl _, Nat.le_refl _, fun e he p hp => by simp⟩, ba, size_alloc w _⟩
theorem Itr.next {w : World} {b r : Nat} {es : List ((Int × Int) × Value)} {sk : List (Int × Int)} (h : Itr w b r es sk) (ty : TypeId) :
    ((∀ x ∈ es, x.1 ∈ sk) ∧ (Instr.next (.pointer (some ⟨r, 0, none⟩)) false ty).run Tryz.prog w = .ok (.tuple #[.bool false]) w) ∨
    ∃ p v w', (p, v) ∈ es ∧ p ∉ sk ∧ InR p ∧ (Instr.next (.pointer (some ⟨r, 0, none⟩)) false ty).run Tryz.prog w = .ok (.tuple #[.bool true, .agg #[.int .i64 p.1, .int .i64 p.2], v]) w' ∧ But r w w' ∧ w'.heap.size = w.heap.size ∧ Itr w' b r es (sk ++ [p]) ∧ w'.rangeLeft b r < w.rangeLeft b r ∧
      (Instr.entry (.pointer (some ⟨r, 0, none⟩))).run Tryz.prog w' = .ok (.tuple #[.agg #[.int .i64 p.1, .int .i64 p.2], v]) w' := by
  obtain ⟨hbl, hrl, hrb⟩ := h.lt
  obtain ⟨arr, clock, since, seen, c0, hb, ⟨h1, h2, h3, h4, h5⟩, hr, hold, hsc, hsk, hdone⟩ := h
  rcases run_next_at (P := Tryz.prog) w ty r b since c0 seen arr clock hr hb hold hsc with ⟨h0, hrun⟩ | ⟨e, he, w1, hal, hrun⟩
  · refine .inl ⟨fun x hx => ?_, hrun⟩
    have hm : (kv x.1, x.2) ∈ arr.toList.map (fun e => (e.key, e.val)) := by rw [h3]; exact List.mem_map.2 ⟨x, hx, rfl⟩
    obtain ⟨e, he, hee⟩ := List.mem_map.1 hm
    exact (hdone e he x.1 (congrArg Prod.fst hee)).1 (all_seen arr seen h0 e he)
  · obtain ⟨hem, hes⟩ := mem_left he
    have hm : (e.key, e.val) ∈ es.map (fun x => (kv x.1, x.2)) := by rw [← h3]; exact List.mem_map.2 ⟨e, hem, rfl⟩
    obtain ⟨x, hx, hxe⟩ := List.mem_map.1 hm
    have hk : e.key = kv x.1 := (congrArg Prod.fst hxe).symm
    have hv : e.val = x.2 := (congrArg Prod.snd hxe).symm
    have hr1 : w1.heap[r]? = some (.mapIter (some b) since seen c0) := by rcases hal with rfl | rfl <;> exact hr
    have hb1 : w1.heap[b]? = some (.map arr clock) := by rcases hal with rfl | rfl <;> exact hb
    have bt : But r w1 (setBlock w1 r (.mapIter (some b) since (seen.push e.born) clock)) := (But.refl r w1).setBlock _
    have bt' : But r w (setBlock w1 r (.mapIter (some b) since (seen.push e.born) clock)) := by
      rcases hal with rfl | rfl
      · exact bt
      · exact (But.refl r w).drew.trans bt
    have hr2 := setBlock_at (o' := .mapIter (some b) since (seen.push e.born) clock) hr1
    have hb2 := (bt'.block b hbl (Ne.symm hrb)).trans hb
    have hent := run_entry_at (P := Tryz.prog) _ r b since seen arr clock e hr2 hb2 hem h2
    rw [hk, hv] at hrun hent
    refine .inr ⟨x.1, x.2, _, hx, fun hin => ?_, h5 x hx, hrun, bt', ?_, ⟨arr, clock, since, seen.push e.born, clock, hb2, ⟨h1, h2, h3, h4, h5⟩, hr2, hold, hsk, hsk, fun e' he' p hp => ?_⟩, ?_, hent⟩
    · rw [(hdone e hem x.1 hk).2 hin] at hes
      cases hes
    · rcases hal with rfl | rfl <;> simp [setBlock]
    · rw [contains_push, Bool.or_eq_true, List.mem_append, List.mem_singleton, hdone e' he' p hp]
      constructor
      · rintro (h | h)
        · exact .inl h
        · have hbe : e'.born = e.born := eq_of_beq h
          have : e' = e := nodup_inj h2 he' hem hbe
          rw [this, hk] at hp
          exact .inr (kv_inj hp).symm
      · rintro (h | h)
        · exact .inl h
        · right
          subst h
          have hm1 : e'.key = e.key := hp.trans hk.symm
          have : e' = e := by
            have hn : (arr.toList.map (·.key)).Nodup := by
              have e1 : arr.toList.map (·.key) = es.map (fun x => kv x.1) := by
                have := congrArg (List.map Prod.fst) h3
                rw [List.map_map, List.map_map] at this
                exact this
              rw [e1]
              exact List.pairwise_map.2 (h4.imp fun {a b} hab e => hab (kv_inj e))
            exact nodup_inj hn he' hem hm1
          rw [this]; simp
    · have l1 : w.rangeLeft b r = (leftOf arr seen).size := by unfold World.rangeLeft; rw [hb, hr]
      have l2 : (setBlock w1 r (.mapIter (some b) since (seen.push e.born) clock)).rangeLeft b r = (leftOf arr (seen.push e.born)).size := by unfold World.rangeLeft; rw [hb2, hr2]
      rw [l1, l2]
      exact left_shrinks arr seen e he
end Go.Proofs.YtmpaliocfikifaaGreatDoor

namespace Go.Proofs.YtmpaliocfikifaaGreatDoor
open Go.RowKit
theorem own_g {g n c k : Nat} (h : (Value.slice (some ⟨g, 0, none⟩) n c).ownBlock = some k) : g = k := by cases h; rfl
/-- a tree that is cloned: the places sk are done -/
structure Cl (w0 w : World) (q b h s : Nat) (es : List ((Int × Int) × Value)) (R : Int × Int → List (List UInt8)) (B r q2 b2 : Nat) (es2 : List ((Int × Int) × Value)) (sk : List (Int × Int)) : Prop where
  src : Tr w q b h s es R
  it : Itr w b r es sk
  row : w.heap[q2]? = some (.cells #[.int .i64 (h : Int), .int .i64 (s : Int), .map (some b2)] 77 (0, 0))
  mp : Mp w b2 es2
  ks : ∀ p, has es2 p ↔ p ∈ sk
  el : ∀ p v, (p, v) ∈ es2 → Own w B v (svs (R p)) ∧ ∀ k, v.ownBlock = some k → k ≠ q2 ∧ k ≠ b2 ∧ k ≠ r
  apart : ∀ p v p' v' k, (p, v) ∈ es2 → (p', v') ∈ es2 → p ≠ p' → v.ownBlock = some k → v'.ownBlock ≠ some k
  ne : q2 ≠ b2 ∧ r ≠ q2 ∧ r ≠ b2
  lo : B ≤ q2 ∧ B ≤ b2 ∧ B ≤ r
  bB : ∀ k, Fb q b es k → k < B
  bel : Below B w0 w
  szB : B ≤ w.heap.size
theorem Cl.step {w0 w w1 w3 w4 : World} {q b h s : Nat} {es : List ((Int × Int) × Value)} {R : Int × Int → List (List UInt8)} {B r q2 b2 g : Nat} {es2 : List ((Int × Int) × Value)} {sk : List (Int × Int)} (C : Cl w0 w q b h s es R B r q2 b2 es2 sk) {p : Int × Int} (hp : p ∉ sk)
    (bt : But r w w1) (sz1 : w1.heap.size = w.heap.size) (it1 : Itr w1 b r es (sk ++ [p])) (b3 : Below w1.heap.size w1 w3) (hR : Row w3 g (R p)) (hg : w1.heap.size ≤ g) (hlen : (R p).length ≤ 2000000)
    (mp4 : Mp w4 b2 (es2 ++ [(p, .slice (some ⟨g, 0, none⟩) (R p).length (R p).length)])) (bt4 : But b2 w3 w4) (sz4 : w4.heap.size = w3.heap.size) :
    Cl w0 w4 q b h s es R B r q2 b2 (es2 ++ [(p, .slice (some ⟨g, 0, none⟩) (R p).length (R p).length)]) (sk ++ [p]) ∧ w4.rangeLeft b r = w1.rangeLeft b r := by
  obtain ⟨n1, n2, n3⟩ := C.ne
  obtain ⟨l1, l2, l3⟩ := C.lo
  have hs3 := b3.size
  have hq2 : q2 < w.heap.size := lt_of_heap C.row
  have hb2 := C.mp.lt
  obtain ⟨hbl, hrl, hrb⟩ := C.it.lt
  have hgl := hR.lt
  have blk : ∀ k, k < w.heap.size → k ≠ r → k ≠ b2 → w4.heap[k]? = w.heap[k]? := fun k hk h1 h2 =>
    (bt4.block k (by omega) h2).trans ((b3.block k (by omega)).trans (bt.block k hk h1))
  have hbF : b < B := C.bB b (.inr (.inl rfl))
  have hbb : w4.heap[b]? = w1.heap[b]? := (bt4.block b (by omega) (by omega)).trans (b3.block b (by omega))
  have hrr : w4.heap[r]? = w1.heap[r]? := (bt4.block r (by omega) n3).trans (b3.block r (by omega))
  obtain ⟨it4, rl⟩ := it1.heap hbb hrr
  have hnew : Own w4 B (.slice (some ⟨g, 0, none⟩) (R p).length (R p).length) (svs (R p)) := by
    have o := (hR.own (by omega)).from (B := B) (fun k hk => by have := own_g hk; have := C.szB; omega)
    exact o.but bt4 (fun e => by have := own_g e; omega)
  refine ⟨⟨?_, it4, (blk q2 hq2 (Ne.symm n2) n1).trans C.row, mp4, fun p' => ?_, ?_, ?_, C.ne, C.lo, C.bB, ?_, by have := C.szB; omega⟩, rl⟩
  · refine C.src.keep (S := fun k => B ≤ k) ⟨?_, ?_, ?_, ?_, fun k hk hS => blk k hk (by omega) (by omega)⟩ (fun k hk e => by have := C.bB k hk; omega)
    · exact bt4.os.trans (b3.os.trans bt.os)
    · exact bt4.tape.trans (b3.tape.trans bt.tape)
    · exact bt4.output.trans (b3.output.trans bt.output)
    · omega
  · rw [List.mem_append, List.mem_singleton, ← C.ks p']
    constructor
    · rintro ⟨v, hv⟩
      rcases List.mem_append.1 hv with hv | hv
      · exact .inl ⟨v, hv⟩
      · rw [List.mem_singleton] at hv; exact .inr (congrArg Prod.fst hv)
    · rintro (⟨v, hv⟩ | rfl)
      · exact ⟨v, List.mem_append.2 (.inl hv)⟩
      · exact ⟨_, List.mem_append.2 (.inr (List.mem_singleton.2 rfl))⟩
  · intro p' v hv
    rcases List.mem_append.1 hv with hv | hv
    · obtain ⟨e1, e2⟩ := C.el p' v hv
      exact ⟨e1.kept (by omega) fun k hk => blk k (e1.ltS k hk) (e2 k hk).2.2 (e2 k hk).2.1, e2⟩
    · rw [List.mem_singleton] at hv
      obtain ⟨rfl, rfl⟩ := Prod.mk.injEq .. ▸ hv
      exact ⟨hnew, fun k hk => by have := own_g hk; omega⟩
  · have other : ∀ p' v k, (p', v) ∈ es2 → v.ownBlock = some k → g ≠ k := fun p' v k hv hk => by
      have := (C.el p' v hv).1.ltS k hk
      omega
    intro p1 v1 p2 v2 k h1 h2 hne hk
    rcases List.mem_append.1 h1 with m1 | m1
    · rcases List.mem_append.1 h2 with m2 | m2
      · exact C.apart p1 v1 p2 v2 k m1 m2 hne hk
      · rw [List.mem_singleton] at m2
        have e2 := congrArg Prod.snd m2
        simp only at e2
        rw [e2]
        exact fun e => other p1 v1 k m1 hk (own_g e)
    · rw [List.mem_singleton] at m1
      have e1 := congrArg Prod.snd m1
      simp only at e1
      rw [e1] at hk
      have hk := own_g hk
      rcases List.mem_append.1 h2 with m2 | m2
      · exact fun e => other p2 v2 k m2 e hk
      · rw [List.mem_singleton] at m2
        exact absurd ((congrArg Prod.fst m1).trans (congrArg Prod.fst m2).symm) hne
  · refine C.bel.trans ⟨bt4.os.trans (b3.os.trans bt.os), bt4.tape.trans (b3.tape.trans bt.tape), bt4.output.trans (b3.output.trans bt.output), by omega, fun k hk => ?_⟩
    have := C.szB
    exact blk k (by omega) (by omega) (by omega)
/-- all are done -/
theorem Cl.done {w0 w : World} {q b h s : Nat} {es : List ((Int × Int) × Value)} {R : Int × Int → List (List UInt8)} {B r q2 b2 : Nat} {es2 : List ((Int × Int) × Value)} {sk : List (Int × Int)} (C : Cl w0 w q b h s es R B r q2 b2 es2 sk) (hall : ∀ x ∈ es, x.1 ∈ sk) :
    Tr w q2 b2 h s es2 R ∧ ∀ k, Fb q2 b2 es2 k → B ≤ k := by
  refine ⟨⟨C.row, C.mp, C.ne.1, fun p v hv => ⟨(C.el p v hv).1.mono (Nat.zero_le _), fun k hk => ⟨((C.el p v hv).2 k hk).1, ((C.el p v hv).2 k hk).2.1⟩⟩, fun p hp => ?_, C.apart⟩, fun k hk => ?_⟩
  · exact C.src.no p fun ⟨v, hv⟩ => hp ((C.ks p).2 (hall _ hv))
  · rcases hk with rfl | rfl | ⟨p, v, hv, hk⟩
    · exact C.lo.1
    · exact C.lo.2.1
    · exact (C.el p v hv).1.ge k hk
end Go.Proofs.YtmpaliocfikifaaGreatDoor

namespace Go.Proofs.YtmpaliocfikifaaGreatDoor
open Go.RowKit
theorem S32.below {q g : Nat} {x y z : Value} {w w' : World} {B : Nat} (h : S32 q g x y z w) (hb : Below B w w') (h1 : q < B) (h2 : g < B) : S32 q g x y z w' := h.heap (hb.block q h1) (hb.block g h2)
def S30 (q : Nat) (x y z : Value) (w : World) : Prop := w.cell? ⟨q, 0, none⟩ = some x ∧ w.cell? ⟨q, 1, none⟩ = some y ∧ w.cell? ⟨q, 2, none⟩ = some z
theorem S30.below {q : Nat} {x y z : Value} {w w' : World} {B : Nat} (h : S30 q x y z w) (hb : Below B w w') (h1 : q < B) : S30 q x y z w' := ⟨(hb.cell (p := ⟨q, 0, none⟩) h1).trans h.1, (hb.cell (p := ⟨q, 1, none⟩) h1).trans h.2.1, (hb.cell (p := ⟨q, 2, none⟩) h1).trans h.2.2⟩
/-- how many entries a map has, in whatever world it lies -/
theorem Mp.lenN {w : World} {b : Nat} {es : List ((Int × Int) × Value)} (h : Mp w b es) : ∃ n : Nat, ∀ w' : World, w'.heap[b]? = w.heap[b]? → (Builtin.len_ #[75] 3 #[.map (some b)]).run Tryz.prog w' = .ok (.int .i64 (n : Int)) w' := by
  obtain ⟨arr, clock, hb, _⟩ := h
  exact ⟨arr.size, fun w' hw => by simp [Builtin.len_, run_underlying undMp, MapKept.run_getObj_map (hw.trans hb), goInt, Result.andThen]⟩
def SL (q : Nat) (x y z : Value) (b nl : Nat) (w : World) : Prop := w.cell? ⟨q, 0, none⟩ = some x ∧ w.cell? ⟨q, 1, none⟩ = some y ∧ w.cell? ⟨q, 2, none⟩ = some z ∧ (Builtin.len_ #[75] 3 #[.map (some b)]).run Tryz.prog w = .ok (.int .i64 (nl : Int)) w
end Go.Proofs.YtmpaliocfikifaaGreatDoor
