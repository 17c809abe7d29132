import Derived.Test.YtfddkmkibfmmgaaDoorCTL14
import Derived.Test.YtfddkmkibfmmgaaDoorCO15
import Derived.Test.YtfddkmkibfmmgaaDoorCO6
namespace Go.Proofs.YtfddkmkibfmmgaaDoor
open Go.RowKit
/-- may a span be? -/
def spB (n : Nat) (b e : Int) : Bool := decide (0 ≤ b ∧ b ≤ e ∧ e ≤ (n : Int))
set_option maxRecDepth 100000 in
set_option maxHeartbeats 2000000 in
theorem hasSpan_any {w : World} {q h : Nat} {L : List (List UInt8)} {F : Nat → Prop} (t : TrL w q h L F) (b e : Int) :
    Calls Tryd.prog 46 #[.pointer (some ⟨q, 0, none⟩), .agg #[.int .i64 b, .int .i64 e]] w fun r w' => r = .returned (.bool (spB L.length b e)) ∧ Below w.heap.size w w' := by
  obtain ⟨w1, hw1⟩ : ∃ w1, w.alloc (.cells #[Value.int .i64 b, .int .i64 e] 47) = w1 := ⟨_, rfl⟩
  have b1 := (Below.refl w.heap.size w).alloc (Nat.le_refl _) (.cells #[Value.int .i64 b, .int .i64 e] 47)
  have r1 := heap_alloc_new w (.cells #[Value.int .i64 b, .int .i64 e] 47)
  rw [hw1] at b1 r1
  have S0 : w1.cell? ⟨w.heap.size, 0, none⟩ = some (.int .i64 b) ∧ w1.cell? ⟨w.heap.size, 1, none⟩ = some (.int .i64 e) := ⟨by rw [cell_of_row _ _ _ _ _ _ r1]; rfl, by rw [cell_of_row _ _ _ _ _ _ r1]; rfl⟩
  have i1 := tSizeL ((t.below b1).below (Below.refl w1.heap.size w1).drew)
  have B1 := hid b1
  obtain ⟨n, hn⟩ : ∃ n, L.length = n := ⟨_, rfl⟩
  rw [hn] at i1 ⊢
  obtain ⟨c, hc⟩ : ∃ c, spB n b e = c := ⟨_, rfl⟩
  rw [hc]
  unfold spB at hc
  have HC := hid hc
  clear t b1 r1 hc
  by_cases h0 : 0 ≤ b
  · by_cases h1 : b ≤ e
    · have c3 : decide (e ≤ (n : Int)) = c := by rw [← HC.out]; exact decide_eq_decide.2 ⟨fun x => ⟨h0, h1, x⟩, fun x => x.2.2⟩
      go_enter Tryd.func46, Tryd.ntmps46
      go_wp2
      go_region_held3 (fun w' => w'.cell? ⟨w.heap.size, 0, none⟩ = some (.int .i64 b) ∧ w'.cell? ⟨w.heap.size, 1, none⟩ = some (.int .i64 e)) (exact S0) ((go_at_call 10; refine i1.mono ?_; rintro r w9 ⟨rfl, rfl⟩))
      go_wp2
      go_ret
      exact ⟨rfl, B1.out.drew⟩
    · have c3 : c = false := by rw [← HC.out]; exact decide_eq_false fun x => h1 x.2.1
      subst c3
      have y0 : decide (0 ≤ b) = true := decide_eq_true h0
      have y1 : decide (b ≤ e) = false := decide_eq_false h1
      clear h0 h1
      clear HC i1
      go_enter Tryd.func46, Tryd.ntmps46
      obtain ⟨s0, s1⟩ := S0
      go_wp2
      go_quiet (fail)
      go_wp2
      go_ret
      exact ⟨rfl, ⟨B1.out.os, B1.out.tape, B1.out.output, B1.out.size, B1.out.block⟩⟩
  · have c3 : c = false := by rw [← HC.out]; exact decide_eq_false fun x => h0 x.1
    subst c3
    have y0 : decide (0 ≤ b) = false := decide_eq_false h0
    clear h0
    clear HC i1
    go_enter Tryd.func46, Tryd.ntmps46
    obtain ⟨s0, s1⟩ := S0
    go_wp2
    go_quiet (fail)
    go_wp2
    go_ret
    exact ⟨rfl, ⟨B1.out.os, B1.out.tape, B1.out.output, B1.out.size, B1.out.block⟩⟩
/-- T4 -/
def tPartO (L : List (List UInt8)) (b e : Int) : List UInt8 × Int := if spB L.length b e = true then (Tree.root (Til.sg L b.toNat e.toNat), 0) else ([], 73)
set_option maxRecDepth 100000 in
set_option maxHeartbeats 2000000 in
theorem tPart_any {w : World} {q h : Nat} {L : List (List UInt8)} {F : Nat → Prop} (t : TrL w q h L F) (b e : Int) (Z : Tb w) {x : List UInt8} {z : Int} (hx : Hid (tPartO L b e = (x, z))) :
    Calls Tryd.prog 23 #[.pointer (some ⟨q, 0, none⟩), .agg #[.int .i64 b, .int .i64 e]] w fun r w' => r = .returned (.tuple #[sv x, .int .i64 z]) ∧ Below w.heap.size w w' := by
  obtain ⟨w1, hw1⟩ : ∃ w1, w.alloc (.cells #[Value.int .i64 b, .int .i64 e] 47) = w1 := ⟨_, rfl⟩
  have b1 := (Below.refl w.heap.size w).alloc (Nat.le_refl _) (.cells #[Value.int .i64 b, .int .i64 e] 47)
  have r1 := heap_alloc_new w (.cells #[Value.int .i64 b, .int .i64 e] 47)
  rw [hw1] at b1 r1
  have c0 : w1.cell? ⟨w.heap.size, 0, none⟩ = some (.int .i64 b) := by rw [cell_of_row _ _ _ _ _ _ r1]; rfl
  have c1 : w1.cell? ⟨w.heap.size, 1, none⟩ = some (.int .i64 e) := by rw [cell_of_row _ _ _ _ _ _ r1]; rfl
  have T1 := hid (t.below b1)
  have Z1 := hid (Z.below b1 Z.lt)
  have i1 := hasSpan_any T1.out b e
  have B1 := hid b1
  have hlt : w.heap.size < w1.heap.size := lt_of_heap r1
  have hxo := hx.out
  unfold tPartO at hxo
  obtain ⟨c, hc⟩ : ∃ c, spB L.length b e = c := ⟨_, rfl⟩
  rw [hc] at i1 hxo
  clear t Z b1 r1
  cases c
  · rw [if_neg (by simp)] at hxo
    injection hxo with h1 h2
    subst h1 h2
    go_enter Tryd.func23, Tryd.ntmps23
    go_wp2_with (go_at_call 46; refine i1.mono ?_; rintro r w2 ⟨rfl, hw2⟩)
    go_ret2
    exact ⟨rfl, B1.out.trans (hw2.mono B1.out.size)⟩
  · rw [if_pos rfl] at hxo
    injection hxo with h1 h2
    subst h2
    unfold spB at hc
    have hc := of_decide_eq_true hc
    obtain ⟨b', rfl⟩ : ∃ b' : Nat, b = (b' : Int) := ⟨b.toNat, by omega⟩
    obtain ⟨e', rfl⟩ : ∃ e' : Nat, e = (e' : Int) := ⟨e.toNat, by omega⟩
    rw [Int.toNat_natCast, Int.toNat_natCast] at h1
    by_cases hbe : b' = e'
    · subst hbe
      rw [Til.sg_nil, Tree.root_nil] at h1
      have k0 : ((b' : Int) == (b' : Int)) = true := by simp
      have i2 := fun w' (bb : Below w1.heap.size w1 w') => empty_any w' (Z1.out.below bb Z1.out.lt).t
      rw [h1] at i2
      clear hc h1 hx
      go_enter Tryd.func23, Tryd.ntmps23
      go_wp2_with (go_at_call 46; fail)
      refine i1.mono ?_
      rintro r w2 ⟨rfl, hw2⟩
      have d0 := (hw2.cell (p := ⟨w.heap.size, 0, none⟩) hlt).trans c0
      have d1 := (hw2.cell (p := ⟨w.heap.size, 1, none⟩) hlt).trans c1
      clear c0 c1
      go_wp2_with (go_at_call 47; refine (i2 _ hw2).mono ?_; rintro r w3 ⟨rfl, hw3⟩)
      go_ret2
      exact ⟨rfl, B1.out.trans ((hw2.trans (hw3.mono hw2.size)).mono B1.out.size)⟩
    · have k0 : ((b' : Int) == (e' : Int)) = false := by simp; omega
      have i2 := fun w' (bb : Below w1.heap.size w1 w') => tpart_any (T1.out.below bb) b' e' (by omega) (by omega) (Z1.out.below bb Z1.out.lt)
      rw [h1] at i2
      clear hc h1 hx hbe
      go_enter Tryd.func23, Tryd.ntmps23
      go_wp2_with (go_at_call 46; fail)
      refine i1.mono ?_
      rintro r w2 ⟨rfl, hw2⟩
      have d0 := (hw2.cell (p := ⟨w.heap.size, 0, none⟩) hlt).trans c0
      have d1 := (hw2.cell (p := ⟨w.heap.size, 1, none⟩) hlt).trans c1
      clear c0 c1
      go_wp2_with (go_at_call 48; refine (i2 _ hw2).mono ?_; rintro r w3 ⟨rfl, hw3⟩)
      go_ret2
      exact ⟨rfl, B1.out.trans ((hw2.trans (hw3.mono hw2.size)).mono B1.out.size)⟩
set_option maxRecDepth 100000 in
theorem tRoot_any {w : World} {q h : Nat} {L : List (List UInt8)} {F : Nat → Prop} (t : TrL w q h L F) (n : Int) (Z : Tb w) {x : List UInt8} {z : Int} (hx : Hid (tPartO L 0 n = (x, z))) :
    Calls Tryd.prog 14 #[.pointer (some ⟨q, 0, none⟩), .int .i64 n] w fun r w' => r = .returned (.tuple #[sv x, .int .i64 z]) ∧ Below w.heap.size w w' := by
  have i1 := tPart_any t 0 n Z hx
  go_enter Tryd.func14, Tryd.ntmps14
  go_wp2_with (go_at_call 23; refine i1.mono ?_; rintro r w2 ⟨rfl, hw2⟩)
  go_ret2
  exact ⟨rfl, hw2⟩
theorem tPartO_nat {L : List (List UInt8)} {b e : Nat} (hb : b ≤ e) (he : e ≤ L.length) : tPartO L (b : Int) (e : Int) = (Tree.root (Til.sg L b e), 0) := by
  unfold tPartO spB
  rw [if_pos (decide_eq_true ⟨by omega, by omega, by omega⟩), Int.toNat_natCast, Int.toNat_natCast]
theorem tPartO_all {L : List (List UInt8)} : tPartO L 0 (L.length : Int) = (Tree.root L, 0) := by
  have := tPartO_nat (L := L) (b := 0) (e := L.length) (by omega) (Nat.le_refl _)
  rwa [Til.sg_all] at this
end Go.Proofs.YtfddkmkibfmmgaaDoor

namespace Go.Proofs.YtfddkmkibfmmgaaDoor
open Go.RowKit
theorem Tb.mov {w w' : World} {F F' : Nat → Prop} (Z : Tb w) (hm : Mov F w w' F') (hF : ∀ k, F k → 4 ≤ k) : Tb w' := Z.below (hm.below Z.lt hF).1 (Nat.le_refl _)
set_option maxRecDepth 100000 in
set_option maxHeartbeats 4000000 in
theorem tknown_any (w : World) (Z : Tb w) :
    Calls Tryd.prog 7 #[] w fun e w' => e = .returned (.bool true) ∧ Below w.heap.size w w' := by
  obtain ⟨a, ha⟩ : ∃ a, Hid (lf 1 = a) := ⟨_, rfl⟩
  obtain ⟨b, hb⟩ : ∃ a, Hid (lf 2 = a) := ⟨_, rfl⟩
  have la : a.length = 32 := by rw [← ha.out, lf_length]
  have lb : b.length = 32 := by rw [← hb.out, lf_length]
  obtain ⟨N, hN⟩ : ∃ N, Hid (Tree.nd a b = N) := ⟨_, rfl⟩
  have hN2 : Hid (nodeOf a b = (N, 0)) := by
    unfold Hid nodeOf
    rw [← hN.out]
    unfold Tree.nd
    rw [if_pos ⟨la, lb⟩, if_pos ⟨la, lb⟩]
  have hroot : Hid (Tree.root [a, b] = N) := by
    unfold Hid; rw [root2, hN.out]
  have hP : Hid (tPartO [a, b] 0 2 = (N, 0)) := by
    have := tPartO_all (L := [a, b])
    rw [hroot.out] at this
    exact this
  have hH : Til.hs [a, b] 1 0 = N := by
    unfold Til.hs
    have := Til.sg_all [a, b]
    rw [show ([a, b] : List (List UInt8)).length = 2 from rfl] at this
    rw [show 0 * 2 ^ 1 = 0 from rfl, show (0 + 1) * 2 ^ 1 = 2 from rfl, this, hroot.out]
  have HZ := hid Z
  have hT := Z.lt
  clear Z
  have new := tNew_any 1 (by omega) (by omega) w hT
  rw [show ((1 : Nat) : Int) = 1 from rfl] at new
  go_enter Tryd.func7, Tryd.ntmps7
  go_wp2_with (go_at_call 27; fail)
  refine new.mono ?_
  rintro e w1 ⟨q, F1, rfl, E1, hF1, B1⟩
  have E1 := hid E1
  have B1 := hid B1
  have hF1 := hid hF1
  clear new
  go_wp2_with (go_at_call 16; fail)
  refine (lleaf_at 1 a ha _).mono ?_
  rintro e w2 ⟨rfl, hw2⟩
  have B2 := hid (B1.out.trans (hw2.mono B1.out.size))
  have E2 := hid (E1.out.below hw2)
  have Z2 := hid (HZ.out.below B2.out hT)
  clear hw2 E1 B1
  go_wp2_with (go_at_call 17; fail)
  refine (tAdd_any E2.out a la (by simp) Z2.out).mono ?_
  rintro e w3 ⟨rfl, F3, E3, M3⟩
  obtain ⟨b3, f3⟩ := M3.below (B := w.heap.size) B2.out.size hF1.out
  have B3 := hid (B2.out.trans b3)
  have E3 := hid E3
  have F3' := hid f3
  clear b3 f3 M3 E2 B2 Z2 hF1
  go_wp2_with (go_at_call 16; fail)
  refine (lleaf_at 2 b hb _).mono ?_
  rintro e w4 ⟨rfl, hw4⟩
  have B4 := hid (B3.out.trans (hw4.mono B3.out.size))
  have E4 := hid (E3.out.below hw4)
  have Z4 := hid (HZ.out.below B4.out hT)
  clear hw4 E3 B3
  go_wp2_with (go_at_call 17; fail)
  refine (tAdd_any E4.out b lb (by simp) Z4.out).mono ?_
  rintro e w5 ⟨rfl, F5, E5, M5⟩
  obtain ⟨b5, f5⟩ := M5.below (B := w.heap.size) B4.out.size F3'.out
  have B5 := hid (B4.out.trans b5)
  have E5 : Hid (TrL w5 q 1 [a, b] F5) := hid E5
  clear b5 f5 M5 E4 B4 Z4 F3'
  go_wp2_with (go_at_call 16; fail)
  refine (lleaf_at 1 a ha _).mono ?_
  rintro e w6 ⟨rfl, hw6⟩
  go_wp2_with (go_at_call 16; fail)
  refine (lleaf_at 2 b hb _).mono ?_
  rintro e w7 ⟨rfl, hw7⟩
  have H7 := hid (hw6.trans (hw7.mono hw6.size))
  have B7 := hid (B5.out.trans (H7.out.mono B5.out.size))
  have E7 := hid (E5.out.below H7.out)
  have Z7 := hid (HZ.out.below B7.out hT)
  clear hw6 hw7 H7 E5 B5
  go_wp2_with (go_at_call 12; fail)
  refine (node_at hN2 _ Z7.out.t).mono ?_
  rintro e w8 ⟨rfl, hw8⟩
  have B8 := hid (B7.out.trans (hw8.mono B7.out.size))
  have E8 := hid (E7.out.below hw8)
  have Z8 := hid (HZ.out.below B8.out hT)
  clear hw8 E7 B7 Z7
  go_wp2_with (go_at_call 14; fail)
  refine (tRoot_any E8.out 2 Z8.out hP).mono ?_
  rintro e w9 ⟨rfl, hw9⟩
  have B9 := hid (B8.out.trans (hw9.mono B8.out.size))
  have E9 := hid (E8.out.below hw9)
  clear hw9 E8 B8 Z8
  have i9 := tHash_ok E9.out 1 0 (by omega) (by simp) hH
  rw [show ((1 : Nat) : Int) = 1 from rfl, show ((0 : Nat) : Int) = 0 from rfl] at i9
  go_wp2_with (go_at_call 11; fail)
  refine i9.mono ?_
  rintro e w10 ⟨rfl, hw10⟩
  have B10 := hid (B9.out.trans (hw10.mono B9.out.size))
  have i10 := tSizeL (E9.out.below hw10)
  rw [show (([a, b] : List (List UInt8)).length : Int) = 2 from rfl] at i10
  clear hw10 E9 B9 i9
  rw [svS N]
  have rr : ((ByteArray.mk N.toArray).toList == (ByteArray.mk N.toArray).toList) = true := by simp
  go_wp2_with (go_at_call 10; refine i10.mono ?_; rintro e w11 ⟨rfl, rfl⟩)
  go_ret
  exact ⟨rfl, B10.out⟩
end Go.Proofs.YtfddkmkibfmmgaaDoor

namespace Go.Proofs.YtfddkmkibfmmgaaDoor
open Go.RowKit
set_option maxRecDepth 100000 in
set_option maxHeartbeats 4000000 in
/-- a tree of some leaves of raw numbers -/
theorem tfilled_any (ht : Int) (cs : List Int) (M : Nat) (hM : M ≤ 1000000) (a : Option Addr) (ca : Nat) (w : World) (h1 : -9223372036854775808 ≤ ht) (h2 : ht ≤ 9223372036854775807) (hcs : cs.length ≤ 9223372036854775807) (hA : AtI w a cs) (Z : Tb w) :
    Calls Tryd.prog 8 #[.int .i64 ht, .slice a cs.length ca, .int .i64 (M : Int)] w fun e w' => ∃ (q h : Nat) (F : Nat → Prop), e = .returned (.pointer (some ⟨q, 0, none⟩)) ∧ (h : Int) = 1 + pk ht 8 ∧ TrL w' q h (nums cs M) F ∧ (∀ k, F k → w.heap.size ≤ k) ∧ Below w.heap.size w w' := by
  have HZ := hid Z
  have HA := hid hA
  have hT := Z.lt
  clear Z hA
  have p0 := pk_nonneg ht 8 (by omega)
  have p1 := pk_lt ht 8 (by omega)
  have i1 := pick_any ht 8 h1 h2 (by omega) (by omega) w
  obtain ⟨h, hh⟩ : ∃ h : Nat, (h : Int) = 1 + pk ht 8 := ⟨(1 + pk ht 8).toNat, by omega⟩
  have s1 : IntKind.i64.wrap (1 + pk ht 8) = (h : Int) := by rw [wrap_small _ (by omega) (by omega)]; omega
  have new := tNew_any h (by omega) (by omega) w hT
  have HH := hid hh
  generalize pk ht 8 = p at *
  obtain ⟨n, hn⟩ : ∃ n : Nat, Hid (cs.length = n) := ⟨_, rfl⟩
  rw [hn.out] at hcs ⊢
  clear hh p0 p1
  go_enter Tryd.func8, Tryd.ntmps8
  go_wp2_with (go_at_call 28; refine i1.mono ?_; rintro e w0 ⟨rfl, h0⟩; have h0 := h0.symm; subst h0)
  go_wp2_with (go_at_call 27; fail)
  refine new.mono ?_
  rintro e w1 ⟨q, F1, rfl, E1, hF1, B1⟩
  have E1 := hid E1
  have B1 := hid B1
  have hF1 := hid hF1
  clear new i1 s1
  go_wp2
  go_loopw [9] (fun i w' => ∃ (k : Nat) (F : Nat → Prop), k ≤ n ∧ k ≤ M ∧ i = .int .i64 (k : Int) ∧ Hid (TrL w' q h (nums cs k) F) ∧ Hid (∀ k, F k → w.heap.size ≤ k) ∧ Hid (Below w.heap.size w w')) (fun i _ => M - (intOf i).toNat)
  case atStart => exact ⟨0, F1, by omega, by omega, rfl, E1, hF1, B1⟩
  case round =>
    clear E1 B1 hF1
    obtain ⟨k, F, hk, hkM, rfl, hE, hF, hB⟩ := hrel
    by_cases hkn : k < n ∧ k < M
    · obtain ⟨g1, g2⟩ := hkn
      have b0 : (k : Int) < (n : Int) := by omega
      have b1 : (k : Int) < (M : Int) := by omega
      have hkc : k < cs.length := by rw [hn.out]; exact g1
      obtain ⟨y, rfl, _, hy⟩ := (HA.out.below hB.out (Nat.le_refl _)) k cs[k] (List.getElem?_eq_getElem hkc)
      have hnx := hid (nums_succ cs k hkc)
      have hl := nums_len cs k
      generalize cs[k] = c at *
      obtain ⟨r, hr⟩ : ∃ r, Hid (lf c = r) := ⟨_, rfl⟩
      have lr : r.length = 32 := by rw [← hr.out, lf_length]
      rw [hr.out] at hnx
      go_wp2_with (go_at_call 16; fail)
      refine (lleaf_at c r hr _).mono ?_
      rintro e w2 ⟨rfl, hw2⟩
      have B2 := hid (hB.out.trans (hw2.mono hB.out.size))
      have add := tAdd_any (hE.out.below hw2) r lr (by rw [hl]; omega) (HZ.out.below B2.out hT)
      rw [← hnx.out] at add
      clear hw2 hB hE hnx hl
      go_wp2_with (go_at_call 17; fail)
      refine add.mono ?_
      rintro e w3 ⟨rfl, F3, E3, M3⟩
      obtain ⟨b3, f3⟩ := M3.below (B := w.heap.size) B2.out.size hF.out
      have B3 := hid (B2.out.trans b3)
      have E3 := hid E3
      have f3 := hid f3
      clear b3 M3 add
      go_wp2
      exact ⟨⟨k + 1, F3, by omega, by omega, by go_num, E3, f3, B3⟩, by simp [intOf]; omega⟩
    · have e : nums cs k = nums cs M := by
        have := hn.out
        by_cases h : k < n
        · rw [show k = M from by omega]
        · rw [nums, nums, List.take_of_length_le (by omega), List.take_of_length_le (by omega)]
      rw [e] at hE
      by_cases h1 : k < n
      · have b0 : (k : Int) < (n : Int) := by omega
        have b1 : ¬ (k : Int) < (M : Int) := by omega
        go_wp2
        go_ret
        exact ⟨q, rfl, h, HH.out, F, hE.out, hF.out, hB.out⟩
      · have b0 : ¬ (k : Int) < (n : Int) := by omega
        go_wp2
        go_ret
        exact ⟨q, rfl, h, HH.out, F, hE.out, hF.out, hB.out⟩
end Go.Proofs.YtfddkmkibfmmgaaDoor

namespace Go.Proofs.YtfddkmkibfmmgaaDoor
open Go.RowKit
set_option maxRecDepth 100000 in
set_option maxHeartbeats 2000000 in
theorem tcopied_any (l : List (List UInt8)) (a : Option Addr) (cap : Nat) (w : World) (hn : l.length ≤ 8796093021952) (hA : At w a l) :
    Calls Tryd.prog 38 #[.slice a l.length cap] w fun e w' => e = .returned (.slice (some ⟨w.heap.size, 0, none⟩) l.length l.length) ∧ Row w' w.heap.size l ∧ Below w.heap.size w w' := by
  have hmk := make_texts w l.length (by omega)
  have R1 : Row (w.alloc (.cells (svs (List.replicate l.length [])).toArray 9)) w.heap.size (List.replicate l.length []) := heap_alloc_new w _
  have hb1 := (Below.refl w.heap.size w).alloc (Nat.le_refl _) (.cells (svs (List.replicate l.length [])).toArray 9)
  obtain ⟨w2, hcp, hR2, hb2⟩ := copy_texts _ w.heap.size a cap l [] (hA.below hb1 (Nat.le_refl _)) (by rw [List.append_nil]; exact R1) l.length l.length (by simp)
  rw [List.append_nil] at hR2
  have HB2 := hid (show Below w.heap.size w w2 from hb1.trans (hb2.below (Nat.le_refl _) (by rw [size_alloc]; omega)))
  have HR2 := hid hR2
  clear hR2 R1 hb2 hb1 hA
  generalize w.alloc (.cells (svs (List.replicate l.length [])).toArray 9) = w1 at *
  generalize l.length = n at *
  go_enter Tryd.func38, Tryd.ntmps38
  go_wp2
  go_ret
  exact ⟨rfl, HR2.out, HB2.out⟩
/-- T3: the hashes that a tile has so far -/
def tileO (L : List (List UInt8)) (h : Nat) (l i : Int) : List (List UInt8) := if 0 ≤ l ∧ 2 ^ l.toNat ≤ L.length then Til.rf L h (Til.cn L.length) (l * (h : Int), i) else []
theorem blen (n : Nat) (hn : n < 18446744073709551616) (w : World) : ∃ c : Nat, c ≤ 64 ∧ (∀ l : Nat, 2 ^ l ≤ n ↔ l < c) ∧ Calls Tryd.prog 62 #[.int .u64 (n : Int)] w fun e w' => e = .returned (.int .i64 (c : Int)) ∧ w' = w := by
  by_cases h0 : n = 0
  · subst h0
    refine ⟨0, by omega, fun l => ⟨fun h => absurd (Nat.two_pow_pos l) (by omega), fun h => absurd h (by omega)⟩, ?_⟩
    have := lenU_any (0 : Nat) (by omega) (by omega) w
    exact this
  · have h1 : n.log2 < 64 := (Nat.log2_lt h0).2 hn
    refine ⟨n.log2 + 1, by omega, fun l => ?_, ?_⟩
    · rw [Nat.lt_succ_iff, ← Nat.le_log2 h0]
    · have := lenU_nat n n.log2 (by omega) hn rfl w
      exact this
end Go.Proofs.YtfddkmkibfmmgaaDoor
