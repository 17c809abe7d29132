import Derived.BigQuiet
import Derived.OwnWalk
import Derived.Test.YtenklmjeeejfdaaGreatDoorPkTL12
import Derived.Test.YtenklmjeeejfdaaGreatDoorPkSF5
import Derived.Test.YtenklmjeeejfdaaGreatDoorPkSP13
import Derived.Test.YtenklmjeeejfdaaGreatDoorPkCH0
import Derived.Test.YtenklmjeeejfdaaGreatDoorPkI10
import Derived.Test.YtenklmjeeejfdaaGreatDoorPkCP4
namespace Go.Proofs.YtenklmjeeejfdaaGreatDoor
open Go.RowKit
set_option maxRecDepth 100000 in
set_option maxHeartbeats 2000000 in
theorem rinside_any {w : World} {q h : Nat} {L : List (List UInt8)} {F : Nat → Prop} (t : RtL w q h L F) (b e : Int) :
    Calls Tryz.prog 55 #[.pointer (some ⟨q, 0, none⟩), .agg #[.int .i64 b, .int .i64 e]] w fun r w' => r = .returned (.bool (spB L.length b e)) ∧ Below w.heap.size w w' := by
  obtain ⟨w1, hw1⟩ : ∃ w1, w.alloc (.cells #[Value.int .i64 b, .int .i64 e] 56) = w1 := ⟨_, rfl⟩
  have b1 := (Below.refl w.heap.size w).alloc (Nat.le_refl _) (.cells #[Value.int .i64 b, .int .i64 e] 56)
  have r1 := heap_alloc_new w (.cells #[Value.int .i64 b, .int .i64 e] 56)
  rw [hw1] at b1 r1
  have s0 : w1.cell? ⟨w.heap.size, 0, none⟩ = some (.int .i64 b) := by rw [cell_of_row _ _ _ _ _ _ r1]; rfl
  have s1 : w1.cell? ⟨w.heap.size, 1, none⟩ = some (.int .i64 e) := by rw [cell_of_row _ _ _ _ _ _ r1]; rfl
  obtain ⟨a, c, r2, o1, n1, _, hA, _, _⟩ := (t.below b1).open
  have s2 : w1.cell? ⟨q, 1, none⟩ = some (.slice a L.length c) := by rw [cell_of_row _ _ _ _ _ _ r2]; rfl
  have B1 := hid b1
  obtain ⟨n, hn⟩ : ∃ n, L.length = n := ⟨_, rfl⟩
  rw [hn] at s2 ⊢
  obtain ⟨d, hc⟩ : ∃ c, spB n b e = c := ⟨_, rfl⟩
  rw [hc]
  unfold spB at hc
  have HC := hid hc
  clear t b1 r1 hc r2 o1 n1 hA
  have fin : Below w.heap.size w w1.drew := B1.out.drew
  by_cases h0 : 0 ≤ b
  · have y0 : decide (0 ≤ b) = true := decide_eq_true h0
    have y0' : decide (b ≥ 0) = true := decide_eq_true h0
    by_cases h1 : b ≤ e
    · have y1 : decide (b ≤ e) = true := decide_eq_true h1
      have c3 : decide (e ≤ (n : Int)) = d := by rw [← HC.out]; exact decide_eq_decide.2 ⟨fun x => ⟨h0, h1, x⟩, fun x => x.2.2⟩
      clear h0 h1
      go_enter Tryz.func55, Tryz.ntmps55
      go_wp2
      go_quiet (fail)
      go_wp2
      go_ret
      exact ⟨by rw [← c3]; rfl, ⟨B1.out.os, B1.out.tape, B1.out.output, B1.out.size, B1.out.block⟩⟩
    · have c3 : d = false := by rw [← HC.out]; exact decide_eq_false fun x => h1 x.2.1
      subst c3
      have y1 : decide (b ≤ e) = false := decide_eq_false h1
      clear h0 h1 HC
      go_enter Tryz.func55, Tryz.ntmps55
      go_wp2
      go_quiet (fail)
      go_wp2
      go_ret
      exact ⟨rfl, ⟨B1.out.os, B1.out.tape, B1.out.output, B1.out.size, B1.out.block⟩⟩
  · have c3 : d = false := by rw [← HC.out]; exact decide_eq_false fun x => h0 x.1
    subst c3
    have y0 : decide (0 ≤ b) = false := decide_eq_false h0
    clear h0 HC
    go_enter Tryz.func55, Tryz.ntmps55
    go_wp2
    go_quiet (fail)
    go_wp2
    go_ret
    exact ⟨rfl, ⟨B1.out.os, B1.out.tape, B1.out.output, B1.out.size, B1.out.block⟩⟩
end Go.Proofs.YtenklmjeeejfdaaGreatDoor

namespace Go.Proofs.YtenklmjeeejfdaaGreatDoor
open Go.RowKit
theorem At.sg {w : World} {x : Addr} {L : List (List UInt8)} (h : At w (some x) L) (b e : Nat) : At w (some (x.add b)) (Til.sg L b e) := (h.take e).drop b
end Go.Proofs.YtenklmjeeejfdaaGreatDoor

namespace Go.Proofs.YtenklmjeeejfdaaGreatDoor
open Go.RowKit
theorem At.map_sg {w : World} {a : Option Addr} {L : List (List UInt8)} (h : At w a L) {b e : Nat} (he : e ≤ L.length) : At w (a.map (·.add b)) (Til.sg L b e) := by
  by_cases hbe : b < e
  · obtain ⟨y, rfl⟩ := h.pos (by omega)
    exact h.sg b e
  · have : Til.sg L b e = [] := List.eq_nil_of_length_eq_zero (by rw [Til.sg_len he]; omega)
    rw [this]
    exact At.nil _ _
theorem s3_below {q g : Nat} {x y z : Value} {w w' : World} (h : w.cell? ⟨q, 1, none⟩ = some x ∧ w.cell? ⟨g, 0, none⟩ = some y ∧ w.cell? ⟨g, 1, none⟩ = some z) (hq : q < w.heap.size) (hg : g < w.heap.size) (hb : Below w.heap.size w w') : w'.cell? ⟨q, 1, none⟩ = some x ∧ w'.cell? ⟨g, 0, none⟩ = some y ∧ w'.cell? ⟨g, 1, none⟩ = some z :=
  ⟨(hb.cell (p := ⟨q, 1, none⟩) hq).trans h.1, (hb.cell (p := ⟨g, 0, none⟩) hg).trans h.2.1, (hb.cell (p := ⟨g, 1, none⟩) hg).trans h.2.2⟩
set_option maxRecDepth 100000 in
set_option maxHeartbeats 4000000 in
theorem rPart7_any {w : World} {q h : Nat} {L : List (List UInt8)} {F : Nat → Prop} (t : RtL w q h L F) (b e : Int) {x : List UInt8} {z : Int} (hx : Hid (tPartO L b e = (x, z))) :
    Calls Tryz.prog 36 #[.pointer (some ⟨q, 0, none⟩), .agg #[.int .i64 b, .int .i64 e]] w fun r w' => r = .returned (.tuple #[sv x, .int .i64 z]) ∧ Below w.heap.size w w' := by
  obtain ⟨w1, hw1⟩ : ∃ w1, w.alloc (.cells #[Value.int .i64 b, .int .i64 e] 56) = w1 := ⟨_, rfl⟩
  have b1 := (Below.refl w.heap.size w).alloc (Nat.le_refl _) (.cells #[Value.int .i64 b, .int .i64 e] 56)
  have r1 := heap_alloc_new w (.cells #[Value.int .i64 b, .int .i64 e] 56)
  rw [hw1] at b1 r1
  have c0 : w1.cell? ⟨w.heap.size, 0, none⟩ = some (.int .i64 b) := by rw [cell_of_row _ _ _ _ _ _ r1]; rfl
  have c1 : w1.cell? ⟨w.heap.size, 1, none⟩ = some (.int .i64 e) := by rw [cell_of_row _ _ _ _ _ _ r1]; rfl
  have T1 := hid (t.below b1)
  have i1 := rinside_any T1.out b e
  have B1 := hid b1
  have hlt : w.heap.size < w1.heap.size := lt_of_heap r1
  have hxo := hx.out
  unfold tPartO at hxo
  obtain ⟨d, hc⟩ : ∃ c, spB L.length b e = c := ⟨_, rfl⟩
  rw [hc] at i1 hxo
  have n20 := t.n20
  have hHs := t.hs
  clear t b1 r1 hx
  cases d
  · rw [if_neg (by simp)] at hxo
    injection hxo with h1 h2
    subst h1 h2
    go_enter Tryz.func36, Tryz.ntmps36
    go_wp2_with (go_at_call 55; refine i1.mono ?_; rintro r w2 ⟨rfl, hw2⟩)
    go_ret2
    exact ⟨rfl, B1.out.trans (hw2.mono B1.out.size)⟩
  · rw [if_pos rfl] at hxo
    injection hxo with h1 h2
    subst h2
    unfold spB at hc
    have hc := of_decide_eq_true hc
    obtain ⟨b', rfl⟩ : ∃ b' : Nat, b = (b' : Int) := ⟨b.toNat, by omega⟩
    obtain ⟨e', rfl⟩ : ∃ e' : Nat, e = (e' : Int) := ⟨e.toNat, by omega⟩
    rw [Int.toNat_natCast, Int.toNat_natCast] at h1
    have hbe : b' ≤ e' := by omega
    have hen : e' ≤ L.length := by omega
    have m0 : (0 : Int) ≤ (b' : Int) := by omega
    have m1 : (b' : Int) ≤ (e' : Int) := by omega
    have hlen := Til.sg_len (L := L) (b := b') hen
    clear hc
    go_enter Tryz.func36, Tryz.ntmps36
    go_wp2_with (go_at_call 55; fail)
    refine i1.mono ?_
    rintro r w2 ⟨rfl, hw2⟩
    have d0 := (hw2.cell (p := ⟨w.heap.size, 0, none⟩) hlt).trans c0
    have d1 := (hw2.cell (p := ⟨w.heap.size, 1, none⟩) hlt).trans c1
    obtain ⟨a, c, r2, _, _, _, hA, hLc, hc9⟩ := (T1.out.below hw2).open
    have d2 : w2.cell? ⟨q, 1, none⟩ = some (.slice a L.length c) := by rw [cell_of_row _ _ _ _ _ _ r2]; rfl
    have B2 := hid (B1.out.trans (hw2.mono B1.out.size))
    have m2 : (e' : Int) ≤ (c : Int) := by omega
    have S0 : w2.cell? ⟨q, 1, none⟩ = some (.slice a L.length c) ∧ w2.cell? ⟨w.heap.size, 0, none⟩ = some (.int .i64 (b' : Int)) ∧ w2.cell? ⟨w.heap.size, 1, none⟩ = some (.int .i64 (e' : Int)) := ⟨d2, d0, d1⟩
    have hqlt := lt_of_heap r2
    have hglt : w.heap.size < w2.heap.size := Nat.lt_of_lt_of_le hlt hw2.size
    have hd : Below w2.heap.size w2 w2.drew := (Below.refl _ _).drew
    by_cases hcb : c = b'
    · have i3 := hash7_any _ (Til.sg L b' e') a 0 w2.drew (Nat.le_refl _) (by omega) (by omega) (by omega) (Til.sg_hs hHs _ _) (by
        have : Til.sg L b' e' = [] := List.eq_nil_of_length_eq_zero (by omega)
        rw [this]; exact At.nil _ _)
      rw [hlen, h1] at i3
      clear r2 hA h1 hlen T1 i1 hHs d0 d1 d2 c0 c1 B1 hw2
      generalize L.length = n at *
      obtain rfl : b' = c := hcb.symm
      go_wp2
      go_region_held3 (fun w' => w'.cell? ⟨q, 1, none⟩ = some (.slice a n b') ∧ w'.cell? ⟨w.heap.size, 0, none⟩ = some (.int .i64 (b' : Int)) ∧ w'.cell? ⟨w.heap.size, 1, none⟩ = some (.int .i64 (e' : Int))) (first | exact S0 | exact S3) ((go_at_call 56; refine i3.mono ?_; rintro r w3 ⟨rfl, hw3⟩; have S3 := s3_below (w := w2.drew) S0 hqlt hglt hw3))
      all_goals go_wp2
      all_goals go_ret2
      all_goals exact ⟨rfl, B2.out.trans ((hd.trans (hw3.mono hd.size)).mono B2.out.size)⟩
    · have i3 := hash7_any _ (Til.sg L b' e') (a.map (·.add b')) (c - b') w2.drew (Nat.le_refl _) (by omega) (by omega) (by omega) (Til.sg_hs hHs _ _) ((hA.map_sg hen).below hd (Nat.le_refl _))
      rw [hlen, h1] at i3
      clear r2 hA h1 hlen T1 i1 hHs d0 d1 d2 c0 c1 B1 hw2
      generalize L.length = n at *
      go_wp2
      go_region_held3 (fun w' => w'.cell? ⟨q, 1, none⟩ = some (.slice a n c) ∧ w'.cell? ⟨w.heap.size, 0, none⟩ = some (.int .i64 (b' : Int)) ∧ w'.cell? ⟨w.heap.size, 1, none⟩ = some (.int .i64 (e' : Int))) (first | exact S0 | exact S3) ((go_at_call 56; refine i3.mono ?_; rintro r w3 ⟨rfl, hw3⟩; have S3 := s3_below (w := w2.drew) S0 hqlt hglt hw3))
      all_goals go_wp2
      all_goals go_ret2
      all_goals exact ⟨rfl, B2.out.trans ((hd.trans (hw3.mono hd.size)).mono B2.out.size)⟩
set_option maxRecDepth 100000 in
theorem rRoot7_any {w : World} {q h : Nat} {L : List (List UInt8)} {F : Nat → Prop} (t : RtL w q h L F) (n : Int) {x : List UInt8} {z : Int} (hx : Hid (tPartO L 0 n = (x, z))) :
    Calls Tryz.prog 12 #[.pointer (some ⟨q, 0, none⟩), .int .i64 n] w fun r w' => r = .returned (.tuple #[sv x, .int .i64 z]) ∧ Below w.heap.size w w' := by
  have i1 := rPart7_any t 0 n hx
  go_enter Tryz.func12, Tryz.ntmps12
  go_wp2_with (go_at_call 36; refine i1.mono ?_; rintro r w2 ⟨rfl, hw2⟩)
  go_ret2
  exact ⟨rfl, hw2⟩
end Go.Proofs.YtenklmjeeejfdaaGreatDoor

namespace Go.Proofs.YtenklmjeeejfdaaGreatDoor
open Go.RowKit Go.Shelf
namespace Chn
theorem ChI.set0 {w : World} {g : Nat} {a b : Value} (h : ChI w g a b) (v : Value) : ChI (w.setCell ⟨g, 0, none⟩ v) g v b := heap_setCell_same w g 0 _ _ _ h
theorem ChI.set1 {w : World} {g : Nat} {a b : Value} (h : ChI w g a b) (v : Value) : ChI (w.setCell ⟨g, 1, none⟩ v) g a v := heap_setCell_same w g 1 _ _ _ h
theorem append_intsC (w : World) (a : Addr) (cap : Nat) (L : List Nat) (m : Nat) (hm : Hid (L.length = m)) (hA : AtI w (some a) (ix L)) (hp : 0 < m) (hlen : m ≤ 1000000) :
    ∃ v' w', (Builtin.append_ #[22, 22] 22 #[.slice none 0 0, .slice (some a) m cap]).run Tryz.prog w = .ok v' w' ∧ OwnM 1 w' v' m (ivC L) ∧ Grow w w' (.slice none 0 0) v' := by
  obtain ⟨i0, hi, hz0, hz1, hz2⟩ := info_parts infoIC
  have hsrc : Src Tryz.prog 1 22 (.slice (some a) m cap) m (ivC L) w :=
    Src.ofSlice _ Tryz.underlying22 a m cap (ivC L) (by rw [ivC_len, hm.out, Nat.mul_one]) (fun j u hj => by
      simp only [ivC, List.getElem?_map, Option.map_eq_some_iff] at hj
      obtain ⟨p, hp, rfl⟩ := hj
      obtain ⟨y, hy, _, hc⟩ := hA j (p : Int) (by unfold ix; rw [List.getElem?_map, hp]; rfl)
      obtain rfl := Option.some.inj hy
      exact hc) (fun u hu => by obtain ⟨p, _, rfl⟩ := List.mem_map.1 hu; rfl)
  obtain ⟨v', w', hap, hO, hG⟩ := run_append_M (P := Tryz.prog) _ 22 22 22 3 i0 (.int .i64 0) Tryz.underlying22 hi hz0 hz1 rfl _ 0 [] (OwnM.nil 1 _) _ m (ivC L) hsrc
    (by rw [hz2]; omega) (by rw [maxLen]; omega) (fun _ => by omega)
  rw [Nat.zero_add, List.nil_append] at hO
  exact ⟨v', w', hap, hO, hG⟩
end Chn
end Go.Proofs.YtenklmjeeejfdaaGreatDoor

namespace Go.Proofs.YtenklmjeeejfdaaGreatDoor
open Go.RowKit Go.Shelf
namespace Chn
theorem told_hi {hs : List Nat} (HH : Hds hs) {n : Nat} (hl : ∀ x ∈ hs, x ≤ n) : ∀ s ∈ told hs, s.1 ≤ s.2 ∧ s.2 ≤ n := fun s hs' => by
  have h1 := (tol_lo HH (i := hs.length - 1) (by have := HH.ne; omega) s hs').1
  refine ⟨Nat.le_of_lt h1, ?_⟩
  have h2 := tol_sub hs _ s hs'
  have key : ∀ i, i < hs.length → s ∈ allP hs i → s.2 ≤ n := fun i => by
    induction i with
    | zero => intro _ e; cases e
    | succ i ih =>
      intro hi e
      rcases List.mem_append.1 e with e | e
      · exact ih (by omega) e
      · have hp := HH.pair hi
        have := (prf_lo hp.1 (Nat.le_of_lt hp.2.1) s e).2
        have := hl _ (List.mem_of_getElem? (getD_at hi))
        omega
  exact key _ (by have := HH.ne; omega) h2
def RvP (w : World) (L : List (List UInt8)) (hs : List Nat) (m k : Nat) (r : Ending) (w' : World) : Prop := ∃ ai ci ah chp, r = .returned (.tuple #[ch (.slice ai m ci) (.slice ah k chp), .int .i64 0]) ∧ OwnM 1 w' (.slice ai m ci) m (ivC hs) ∧ (∀ i, (Value.slice ai m ci).ownBlock = some i → w.heap.size ≤ i) ∧ Own w' w.heap.size (.slice ah k chp) (svs (pvH L hs)) ∧ Below w.heap.size w w'
set_option maxRecDepth 100000 in
set_option maxHeartbeats 8000000 in
theorem rProve_ok (hs : List Nat) (HH : Hds hs) (m k : Nat) (hm : Hid (hs.length = m)) (hk : Hid ((told hs).length = k)) {w : World} {q h : Nat} {L : List (List UInt8)} {F : Nat → Prop} (t : RtL w q h L F) (hl : ∀ x ∈ hs, x ≤ L.length) (x : Addr) (cap : Nat) (hA : AtI w (some x) (ix hs)) :
    Calls Tryz.prog 11 #[.pointer (some ⟨q, 0, none⟩), .slice (some x) m cap] w (RvP w L hs m k) := by
  have lm : m ≤ 64 := by rw [← hm.out]; exact HH.le
  have lm1 : 1 ≤ m := by rw [← hm.out]; exact HH.ne
  have lk : k ≤ 2583 := by rw [← hk.out]; exact tol_few HH (by have := HH.ne; omega)
  have htl := hid (told_hi HH hl)
  obtain ⟨M, hM⟩ : ∃ M, m = M + 1 := ⟨m - 1, by omega⟩
  have b0 := (Below.refl w.heap.size w).alloc (Nat.le_refl _) (.cells #[.slice none 0 0, .slice none 0 0] 25)
  have s0 := ChI.new w (.slice none 0 0) (.slice none 0 0)
  have hxl := hid (show (ix hs).length = m by rw [← hm.out]; simp [ix])
  have i1 := rHeads_any (ix hs) m hxl (some x) cap _ (by omega) (hA.below b0 (Nat.le_refl _))
  rw [hds_mayB HH] at i1
  have i3 := hid (fun w' (bb : Below w.heap.size w w') => rspans_any hs HH m hm (some x) cap w' (hA.below bb (Nat.le_refl _)))
  have fact : ∀ w', Below w.heap.size w w' → w'.cell? (x.add M) = some (.int .i64 (hs.getD M 0 : Int)) := fun w' bb => by
    obtain ⟨y, hy, _, h0⟩ := (hA.below bb (Nat.le_refl _)) M _ (ix_at (by rw [hm.out]; omega))
    obtain rfl := Option.some.inj hy
    exact h0
  have hlast : hs.getD M 0 ≤ L.length := hl _ (List.mem_of_getElem? (getD_at (by rw [hm.out]; omega)))
  have HF := hid fact
  have i2 := hid (fun w' (bb : Below w.heap.size w w') => rSizeL (t.below bb))
  have AI := hid (fun w' (h : Below w.heap.size w w') => hA.below h (Nat.le_refl _))
  have HT := hid t
  generalize hs.getD M 0 = z at *
  have z1 : ¬ (L.length : Int) < (z : Int) := by omega
  have z2 : decide (L.length < z) = false := decide_eq_false (by omega)
  have v1 : IntKind.i64.wrap ((m : Int) - 1) = (M : Int) := by rw [IntKind.wrap_i64]; omega
  have v3 : (0 : Int) ≤ (M : Int) := by omega
  have v4 : (M : Int) < (m : Int) := by omega
  clear hM
  have B0 := hid b0
  have S0 := hid s0
  obtain ⟨ll, hLL⟩ : ∃ ll, L.length = ll := ⟨_, rfl⟩
  have HLL := hid hLL
  unfold Hid at i2
  rw [hLL] at i2 z1 z2
  have i2 := hid i2
  clear hA b0 s0 t fact hl hLL hlast
  go_enter Tryz.func11, Tryz.ntmps11
  go_wp2_with (go_at_call 20; refine i1.mono ?_; rintro r w1 ⟨rfl, b1⟩; have B1 := hid (B0.out.trans (b1.mono B0.out.size)); have S1 := hid (S0.out.below b1); have x1 := HF.out _ B1.out; clear b1)
  go_quiet (first | (go_at_call 35; refine Calls.quiet_of_same (i2.out _ ?_); exact ⟨B1.out.os, B1.out.tape, B1.out.output, B1.out.size, B1.out.block⟩))
  have B2 : Hid (Below w.heap.size w (w1.drewN nq)) := ⟨B1.out.os, B1.out.tape, B1.out.output, B1.out.size, B1.out.block⟩
  have S2 : Hid (ChI (w1.drewN nq) w.heap.size (.slice none 0 0) (.slice none 0 0)) := S1.out
  generalize w1.drewN nq = w2 at *
  clear x1 HF i1 i2 B1 S1 B0 S0
  have b3 := (Below.refl w2.heap.size w2).alloc (Nat.le_refl _) (.cells #[.slice none 0 0, .slice none 0 0] 25)
  have C3 := ChI.new w2 (.slice none 0 0) (.slice none 0 0)
  have B3 := B2.out.trans (b3.mono B2.out.size)
  have z3 : (w2.alloc (.cells #[.slice none 0 0, .slice none 0 0] 25)).heap.size = w2.heap.size + 1 := size_alloc _ _
  have S3 := S2.out.below b3
  go_upto_region 5 with fail
  generalize w2.alloc (.cells #[.slice none 0 0, .slice none 0 0] 25) = w3 at *
  obtain ⟨v4', w4, hap, O4, G4⟩ := append_intsC w3 x cap hs m hm (AI.out _ B3) lm1 (by omega)
  have b4 : Below w3.heap.size w3 w4 := keep_belowC G4.keep (Nat.le_refl _) (fun k e => by cases e)
  have ge4 : ∀ i, v4'.ownBlock = some i → w3.heap.size ≤ i := fun i hi => by
    rcases Grow.alt' G4 i hi with e | e
    · cases e
    · exact e
  obtain ⟨a4, c4, hv4, _, _⟩ := O4.shape
  subst hv4
  have C4 := C3.below b4
  have y0 := C3.c0
  have y1 := C4.c0
  have y2 := frozen_of_row _ _ 0 _ _ C4
  have B4 := B3.trans (b4.mono B3.size)
  have S4 := S3.below b4
  have hg1 : w.heap.size < w2.heap.size := lt_of_heap S2.out
  have k5 := Keep.ofSet (S := fun k => k = w2.heap.size) w4 w2.heap.size 0 (.slice a4 m c4) rfl
  have C5 := hid (C4.set0 (.slice a4 m c4))
  have O5 := hid (O4.keep k5 (fun i hi e => by have := ge4 i hi; omega))
  have B5 := hid (Below.setCell (p := ⟨w2.heap.size, 0, none⟩) B4 B2.out.size (.slice a4 m c4))
  have S5 : Hid (ChI (w4.setCell ⟨w2.heap.size, 0, none⟩ (.slice a4 m c4)) w.heap.size (.slice none 0 0) (.slice none 0 0)) := (k5.block w.heap.size (lt_of_heap S4) (by omega)).trans S4
  have GE4 := hid ge4
  have i4 := i3.out _ B5.out
  clear C3 C4 O4 G4 b3 b4 B3 B4 S3 S4 k5 ge4 i3 S2
  go_wp2_with (first | (at_builtin; go_must (refine Lib.wpList_append_run _ rfl _ _ 22 22 rfl _ _ rfl rfl _ _ hap ?_)) | (go_at_call 30; fail))
  clear hap y0 y1 y2
  generalize w4.setCell ⟨w2.heap.size, 0, none⟩ (.slice a4 m c4) = w5 at *
  with_reducible refine i4.mono ?_
  rintro r w6 ⟨v6, rfl, R6⟩
  have b6 := R6.bel
  obtain ⟨a6, c6, hv6, _, _⟩ := OwnM.shape R6.own
  rw [hk.out] at hv6
  subst hv6
  have C6 := hid (C5.out.below b6)
  have O6 := hid (O5.out.below b6)
  have S6 := hid (S5.out.below b6)
  have B6 := hid (B5.out.trans (b6.mono B5.out.size))
  have P6 := hid R6.own
  have PF : Hid (∀ i, (Value.slice a6 k c6).ownBlock = some i → ¬ i = w2.heap.size) := fun i hi e => by have := R6.ge i hi; have := lt_of_heap C5.out; omega
  have OG : Hid (∀ i, (Value.slice a4 m c4).ownBlock = some i → ¬ i = w2.heap.size) := fun i hi e => by have := GE4.out i hi; omega
  have Z6 := hid (show w2.heap.size < w6.heap.size from lt_of_heap C6.out)
  have ZB := hid (show w.heap.size < w2.heap.size from hg1)
  have GE : Hid (∀ i, (Value.slice a4 m c4).ownBlock = some i → w.heap.size < i) := fun i hi => by have := GE4.out i hi; have := z3; omega
  obtain ⟨S, hS⟩ : ∃ S, told hs = S := ⟨_, rfl⟩
  have HS := hid hS
  unfold Hid at P6 hk htl
  rw [hS] at P6 hk htl
  have P6 := hid P6
  have hk := hid hk
  have htl := hid htl
  clear i4 R6 b6 C5 O5 S5 B5 hS GE4 z3 hg1 B2
  generalize w2.heap.size = g1 at *
  go_wp2
  go_loopw [9, 10, 11] (fun i _ _ w' => ∃ (j : Nat) (vh : Value), j ≤ k ∧ i = .int .i64 (j : Int) ∧ Hid (ChI w' g1 (.slice a4 m c4) vh) ∧ Hid (Own w' w6.heap.size vh (svs ((S.take j).map fun s => Tree.root (Til.sg L s.1 s.2)))) ∧ Hid (Keep (fun i => i = g1) w6 w')) (fun i _ _ _ => k - (intOf i).toNat)
  case atStart => exact ⟨0, .slice none 0 0, by omega, rfl, C6, Own.nil _ _, Keep.refl _ _⟩
  case round =>
    clear C6
    obtain ⟨j, vh, hj, rfl, hC, hO, hK⟩ := hrel
    have zK := hK.out.size
    have zw := Z6.out
    have BW := hid (B6.out.trans (keep_belowC hK.out B6.out.size fun i e => by have := ZB.out; omega))
    by_cases hjm : j < k
    · have d0 : (j : Int) < (k : Int) := by omega
      have l0 : (0 : Int) ≤ (j : Int) := by omega
      have hjS : j < S.length := by rw [hk.out]; exact hjm
      obtain ⟨gp, hgp, _, p0, p1⟩ := ownP_atC (show OwnP wr (.slice a6 k c6) S from OwnM.keep P6.out hK.out fun i hi => PF.out i hi) (List.getElem?_eq_getElem hjS)
      subst hgp
      have hs' := htl.out S[j] (List.getElem_mem hjS)
      have HX : Hid (tPartO L (S[j].1 : Int) (S[j].2 : Int) = (Tree.root (Til.sg L S[j].1 S[j].2), 0)) := tPartO_nat hs'.1 hs'.2
      have iP := rPart7_any (HT.out.below BW.out) (S[j].1 : Int) (S[j].2 : Int) HX
      have hst := hid (show (S.take (j + 1)).map (fun s => Tree.root (Til.sg L s.1 s.2)) = (S.take j).map (fun s => Tree.root (Til.sg L s.1 s.2)) ++ [Tree.root (Til.sg L S[j].1 S[j].2)] by rw [List.take_add_one, List.getElem?_eq_getElem hjS, List.map_append]; rfl)
      have hlen : ((S.take j).map (fun s => Tree.root (Til.sg L s.1 s.2))).length ≤ 2000000 := by rw [List.length_map, List.length_take]; omega
      generalize (S[j].1 : Int) = x0 at *
      generalize (S[j].2 : Int) = x1 at *
      generalize Tree.root (Til.sg L S[j].1 S[j].2) = r at *
      rw [show sv r = Value.string ⟨r.toArray⟩ from rfl] at iP
      clear hs' HX
      go_wp2_with (go_at_call 36; fail)
      with_reducible refine iP.mono ?_
      rintro r' w7 ⟨rfl, b7⟩
      have C7 := hC.out.below b7
      have y1 := C7.c1
      obtain ⟨v8, w8, hap, hO8, hb8⟩ := append_text w7 w6.heap.size vh _ r (hO.out.below b7 (Nat.le_refl _)) hlen (Nat.le_trans zK b7.size)
      rw [← hst.out] at hO8
      obtain ⟨a8, c8, hv8⟩ := Own.shape hO8
      subst hv8
      rw [show sv r = Value.string ⟨r.toArray⟩ from rfl] at hap
      have C8 : ChI w8 g1 (.slice a4 m c4) vh := (hb8.block _ zw).trans C7
      have y8 := C8.c1
      have f8 : w8.frozen? ⟨g1, 1, none⟩ = false := frozen_of_row _ _ _ _ _ C8
      have k7 := hK.out.trans (Keep.ofBelow (S := fun i => i = g1) b7) fun _ _ e => e
      have k78 : Keep (fun i => i = g1) w6 w8 := ⟨hb8.os.trans k7.os, hb8.tape.trans k7.tape, hb8.output.trans k7.output, Nat.le_trans k7.size hb8.size, fun i hi hs => (hb8.block i hi).trans (k7.block i hi hs)⟩
      generalize hLN : (svs ((S.take (j + 1)).map fun s => Tree.root (Til.sg L s.1 s.2))).length = LN at *
      have C9 := hid (C8.set1 (.slice a8 LN c8))
      have k9 := Keep.ofSet (S := fun i => i = g1) w8 g1 1 (.slice a8 LN c8) rfl
      have K9 := hid (k78.trans k9 fun _ _ e => e)
      have O9 := hid (hO8.keep k9 fun i hi e => by have := hO8.ge i hi; omega)
      clear hO8 hb8 C7 C8 k7 k78 k9 b7 iP hLN hst
      go_wp2_with (at_builtin; go_must (refine Lib.wpList_append_run _ rfl _ _ 23 23 rfl _ _ rfl rfl _ _ hap ?_))
      exact ⟨⟨j + 1, _, by omega, by go_num, C9, O9, K9⟩, by simp [intOf]; omega⟩
    · obtain rfl : j = k := by omega
      have d0 : ¬ (j : Int) < (j : Int) := by omega
      have hO1 := hO.out
      rw [← hk.out, List.take_length] at hO1
      obtain ⟨ah, chp, hvh⟩ := Own.shape hO1
      rw [show (svs (S.map fun s => Tree.root (Til.sg L s.1 s.2))).length = j by rw [← hk.out]; simp [svs]] at hvh
      subst hvh
      have HO1 := hid hO1
      have SW : Hid (ChI wr w.heap.size (.slice none 0 0) (.slice none 0 0)) := (hK.out.block w.heap.size (lt_of_heap S6.out) (by have := ZB.out; omega)).trans S6.out
      have OW := hid (O6.out.keep hK.out fun i hi => OG.out i hi)
      have kc0 := SW.out.c0
      have kc1 := SW.out.c1
      have kf0 : wr.frozen? ⟨w.heap.size, 0, none⟩ = false := frozen_of_row _ _ _ _ _ SW.out
      have kf1 : wr.frozen? ⟨w.heap.size, 1, none⟩ = false := frozen_of_row _ _ _ _ _ SW.out
      have u0 := hC.out.c0
      have u1 := hC.out.c1
      clear hO hO1
      go_wp2
      have R8 := heap_setCell_same _ w.heap.size 1 _ _ (.slice ah j chp) (heap_setCell_same wr w.heap.size 0 _ _ (.slice a4 m c4) SW.out)
      have k9 : Keep (fun i => i = w.heap.size) wr ((wr.setCell ⟨w.heap.size, 0, none⟩ (.slice a4 m c4)).setCell ⟨w.heap.size, 1, none⟩ (.slice ah j chp)) := (Keep.ofSet (S := fun i => i = w.heap.size) wr w.heap.size 0 (.slice a4 m c4) rfl).trans (Keep.ofSet (S := fun i => i = w.heap.size) _ w.heap.size 1 (.slice ah j chp) rfl) fun _ _ e => e
      have zb := ZB.out
      have ge := GE.out
      have sl := lt_of_heap SW.out
      refine bodyPost_ret (results_rowC_tmp rfl _ _ w.heap.size 25 _ (0, 0) _ rfl R8 Tryz.underlying25 rfl (sizeCh _ _)) rfl ⟨a4, c4, ah, chp, rfl, ?_, (fun i hi => Nat.le_of_lt (ge i hi)), ?_, BW.out.trans (keep_belowC k9 BW.out.size (fun i e => by omega))⟩
      · exact OW.out.keep k9 (fun i hi e => by have := ge i hi; omega)
      · have o9 := HO1.out.keep k9 (fun i hi e => by have := HO1.out.ge i hi; omega)
        unfold pvH
        rw [HS.out]
        exact o9.mono (by have := Z6.out; omega)
end Chn
end Go.Proofs.YtenklmjeeejfdaaGreatDoor

/- Layer 13: what Prove answers, of both -/
namespace Go.Proofs.YtenklmjeeejfdaaGreatDoor
open Go.RowKit Go.Shelf
namespace Chn
inductive Pvs (cs : List Int) (L : List (List UInt8)) : List Int → List (List UInt8) → Int → Prop
  | no (h : mayB cs = false) : Pvs cs L [] [] 130
  | over (hs : List Nat) (e : cs = ix hs) (HH : Hds hs) (h : L.length < hs.getD (hs.length - 1) 0) : Pvs cs L [] [] 130
  | ok (hs : List Nat) (e : cs = ix hs) (HH : Hds hs) (h : ∀ x ∈ hs, x ≤ L.length) : Pvs cs L (ix hs) (pvH L hs) 0
theorem row_ownC {w : World} {g : Nat} {l : List (List UInt8)} (h : Row w g l) (hl : l.length ≤ 1099511627776) : OwnM 1 w (.slice (some ⟨g, 0, none⟩) l.length l.length) l.length (svs l) := by
  refine .inr ⟨g, l.length, rfl, Nat.le_refl _, by rw [maxLen]; omega, by rw [svs_length, Nat.mul_one], ?_, ?_, h.lt⟩
  · intro j u hu
    rw [Nat.zero_add, cell_of_row _ _ _ _ _ _ h]
    simpa using hu
  · rw [Nat.mul_one]
    exact there_of_row h 0 l.length (by simp [svs])
end Chn
end Go.Proofs.YtenklmjeeejfdaaGreatDoor

/- Layer 13, the law: numbers that are lent, kept, each one more (written by genCH2.py) -/
namespace Go.Proofs.YtenklmjeeejfdaaGreatDoor
open Go.RowKit Go.Shelf
namespace Chn
namespace Gb
theorem below_drewN8g {B : Nat} {a w : World} (h : Below B a w) (n : Nat) : Below B a (w.drewN n) := ⟨h.os, h.tape, h.output, h.size, h.block⟩
def ivz (l : List Int) : List Value := l.map fun x => .int .i64 x
theorem ivz_len (l : List Int) : (ivz l).length = l.length := by simp [ivz]
theorem ivz_one {L : List Int} {v : Value} (h : v ∈ ivz L) : v.oneCell' = true := by
  simp only [ivz, List.mem_map] at h
  obtain ⟨n, _, rfl⟩ := h
  rfl
theorem infoZ : (Tryz.prog.info? 3).map (fun i => (i.zero, i.size, i.bytes)) = some (some (.int .i64 0), 1, 8) := by kernel_rfl
theorem infoZ1 : (Tryz.prog.info? 3).map (·.size) = some 1 := by kernel_rfl
def RowZ (w : World) (H : Nat) (L : List Int) : Prop := w.heap[H]? = some (.cells (ivz L).toArray 3 (0, 0))
theorem RowZ.lt {w : World} {H : Nat} {L : List Int} (h : RowZ w H L) : H < w.heap.size := lt_of_heap h
theorem RowZ.cell {w : World} {H : Nat} {L : List Int} (h : RowZ w H L) {j : Nat} {p : Int} (hp : L[j]? = some p) : w.cell? ⟨H, j, none⟩ = some (.int .i64 p) := by
  rw [cell_of_row _ _ _ _ _ _ h]; simp [ivz, hp]
theorem RowZ.at {w : World} {H : Nat} {L : List Int} (h : RowZ w H L) : AtI w (some ⟨H, 0, none⟩) L := fun j p hp => ⟨_, rfl, h.lt, by rw [Addr.add_mid, Nat.zero_add]; exact h.cell hp⟩
theorem RowZ.free {w : World} {H : Nat} {L : List Int} (h : RowZ w H L) (j : Nat) : w.frozen? ⟨H, j, none⟩ = false := frozen_of_row _ _ _ _ _ h
theorem RowZ.below {w w' : World} {H B : Nat} {L : List Int} (h : RowZ w H L) (hb : Below B w w') (hB : H < B) : RowZ w' H L := (hb.block H hB).trans h
theorem RowZ.set {w : World} {H : Nat} {L : List Int} (h : RowZ w H L) (k : Nat) (x : Int) : RowZ (w.setCell ⟨H, k, none⟩ (.int .i64 x)) H (L.set k x) := by
  have e := setCell_eq_setRow w H k (ivz L).toArray 3 (0, 0) (.int .i64 x) h
  unfold RowZ
  rw [e, setRow_heap _ _ _ _ _ _ h]
  refine congrArg (fun A => some (Obj.cells A 3 (0, 0))) ?_
  simp [ivz, List.map_set]
theorem make_ints13 (w : World) (c : Nat) (hc : c ≤ 17592186044416) :
    (Instr.makeSlice 22 (.int .i64 (c : Int)) (.int .i64 (c : Int))).run Tryz.prog w = .ok (.slice (some ⟨w.heap.size, 0, none⟩) c c) (w.alloc (.cells (ivz (List.replicate c 0)).toArray 3)) := by
  obtain ⟨i0, hi, hz0, hz1, hz2⟩ := info_parts infoZ
  have h := run_make (P := Tryz.prog) w 22 3 i0 (.int .i64 0) Tryz.underlying22 hi hz0 .i64 .i64 (c : Int) (c : Int) (by omega) (by omega) (by rw [hz2]; omega) (by omega)
  rw [Int.toNat_natCast, hz1, Nat.mul_one] at h
  have e : madeCells (Value.int .i64 0).cells c = (ivz (List.replicate c 0)).toArray := by
    apply Array.ext'
    rw [show (madeCells (Value.int .i64 0).cells c).toList = List.replicate c (.int .i64 0) from toList_madeCells_one _ _]
    simp [ivz]
  rw [e] at h
  exact h
theorem copy_ints13 (w : World) (H : Nat) (a : Option Addr) (cap' : Nat) (ps rest : List Int) (hs : AtI w a ps) (hR : RowZ w H (List.replicate ps.length 0 ++ rest)) (m cap : Nat) (hm : m = ps.length + rest.length) :
    ∃ w', (Builtin.copy_ #[22, 22] 3 #[.slice (some ⟨H, 0, none⟩) m cap, .slice a ps.length cap']).run Tryz.prog w = .ok (goInt ps.length) w' ∧ RowZ w' H (ps ++ rest) ∧ But H w w' := by
  by_cases h0 : ps.length = 0
  · obtain rfl : ps = [] := List.length_eq_zero_iff.1 h0
    exact ⟨w, run_copy_none (P := Tryz.prog) w _ _ _ 3 _ _ _ _ _ _ Tryz.underlying22 infoZ1 (by simp), by simpa using hR, But.refl _ _⟩
  · obtain ⟨x, rfl, hx, _⟩ := hs 0 _ (List.getElem?_eq_getElem (by omega))
    have h := run_copy_row (P := Tryz.prog) w 22 22 3 3 H 0 m cap x ps.length cap' _ 3 (ivz ps) Tryz.underlying22 infoZ1 hR
      (by rw [ivz_len]; exact (Nat.min_eq_left (by omega)).symm) (fun j u hu => by
        simp only [ivz, List.getElem?_map, Option.map_eq_some_iff] at hu
        obtain ⟨p, hp, rfl⟩ := hu
        obtain ⟨y, hy, _, hc⟩ := hs j p hp
        cases hy
        exact hc) (by simp [ivz]) (fun u hu => ivz_one hu)
    refine ⟨_, h.trans (by rw [ivz_len]), ?_, (But.refl _ _).setRow _⟩
    unfold RowZ
    rw [setRow_heap _ _ _ _ _ _ hR]
    refine congrArg (fun A => some (Obj.cells A 3 (0, 0))) ?_
    simp [ivz]
def b77 (j : Nat) : List Int := List.replicate j 77 ++ List.replicate (8 - j) 0
theorem b77_set (ps : List Int) {j : Nat} (hj : j < 8) : (ps ++ b77 j).set (ps.length + j) 77 = ps ++ b77 (j + 1) := by
  rw [List.set_append_right _ _ (by omega), Nat.add_sub_cancel_left, b77, b77, show 8 - j = (8 - (j + 1)) + 1 by omega, List.replicate_succ, List.set_append_right _ _ (by simp), List.length_replicate, Nat.sub_self, List.replicate_succ', List.append_assoc]
  rfl
theorem b77_len (j : Nat) (hj : j ≤ 8) : (b77 j).length = 8 := by simp [b77]; omega
set_option maxRecDepth 100000 in
set_option maxHeartbeats 2000000 in
theorem lentInts13_any (ps : List Int) (a : Option Addr) (cap : Nat) (w : World) (hn : ps.length ≤ 17592186044400) (hA : AtI w a ps) :
    Calls Tryz.prog 22 #[.slice a ps.length cap] w fun e w' => e = .returned (.slice (some ⟨w.heap.size, 0, none⟩) (ps.length + 8) (ps.length + 8)) ∧ RowZ w' w.heap.size (ps ++ List.replicate 8 77) ∧ Below w.heap.size w w' := by
  have hmk := make_ints13 w (ps.length + 8) (by omega)
  have e8 : ((ps.length + 8 : Nat) : Int) = (ps.length : Int) + 8 := by omega
  rw [e8] at hmk
  have R1 : RowZ (w.alloc (.cells (ivz (List.replicate (ps.length + 8) 0)).toArray 3)) w.heap.size (List.replicate ps.length 0 ++ List.replicate 8 0) := by
    rw [List.replicate_append_replicate]; exact heap_alloc_new w _
  have hb1 := (Below.refl w.heap.size w).alloc (Nat.le_refl _) (.cells (ivz (List.replicate (ps.length + 8) 0)).toArray 3)
  obtain ⟨w2, hcp, hR2, hb2⟩ := copy_ints13 _ w.heap.size a cap ps (List.replicate 8 0) (hA.below hb1 (Nat.le_refl _)) R1 (ps.length + 8) (ps.length + 8) (by simp)
  have B2 : Below w.heap.size w w2 := hb1.trans (hb2.below (Nat.le_refl _) (by rw [size_alloc]; omega))
  have HR2 : Hid (RowZ w2 w.heap.size (ps ++ b77 0)) := hR2
  have HB2 := hid B2
  clear hR2 B2 R1 hb2 hb1 hA
  generalize w.alloc (.cells (ivz (List.replicate (ps.length + 8) 0)).toArray 3) = w1 at *
  obtain ⟨n, hpn⟩ : ∃ n, ps.length = n := ⟨_, rfl⟩
  rw [hpn] at hmk hcp hn ⊢
  go_enter Tryz.func22, Tryz.ntmps22
  go_wp2
  clear hcp hmk
  go_loopw [4] (fun i w' => ∃ j : Nat, j ≤ 8 ∧ i = .int .i64 ((n : Int) + (j : Int)) ∧ Hid (RowZ w' w.heap.size (ps ++ b77 j)) ∧ Hid (Below w.heap.size w w')) (fun i _ => n + 8 - (intOf i).toNat)
  case atStart => exact ⟨0, by omega, by simp, HR2, HB2⟩
  case round =>
    clear HR2 HB2
    obtain ⟨j, hj, rfl, hR, hB⟩ := hrel
    by_cases hlt : j < 8
    · have b0 : (n : Int) + (j : Int) < (n : Int) + 8 := by omega
      have b1 : (0 : Int) ≤ (n : Int) + (j : Int) := by omega
      have t1 : ((n : Int) + (j : Int)).toNat = n + j := by omega
      have hl : (ps ++ b77 j).length = n + 8 := by rw [List.length_append, b77_len j (by omega), hpn]
      have cp := hR.out.cell (List.getElem?_eq_getElem (show n + j < (ps ++ b77 j).length by omega))
      have fz := hR.out.free (n + j)
      have R' := hR.out.set (n + j) 77
      rw [← hpn, b77_set ps hlt, hpn] at R'
      have B' := hid (hB.out.setCell (p := ⟨w.heap.size, n + j, none⟩) (Nat.le_refl _) (.int .i64 77))
      have R'' := hid R'
      clear R' hR hB
      go_wp2
      exact ⟨⟨j + 1, by omega, by rw [show (n : Int) + (j : Int) + 1 = (n : Int) + ((j + 1 : Nat) : Int) from by omega], R'', B'⟩, by simp [intOf]; omega⟩
    · obtain rfl : j = 8 := by omega
      have b0 : ¬ (n : Int) + ((8 : Nat) : Int) < (n : Int) + 8 := by omega
      go_wp2
      go_ret
      exact ⟨rfl, hR.out, hB.out⟩
set_option maxRecDepth 100000 in
set_option maxHeartbeats 2000000 in
theorem keptInts13_any (ps : List Int) (H : Nat) (c : Nat) (a : Option Addr) (cap : Nat) (w : World) (hn : ps.length ≤ 17592186044400) (hR : RowZ w H (ps ++ List.replicate 8 77)) (hA : AtI w a ps) :
    Calls Tryz.prog 26 #[.slice (some ⟨H, 0, none⟩) (ps.length + 8) c, .slice a ps.length cap] w fun e w' => e = .returned (.bool true) ∧ Below w.heap.size w w' ∧ w'.heap = w.heap := by
  have HR := hid hR
  have HA := hid hA
  obtain ⟨n, hpn⟩ : ∃ n, ps.length = n := ⟨_, rfl⟩
  have HN := hid hpn
  rw [hpn] at hn ⊢
  clear hR hA hpn
  obtain ⟨N, hN⟩ : ∃ N, n + 8 = N := ⟨_, rfl⟩
  rw [hN]
  go_enter Tryz.func26, Tryz.ntmps26
  go_wp2
  go_loopw [5] (fun i w' => ∃ j : Nat, j ≤ N ∧ i = .int .i64 (j : Int) ∧ Hid (Below w.heap.size w w' ∧ w'.heap = w.heap)) (fun i _ => N - (intOf i).toNat)
  case atStart => exact ⟨0, by omega, rfl, hid ⟨Below.refl _ _, rfl⟩⟩
  case round =>
    obtain ⟨j, hj, rfl, hB⟩ := hrel
    by_cases hjN : j < N
    · have b0 : (j : Int) < (N : Int) := by omega
      have j0 : (0 : Int) ≤ (j : Int) := by omega
      by_cases hjn : j < n
      · have b1 : (j : Int) < (n : Int) := by omega
        have b2 : ¬ (n : Int) ≤ (j : Int) := by omega
        have b3 : ¬ n ≤ j := by omega
        obtain ⟨z, hz⟩ : ∃ z, ps[j]? = some z := ⟨_, List.getElem?_eq_getElem (by rw [HN.out]; exact hjn)⟩
        have c0 := HR.out.cell (j := j) (p := z) (by rw [List.getElem?_append_left (by rw [HN.out]; exact hjn)]; exact hz)
        obtain ⟨x, rfl, xb, c1⟩ := HA.out j z hz
        rw [← hB.out.1.cell (p := ⟨H, j, none⟩) HR.out.lt] at c0
        rw [← hB.out.1.cell (p := x.add j) (by rw [addr_block]; exact xb)] at c1
        have y1 : (z == z) = true := by simp
        have y2 : (z != z) = false := by simp
        have y3 : decide (z = z) = true := by simp
        clear hz xb
        go_wp2
        go_quiet (fail)
        go_wp2
        exact ⟨⟨j + 1, by omega, by go_num, hid ⟨below_drewN8g hB.out.1 _, hB.out.2⟩⟩, by simp [intOf]; omega⟩
      · have b1 : ¬ (j : Int) < (n : Int) := by omega
        have b2 : (n : Int) ≤ (j : Int) := by omega
        have c0 := HR.out.cell (j := j) (p := 77) (by rw [List.getElem?_append_right (by rw [HN.out]; omega), List.getElem?_replicate, if_pos (by rw [HN.out]; omega)])
        rw [← hB.out.1.cell (p := ⟨H, j, none⟩) HR.out.lt] at c0
        go_wp2
        go_quiet (fail)
        go_wp2
        exact ⟨⟨j + 1, by omega, by go_num, hid ⟨below_drewN8g hB.out.1 _, hB.out.2⟩⟩, by simp [intOf]; omega⟩
    · have b0 : ¬ (j : Int) < (N : Int) := by omega
      go_wp2
      go_ret
      exact ⟨rfl, hB.out.1, hB.out.2⟩
theorem row_pre {w : World} {H : Nat} {L M : List Int} (h : RowZ w H (L ++ M)) : AtI w (some ⟨H, 0, none⟩) L := fun j p hp => h.at j p (by rw [List.getElem?_append_left (List.getElem?_eq_some_iff.1 hp).1]; exact hp)
def inc8 (x : Int) : Int := IntKind.i64.wrap (x + 1)
theorem take_inc (ps : List Int) {j : Nat} (hj : j < ps.length) : (ps.take (j + 1)).map inc8 = (ps.take j).map inc8 ++ [inc8 ps[j]] := by
  rw [List.take_succ_eq_append_getElem hj, List.map_append]; rfl
theorem append_zC (w : World) (v : Value) (l : List Int) (x : Int) (h : OwnM 1 w v l.length (ivz l)) (hl : l.length ≤ 17592186044414) :
    ∃ v' w', (Builtin.append_ #[22, 22] 22 #[v, .slice (some ⟨w.heap.size, 0, none⟩) 1 1]).run Tryz.prog (w.alloc (.cells #[.int .i64 x] 3)) = .ok v' w' ∧ OwnM 1 w' v' (l ++ [x]).length (ivz (l ++ [x])) ∧ Grow w w' v v' := by
  have h' := append_oneL 22 3 (.int .i64 0) 8 Tryz.underlying22 infoZ rfl w v l.length (ivz l) [.int .i64 x] rfl (fun u hu => by
    simp only [List.mem_cons, List.not_mem_nil, or_false] at hu
    subst hu; rfl) h (by omega) (by rw [maxLen]; omega)
  obtain ⟨v', w', a1, a2, a3⟩ := h'
  refine ⟨v', w', a1, ?_, a3⟩
  rw [show ivz (l ++ [x]) = ivz l ++ [.int .i64 x] by simp [ivz], List.length_append]
  exact a2
theorem own_atZ {w : World} {v : Value} {l : List Int} (h : OwnM 1 w v l.length (ivz l)) : ∃ a c, v = .slice a l.length c ∧ AtI w a l := by
  obtain ⟨a, c, e, _, _⟩ := h.shape
  refine ⟨a, c, e, fun j p hp => ?_⟩
  obtain ⟨g, c', e1, h1, h2⟩ := h.cell (j := j) (u := .int .i64 p) (by simp [ivz, hp])
  rw [e] at e1
  injection e1 with e1
  exact ⟨⟨g, 0, none⟩, e1, h2, by rw [Addr.add_mid, Nat.zero_add]; exact h1⟩
structure Nx (w w' : World) (v : Value) (l : List Int) : Prop where
  own : OwnM 1 w' v l.length (ivz l)
  ge : ∀ k, v.ownBlock = some k → w.heap.size ≤ k
  bel : Below w.heap.size w w'
theorem Nx.push {w w' w2 : World} {v v' : Value} {l : List Int} {x : Int} (h : Nx w w' v l) (ho : OwnM 1 w2 v' (l ++ [x]).length (ivz (l ++ [x]))) (g : Grow w' w2 v v') : Nx w w2 v' (l ++ [x]) :=
  ⟨ho, fun k hk => by
    have := h.bel.size
    rcases Grow.alt' g k hk with e | e
    · exact h.ge k e
    · omega, h.bel.trans (keep_belowC g.keep h.bel.size h.ge)⟩
set_option maxRecDepth 100000 in
set_option maxHeartbeats 2000000 in
theorem next13_any (ps : List Int) (n : Nat) (hn : Hid (ps.length = n)) (a : Option Addr) (cap : Nat) (w : World) (ln : n ≤ 17592186044400) (hA : AtI w a ps) :
    Calls Tryz.prog 21 #[.slice a n cap] w fun r w' => ∃ v, r = .returned v ∧ Nx w w' v (ps.map inc8) := by
  have HA := hid hA
  clear hA
  go_enter Tryz.func21, Tryz.ntmps21
  go_wp2
  go_loopw [3, 4] (fun v i w' => ∃ J : Nat, J ≤ n ∧ i = .int .i64 (J : Int) ∧ Hid (Nx w w' v ((ps.take J).map inc8))) (fun _ i _ => n - (intOf i).toNat)
  case atStart => exact ⟨0, by omega, rfl, ⟨OwnM.nil 1 _, (fun k hk => by cases hk), Below.refl _ _⟩⟩
  case round =>
    obtain ⟨J, hJ, rfl, hL⟩ := hrel
    by_cases hJn : J < n
    · have c1 : (J : Int) < (n : Int) := by omega
      have j0 : (0 : Int) ≤ (J : Int) := by omega
      have hJp : J < ps.length := by rw [hn.out]; exact hJn
      obtain ⟨x, rfl, _, hx⟩ := (HA.out.below hL.out.bel (Nat.le_refl _)) J ps[J] (List.getElem?_eq_getElem hJp)
      obtain ⟨v', w3, hap, Oq3, Gq3⟩ := append_zC wr u3 ((ps.take J).map inc8) (inc8 ps[J]) hL.out.own (by simp; omega)
      have M3 := hL.out.push Oq3 Gq3
      rw [← take_inc ps hJp] at M3
      have M4 := hid M3
      generalize ps[J] = z at *
      have hz : IntKind.i64.wrap (z + 1) = inc8 z := rfl
      have hz2 : wrap64 (z + 1) = inc8 z := by unfold wrap64 inc8; rw [IntKind.wrap_i64]
      generalize inc8 z = y at *
      clear Oq3 Gq3 M3 hL
      go_wp2_with (at_builtin; go_must (refine Lib.wpList_append_run _ rfl _ _ 22 22 rfl _ _ rfl rfl _ _ hap ?_))
      exact ⟨⟨J + 1, by omega, by go_num, M4⟩, by simp [intOf]; omega⟩
    · obtain rfl : J = n := by omega
      have c1 : ¬ (J : Int) < (J : Int) := by omega
      have hL2 := hL.out
      rw [List.take_of_length_le (by rw [hn.out]; exact Nat.le_refl _)] at hL2
      have HL := hid hL2
      clear hL hL2
      go_wp2
      go_ret
      exact ⟨_, rfl, HL.out⟩
end Gb
end Chn
end Go.Proofs.YtenklmjeeejfdaaGreatDoor

/- Layer 13, the law: lists of lists of texts (out of BR8); a list put behind (written by genCX.py) -/
namespace Go.Proofs.YtenklmjeeejfdaaGreatDoor
open Go.RowKit Go.Shelf
namespace Chn
theorem own_M1 {w : World} {base : Nat} {v : Value} {cs : List Value} (h : Own w base v cs) : OwnM 1 w v cs.length cs ∧ ∀ k, v.ownBlock = some k → base ≤ k := by
  rcases h with ⟨rfl, h⟩ | ⟨g, cap, rfl, h1, h2, h3, h4, h5, h6⟩
  · subst h; exact ⟨OwnM.nil 1 w, fun k hk => by cases hk⟩
  · exact ⟨.inr ⟨g, cap, rfl, h2, h3, by rw [Nat.mul_one], h4, by rw [Nat.mul_one]; exact h5, h6⟩, fun k hk => by obtain rfl : g = k := Option.some.inj hk; exact h1⟩
structure Ls (B : Nat) (w : World) (vs : List Value) (ps : List (List (List UInt8))) (ρ : Nat → Nat) : Prop where
  len : vs.length = ps.length
  bs : B ≤ w.heap.size
  lo : ∀ b, b < B → ρ b = 0
  own : ∀ (k : Nat) (u : Value) (p : List (List UInt8)), vs[k]? = some u → ps[k]? = some p → OwnM 1 w u p.length (svs p) ∧ ∀ b, u.ownBlock = some b → ρ b = k + 3
def LL (B : Nat) (w : World) (v : Value) (ps : List (List (List UInt8))) : Prop := ∃ (vs : List Value) (ρ : Nat → Nat), Ls B w vs ps ρ ∧ OwnM 1 w v vs.length vs ∧ ∀ b, v.ownBlock = some b → B ≤ b ∧ ρ b = 0
section
variable {B r : Nat} {w w' : World} {vs : List Value} {ps : List (List (List UInt8))} {ρ : Nat → Nat} {v u' : Value}
theorem Ls.wr (h : Ls B w vs ps ρ) (hw : Wr ρ r w w') (hr : ∀ k, k < vs.length → r ≠ k + 3) (s : Nat) : Ls B w' vs ps (rx ρ w s) :=
  ⟨h.len, Nat.le_trans h.bs hw.size, fun b hb => by rw [rx_old (Nat.lt_of_lt_of_le hb h.bs)]; exact h.lo b hb, fun k u p hu hp => by
    obtain ⟨a, c⟩ := h.own k u p hu hp
    exact ⟨a.kept hw.size (fun b hb => hw.block b (a.lt b hb) (by rw [c b hb]; exact fun e => hr k (List.getElem?_eq_some_iff.1 hu).1 e.symm)), fun b hb => by rw [rx_old (a.lt b hb)]; exact c b hb⟩⟩
theorem Ls.below (h : Ls B w vs ps ρ) (hb : Below w.heap.size w w') (s : Nat) : Ls B w' vs ps (rx ρ w s) :=
  h.wr (r := 0) (Wr.below hb) (fun k _ => by omega) s
theorem LL.below (h : LL B w v ps) (hb : Below w.heap.size w w') : LL B w' v ps := by
  obtain ⟨vs, ρ, h1, h2, h3⟩ := h
  exact ⟨vs, rx ρ w 0, h1.below hb 0, h2.below hb, fun b hb' => ⟨(h3 b hb').1, by rw [rx_old (h2.lt b hb')]; exact (h3 b hb').2⟩⟩
theorem LL.nil (w : World) : LL w.heap.size w (.slice none 0 0) [] :=
  ⟨[], fun _ => 0, ⟨rfl, Nat.le_refl _, fun _ _ => rfl, fun k u p hu => by simp at hu⟩, OwnM.nil 1 w, fun b hb => (by cases hb)⟩
end
theorem LL.mono {B B' : Nat} {w : World} {v : Value} {ps : List (List (List UInt8))} (h : LL B w v ps) (hB : B' ≤ B) : LL B' w v ps := by
  obtain ⟨vs, ρ, h1, h2, h3⟩ := h
  exact ⟨vs, ρ, ⟨h1.len, Nat.le_trans hB h1.bs, fun b hb => h1.lo b (by omega), h1.own⟩, h2, fun b hb => ⟨Nat.le_trans hB (h3 b hb).1, (h3 b hb).2⟩⟩
theorem LL.push {B : Nat} {w0 w : World} {v u : Value} {ps : List (List (List UInt8))} {p : List (List UInt8)} (h : LL B w0 v ps) (hb : Below w0.heap.size w0 w) (ou : OwnM 1 w u p.length (svs p)) (gu : ∀ k, u.ownBlock = some k → w0.heap.size ≤ k) (hl : ps.length ≤ 1000000) {a : Option Addr} {n c : Nat} (hu : u = .slice a n c) :
    ∃ v' w', (Builtin.append_ #[28, 28] 28 #[v, .slice (some ⟨w.heap.size, 0, none⟩) 1 1]).run Tryz.prog (w.alloc (.cells #[.slice a n c] 23)) = .ok v' w' ∧ LL B w' v' (ps ++ [p]) ∧ Grow w w' v v' := by
  subst hu
  obtain ⟨vs, ρ, h1, h2, h3⟩ := h
  obtain ⟨v', w', hap, o', g'⟩ := Gb.append_lsT w v vs a n c (h2.below hb) (by rw [h1.len]; exact hl)
  have zs := hb.size
  refine ⟨v', w', hap, ?_, g'⟩
  let ρ2 : Nat → Nat := fun k => if k < w0.heap.size then ρ k else if (Value.slice a n c).ownBlock = some k then ps.length + 3 else 0
  have rold : ∀ k, k < w0.heap.size → ρ2 k = ρ k := fun k hk => if_pos hk
  have rv : ∀ k, v.ownBlock = some k → ρ2 k = 0 := fun k hk => by rw [rold k (h2.lt k hk)]; exact (h3 k hk).2
  have ru : ∀ k, (Value.slice a n c).ownBlock = some k → ρ2 k = ps.length + 3 := fun k hk => by
    have := gu k hk
    show (if k < w0.heap.size then ρ k else if (Value.slice a n c).ownBlock = some k then ps.length + 3 else 0) = _
    rw [if_neg (by omega), if_pos hk]
  have hw : Wr ρ2 0 w w' := Wr.grow g' rv
  have hs2 := hw.size
  refine ⟨vs ++ [.slice a n c], rx ρ2 w 0, ⟨by rw [List.length_append, List.length_append, h1.len]; rfl, by have := h1.bs; omega, fun b hb' => ?_, fun k x q hx hq => ?_⟩, by rw [List.length_append]; exact o', fun b hb' => ⟨?_, Wr.own g' rv (h2.below hb).lt b hb'⟩⟩
  · have := h1.bs
    rw [rx_old (by omega), rold b (by omega)]
    exact h1.lo b hb'
  · rcases Nat.lt_or_ge k vs.length with e | e
    · rw [List.getElem?_append_left e] at hx
      rw [List.getElem?_append_left (by rw [← h1.len]; exact e)] at hq
      obtain ⟨c1, c2⟩ := h1.own k x q hx hq
      have c3 := c1.below hb
      exact ⟨c3.kept hs2 (fun b hb' => hw.block b (c3.lt b hb') (by rw [rold b (c1.lt b hb'), c2 b hb']; omega)), fun b hb' => by rw [rx_old (c3.lt b hb'), rold b (c1.lt b hb')]; exact c2 b hb'⟩
    · have hk := (List.getElem?_eq_some_iff.1 hx).1
      rw [List.length_append, List.length_singleton] at hk
      obtain rfl : k = vs.length := by omega
      rw [List.getElem?_append_right (Nat.le_refl _), Nat.sub_self] at hx
      rw [List.getElem?_append_right (by rw [h1.len]; exact Nat.le_refl _), h1.len, Nat.sub_self] at hq
      obtain rfl := Option.some.inj hx
      obtain rfl := Option.some.inj hq
      exact ⟨ou.kept hs2 (fun b hb' => hw.block b (ou.lt b hb') (by rw [ru b hb']; omega)), fun b hb' => by rw [rx_old (ou.lt b hb'), ru b hb', h1.len]⟩
  · rcases Grow.alt' g' b hb' with e | e
    · exact (h3 b e).1
    · have := h1.bs; omega
end Chn
end Go.Proofs.YtenklmjeeejfdaaGreatDoor

/- Layer 13, the document: hashes; Expand, where it refuses -/
namespace Go.Proofs.YtenklmjeeejfdaaGreatDoor
open Go.RowKit Go.Shelf
namespace Chn
set_option maxRecDepth 100000 in
set_option maxHeartbeats 2000000 in
theorem rhashes13_is (l : List (List UInt8)) (q : Bool) (hq : hsB8 l = q) (a : Option Addr) (cap : Nat) (w : World) (hc : l.length ≤ 9223372036854775807) (hA : At w a l) :
    Calls Tryz.prog 47 #[.slice a l.length cap] w fun r w' => r = .returned (.bool q) ∧ w' = w := by
  have HQ := hid hq
  generalize hn : l.length = k at *
  have HA := hid hA
  clear hA hq
  go_enter Tryz.func47, Tryz.ntmps47
  go_wp2
  go_loopw [3] (fun i w' => ∃ j : Nat, j ≤ k ∧ i = .int .i64 (j : Int) ∧ Hid ((l.take j).all (·.length == 32) = true) ∧ w' = w) (fun i _ => k - (intOf i).toNat)
  case atStart => exact ⟨0, by omega, rfl, rfl, rfl⟩
  case round =>
    obtain ⟨j, hj, rfl, hall, rfl⟩ := hrel
    by_cases hjk : j < k
    · have b0 : (j : Int) < (k : Int) := by omega
      obtain ⟨y, rfl⟩ := HA.out.pos (by omega)
      obtain ⟨s, hs, hcell⟩ := HA.out.cell j (by omega)
      by_cases h32 : s.size = 32
      · have b1 : ((s.size : Int) != 32) = false := by simp; omega
        have e2 := hid (all_take l j (by omega) hall.out (by rw [← hs.out, data_length]; exact h32))
        clear HA hall hs
        go_wp2
        exact ⟨⟨j + 1, by omega, by go_num, e2, trivial⟩, by simp [intOf]; omega⟩
      · have b1 : ((s.size : Int) != 32) = true := by simp; omega
        have e2 := all_not l j (by omega) (by rw [← hs.out, data_length]; exact h32)
        have e3 := hid (show q = false by rw [← HQ.out]; exact e2)
        clear HA hall hs e2
        go_wp2
        go_ret
        exact ⟨by rw [e3.out]; rfl, rfl⟩
    · obtain rfl : j = k := by omega
      have b0 : ¬ (j : Int) < (j : Int) := by omega
      rw [← hn, List.take_length] at hall
      have e3 := hid (show q = true by rw [← HQ.out]; exact hall.out)
      clear HA hall
      go_wp2
      go_ret
      exact ⟨by rw [e3.out]; rfl, rfl⟩
set_option maxRecDepth 100000 in
set_option maxHeartbeats 4000000 in
theorem rExpand_no (cs : List Int) (m k : Nat) (hm : Hid (cs.length = m)) (ac ah : Option Addr) (cc chp : Nat) (w : World) (hA : AtI w ac cs) (lc : m ≤ 9223372036854775807) (hb : mayB cs = false) :
    Calls Tryz.prog 24 #[ch (.slice ac m cc) (.slice ah k chp)] w fun r w' => r = .returned (.tuple #[.slice none 0 0, .int .i64 130]) ∧ Below w.heap.size w w' := by
  have b0 := (Below.refl w.heap.size w).alloc (Nat.le_refl _) (.cells #[.slice ac m cc, .slice ah k chp] 25)
  have s0 := ChI.new w (.slice ac m cc) (.slice ah k chp)
  have i1 := rHeads_any cs m hm ac cc _ lc (hA.below b0 (Nat.le_refl _))
  rw [hb] at i1
  have x0 := s0.c0
  have x1 := s0.c1
  have B0 := hid b0
  clear b0 s0 hA
  go_enter Tryz.func24, Tryz.ntmps24
  go_wp2_with (go_at_call 20; refine i1.mono ?_; rintro r w1 ⟨rfl, b1⟩; have B1 := hid (B0.out.trans (b1.mono B0.out.size)); clear b1)
  go_ret2
  exact ⟨rfl, B1.out⟩
set_option maxRecDepth 100000 in
set_option maxHeartbeats 4000000 in
theorem rExpand_form (hs : List Nat) (HH : Hds hs) (H : List (List UInt8)) (m k : Nat) (hm : Hid (hs.length = m)) (hk : Hid (H.length = k)) (ac ah : Option Addr) (cc chp : Nat) (w : World) (hA : AtI w ac (ix hs)) (hAh : At w ah H) (lh : k ≤ 9223372036854775807) (he : ¬ (k = (told hs).length ∧ hsB8 H = true)) :
    Calls Tryz.prog 24 #[ch (.slice ac m cc) (.slice ah k chp)] w fun r w' => r = .returned (.tuple #[.slice none 0 0, .int .i64 131]) ∧ Below w.heap.size w w' := by
  have lm : m ≤ 64 := by rw [← hm.out]; exact HH.le
  have b0 := (Below.refl w.heap.size w).alloc (Nat.le_refl _) (.cells #[.slice ac m cc, .slice ah k chp] 25)
  have s0 := ChI.new w (.slice ac m cc) (.slice ah k chp)
  have hxl := hid (show (ix hs).length = m by rw [← hm.out]; simp [ix])
  have i1 := rHeads_any (ix hs) m hxl ac cc _ (by omega) (hA.below b0 (Nat.le_refl _))
  rw [hds_mayB HH] at i1
  have i2 := hid (fun w' (bb : Below w.heap.size w w') => rspans_any hs HH m hm ac cc w' (hA.below bb (Nat.le_refl _)))
  obtain ⟨q, hq⟩ : ∃ q, hsB8 H = q := ⟨_, rfl⟩
  have i3 := hid (fun w' (bb : Below w.heap.size w w') => rhashes13_is H q hq ah chp w' (by rw [hk.out]; exact lh) (hAh.below bb (Nat.le_refl _)))
  rw [hq] at he
  unfold Hid at i3
  rw [hk.out] at i3
  have i3 := hid i3
  obtain ⟨t, ht⟩ : ∃ t, (told hs).length = t := ⟨_, rfl⟩
  rw [ht] at he
  have HT := hid ht
  have x0 := s0.c0
  have x1 := s0.c1
  have S0 := hid s0
  have B0 := hid b0
  clear b0 s0 hA hAh hq ht
  go_enter Tryz.func24, Tryz.ntmps24
  go_wp2_with (first
    | (go_at_call 20; refine i1.mono ?_; rintro r w1 ⟨rfl, b1⟩; have B1 := hid (B0.out.trans (b1.mono B0.out.size)); have S1 := hid (S0.out.below b1); have i2' := i2.out _ B1.out; have y0 := S1.out.c0; have y1 := S1.out.c1; clear b1)
    | (go_at_call 30; fail))
  refine i2'.mono ?_
  rintro r w2 ⟨v2, rfl, R2⟩
  have S2 := S1.out.below R2.bel
  have B2 := hid (B1.out.trans (R2.bel.mono B1.out.size))
  obtain ⟨a2, c2, hv2, _, _⟩ := OwnM.shape R2.own
  rw [HT.out] at hv2
  subst hv2
  have z0 := S2.c0
  have z1 := S2.c1
  have i3' := i3.out _ B2.out
  clear i2 i2' R2 S2 S1 S0 x0 x1 y0 y1 B0 B1 i1
  cases q with
  | false =>
    go_wp2_with (go_at_call 47; refine i3'.mono ?_; rintro r w3 ⟨rfl, h3⟩; have h3 := h3.symm; subst h3)
    go_ret2
    exact ⟨rfl, B2.out⟩
  | true =>
    have hne : ((k : Int) != (t : Int)) = true := by
      have : k ≠ t := fun e => he ⟨e, rfl⟩
      simp; omega
    have hne2 : ((k : Int) == (t : Int)) = false := by
      have : k ≠ t := fun e => he ⟨e, rfl⟩
      simp; omega
    have hne3 : ¬ k = t := fun e => he ⟨e, rfl⟩
    go_wp2_with (go_at_call 47; refine i3'.mono ?_; rintro r w3 ⟨rfl, h3⟩; have h3 := h3.symm; subst h3)
    go_ret2
    exact ⟨rfl, B2.out⟩
theorem rExpand_bad (cs : List Int) (H : List (List UInt8)) (m k : Nat) (hm : Hid (cs.length = m)) (hk : Hid (H.length = k)) (ac ah : Option Addr) (cc chp : Nat) (w : World) (hA : AtI w ac cs) (hAh : At w ah H) (lc : m ≤ 9223372036854775807) (lh : k ≤ 9223372036854775807) (he : exE cs H ≠ 0) :
    Calls Tryz.prog 24 #[ch (.slice ac m cc) (.slice ah k chp)] w fun r w' => r = .returned (.tuple #[.slice none 0 0, .int .i64 (exE cs H)]) ∧ Below w.heap.size w w' := by
  cases hb : mayB cs with
  | false =>
    have e : exE cs H = 130 := by unfold exE; rw [hb]; rfl
    rw [e]
    exact rExpand_no cs m k hm ac ah cc chp w hA lc hb
  | true =>
    obtain ⟨hs, rfl, HH⟩ := mayB_hds hb
    have hn : ¬ (k = (told hs).length ∧ hsB8 H = true) := fun q => he (by unfold exE; rw [hb, if_pos rfl, ix_toN, hk.out, if_pos q])
    have e : exE (ix hs) H = 131 := by unfold exE; rw [hb, if_pos rfl, ix_toN, hk.out, if_neg hn]
    rw [e]
    exact rExpand_form hs HH H m k (show hs.length = m by rw [← hm.out]; simp [ix]) hk ac ah cc chp w hA hAh lh hn
end Chn
end Go.Proofs.YtenklmjeeejfdaaGreatDoor
