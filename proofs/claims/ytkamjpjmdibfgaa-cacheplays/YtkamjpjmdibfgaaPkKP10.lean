import Derived.Test.YtkamjpjmdibfgaaPkKP8
/- Layer 15, the program: Put -/
namespace Go.Proofs.Ytkamjpjmdibfgaa
open Go.RowKit Go.Maps
namespace Kc
theorem lt_of_cell {w : World} {b o : Nat} {v : Value} (h : w.cell? ⟨b, o, none⟩ = some v) : b < w.heap.size := by
  by_cases c : b < w.heap.size
  · exact c
  · simp [World.cell?, Array.getElem?_eq_none (Nat.le_of_not_lt c)] at h
set_option maxRecDepth 100000 in
set_option maxHeartbeats 4000000 in
theorem put_none_ok {w : World} {a : Nat} {g : Option Nat} {B c : Nat} {L : List En} {f m o : Nat} (h : Ch w a g B c L f m o) (hc : c ≤ 1000000000000) (k v : List UInt8) (hk : k.length ≤ 2305843009213693952) (hv : v.length ≤ 2305843009213693952) (hf : fnd k L = none) {n : Nat} (hn : k.length + v.length = n) (hB : n + pnd (wo k L) ≤ B) :
    Calls Try.prog 10 #[.pointer (some ⟨a, 0, none⟩), .string ⟨k.toArray⟩, .string ⟨v.toArray⟩] w fun r w' => r = .returned (.int .i64 0) ∧ ∃ b g' o', w.heap.size ≤ b ∧ Ch w' a g' B (c + 1) (⟨b, k, v, 0⟩ :: room B n (wo k L)) f m o' ∧ o' + (room B n (wo k L)).length = o + (wo k L).length ∧ Keep (Fg a g L) w w' ∧ (g' = g ∨ ∃ q, g' = some q ∧ w.heap.size ≤ q) := by
  have c0 := h.li.cs.1
  have c6 := h.li.cs.2.2.2.2.2.2.1
  have hb := h.bu
  have ht := h.tt
  have hpl := pnd_le L
  have al := h.li.lt a (fp_a _ _)
  have H := hid h

  have HF := hid hf
  have iN := counts_any ⟨k.toArray⟩ ⟨v.toArray⟩ ((0 : Nat) : Int) (by rw [sv_size]; omega) (by rw [sv_size]; omega)
  rw [sv_size, sv_size, hn] at iN
  have hwo := (fnd_none hf).2
  obtain ⟨pr, hpr⟩ : ∃ pr, pnd (wo k L) = pr := ⟨_, rfl⟩
  obtain ⟨pl0, hpl0⟩ : ∃ pl0, pnd L = pl0 := ⟨_, rfl⟩
  have epp : pl0 = pr := by rw [← hpl0, ← hpr, hwo]
  rw [hpl0] at c6
  have hB0 := hid hB
  rw [hpr] at hB
  obtain ⟨s, hs⟩ : ∃ s, n + pr = s := ⟨_, rfl⟩
  have e1 : IntKind.i64.wrap ((n : Int) + (pr : Int)) = (s : Int) := by rw [IntKind.wrap_i64]; omega
  have e2 : ¬ (B : Int) < (s : Int) := by omega
  have e3 : decide ((B : Int) < (s : Int)) = false := decide_eq_false e2
  have e4 : decide (B < s) = false := decide_eq_false (by omega)
  have HN := hid hn
  obtain ⟨q, hq⟩ : ∃ q, w.heap.size = q := ⟨_, rfl⟩
  have hq' := hid hq
  have hk' : k.length ≤ 9223372036854775807 := by omega
  have nL : Hid (n ≤ 2 * 2305843009213693952) := by show n ≤ _; omega
  clear h hf hB hs hpr hpl0 hn ht hpl
  generalize hK : (ByteArray.mk k.toArray) = K at *
  generalize hV : (ByteArray.mk v.toArray) = V at *
  subst epp
  have HK := hid hK
  have HV := hid hV
  clear hK hV
  go_enter Try.func10, Try.ntmps10
  go_upto_region 2 with (go_at_call 30; refine (orNone_some _ _).mono ?_; rintro r w9 ⟨rfl, hw9⟩; replace hw9 := hw9.symm; subst hw9)
  go_cut [7, 8] (fun v7 v8 w1 => v7 = .pointer (some ⟨q, 0, none⟩) ∧ v8 = .int .i64 (pl0 : Int) ∧ Hid (Below q w w1) ∧ Hid (w1.heap[q]? = some (.cells #[.string K, .string V, .int .i64 0] 68 (0, 0))))
  case first =>
    have d1 : (w.alloc (.cells #[.string K, .string V, .int .i64 0] 68)).cell? ⟨a, 6, none⟩ = some (.int .i64 (pl0 : Int)) := (((Below.refl w.heap.size w).alloc (Nat.le_refl _) _).cell (p := ⟨a, 6, none⟩) (by omega)).trans c6
    have d2 : (w.alloc (.cells #[.string ⟨#[]⟩, .string ⟨#[]⟩, .int .i64 0] 68)).cell? ⟨a, 6, none⟩ = some (.int .i64 (pl0 : Int)) := (((Below.refl w.heap.size w).alloc (Nat.le_refl _) _).cell (p := ⟨a, 6, none⟩) (by omega)).trans c6
    go_region
    all_goals go_wp2_with fail
    all_goals go_meet
    all_goals exact ⟨rfl, rfl, by show Below q w _; rw [← hq]; exact ((Below.refl w.heap.size w).alloc (Nat.le_refl _) _).drew, heap_alloc_at w _ q hq⟩
  case rest =>
    obtain ⟨rfl, rfl, B1, R1⟩ := hcut
    have C1 : Ch wc a g B c L f m o := H.out.below (by rw [hq]; exact B1.out)
    have i1 := find_any C1.li.cs.2.2.2.1 C1.tb k hk'
    rw [HF.out, HK.out] at i1
    simp only [Option.map_none, Option.isSome_none, pv] at i1
    have z1 := R1.out
    have x2 : wc.cell? ⟨q, 2, none⟩ = some (.int .i64 0) := by rw [cell_of_row _ _ _ _ _ _ R1.out]; rfl
    have f2 : wc.frozen? ⟨q, 2, none⟩ = false := frozen_of_row _ _ _ _ _ R1.out
    clear z1
    have B3 := B1
    have R3 := R1
    go_upto_region 7 with (first
      | (go_at_call 31; refine i1.mono ?_; rintro r w9 ⟨rfl, hw9⟩; replace hw9 := hw9.symm; subst hw9))
    have y0 : wc.cell? ⟨a, 0, none⟩ = some (.int .i64 (B : Int)) := (B3.out.cell (p := ⟨a, 0, none⟩) (by show a < q; omega)).trans c0
    have q0 : wc.cell? ⟨q, 0, none⟩ = some (.string K) := by rw [cell_of_row _ _ _ _ _ _ R3.out]; rfl
    have q1 : wc.cell? ⟨q, 1, none⟩ = some (.string V) := by rw [cell_of_row _ _ _ _ _ _ R3.out]; rfl
    have q2 : wc.cell? ⟨q, 2, none⟩ = some (.int .i64 ((0 : Nat) : Int)) := by rw [cell_of_row _ _ _ _ _ _ R3.out]; rfl
    go_cut [51] (fun v51 w4 => v51 = .bool false ∧ Hid (Below q w w4) ∧ Hid (w4.heap[q]? = some (.cells #[.string K, .string V, .int .i64 ((0 : Nat) : Int)] 68 (0, 0))))
    case first =>
      go_region_with (go_at_call 33; refine (iN _).mono ?_; rintro r w4 ⟨rfl, b4⟩; have y4 := (b4.cell (p := ⟨a, 0, none⟩) (lt_of_cell y0)).trans y0)
      all_goals go_wp2_with fail
      all_goals go_meet
      all_goals exact ⟨rfl, B3.out.drew.trans (b4.mono (Nat.le_of_lt (lt_of_heap (w := wc) R3.out))), (b4.block q (lt_of_heap (w := wc) R3.out)).trans R3.out⟩
    case rest =>
      obtain ⟨rfl, B4, R4⟩ := hcut
      have C4 : Ch wc a g B c L f m o := H.out.below (by rw [hq]; exact B4.out)
      have hnB : n ≤ 16777216 := by have := hB0.out; omega
      have fits : Hid (tot (room B n (wo k L)) + (k.length + v.length) ≤ B) := by show _ ≤ _; rw [HN.out]; exact room_fits hB0.out
      have hnone : Hid (fnd k (room B n (wo k L)) = none) := fnd_of_not fun x hx => (H.out.uq.wo k).2 x ((room_sub _ _ _).mem hx)
      have FG : Hid (∀ x, Fg a g L x → x < q) := by
        rintro x (hx | hx)
        · have := H.out.li.lt x hx; omega
        · rcases H.out.tb with ⟨hg, _⟩ | ⟨b0, D0, h0, h1, _⟩
          · rw [hg] at hx; cases hx
          · rw [h0] at hx
            have := h1.lt
            have := Option.some.inj hx
            omega
      clear B1 R1 B3 R3 y0 q0 q1 q2
      go_upto_region 11 with fail
      obtain ⟨w5, hw5⟩ : ∃ w5, wc = w5 := ⟨_, rfl⟩
      have C5 : Ch w5 a g B c (wo k L) f m o := by rw [hwo, ← hw5]; exact C4
      have R5 : Hid (w5.heap[q]? = some (.cells #[.string K, .string V, .int .i64 ((0 : Nat) : Int)] 68 (0, 0))) := by rw [← hw5]; exact R4
      have K5' : Hid (Keep (Fg a g L) w w5) := keep_below (by rw [hq, ← hw5]; exact B4.out)
      subst hw5
      have q0 : wc.cell? ⟨q, 0, none⟩ = some (.string K) := by rw [cell_of_row _ _ _ _ _ _ R5.out]; rfl
      have q1 : wc.cell? ⟨q, 1, none⟩ = some (.string V) := by rw [cell_of_row _ _ _ _ _ _ R5.out]; rfl
      have q2 : wc.cell? ⟨q, 2, none⟩ = some (.int .i64 ((0 : Nat) : Int)) := by rw [cell_of_row _ _ _ _ _ _ R5.out]; rfl
      have HC5 := hid C5
      have HC4 := hid C4
      clear C5 C4 B4 R4
      go_wp2_with (first
        | (go_at_call 33; refine (iN _).mono ?_; rintro r w6 ⟨rfl, b6⟩; have C6 := HC5.out.below b6; have R6 := hid ((b6.block q (lt_of_heap R5.out)).trans R5.out); have K6 := hid (keep_trans K5'.out (keep_below b6)); have i6 := makeRoom_any C6 hc n hnB)
        | (go_at_call 35; refine i6.mono ?_; rintro r w7 ⟨rfl, o7, C7, E7, K7⟩; have R7 := (K7.block q (lt_of_heap R6.out) (fun hf => Nat.lt_irrefl _ (FG.out q (fg_sub (wo_sub _ _) hf)))).trans R6.out; have K7' := hid (keep_trans K6.out (keep_mono K7 fun x hx => fg_sub (wo_sub _ _) hx)); have i7 := come_any C7 hc k v 0 hnone.out (by omega) fits.out; rw [HK.out, HV.out] at i7; have y0 : w7.cell? ⟨q, 0, none⟩ = some (.string K) := (by rw [cell_of_row _ _ _ _ _ _ R7]; rfl); have y1 : w7.cell? ⟨q, 1, none⟩ = some (.string V) := (by rw [cell_of_row _ _ _ _ _ _ R7]; rfl); have y2 : w7.cell? ⟨q, 2, none⟩ = some (.int .i64 ((0 : Nat) : Int)) := (by rw [cell_of_row _ _ _ _ _ _ R7]; rfl))
        | (go_at_call 36; refine i7.mono ?_; rintro r w8 ⟨rfl, b, g', hb8, C8, K8, G8⟩))
      go_ret
      refine ⟨rfl, b, g', o7, Nat.le_trans K7'.out.size hb8, C8, E7, keep_trans K7'.out (keep_mono K8 fun x hx => fg_sub ((room_sub _ _ _).trans (wo_sub _ _)) hx), ?_⟩
      rcases G8 with h | ⟨x, h1, h2⟩
      · exact .inl h
      · exact .inr ⟨x, h1, Nat.le_trans K7'.out.size h2⟩
set_option maxRecDepth 100000 in
set_option maxHeartbeats 4000000 in
theorem put_none_long {w : World} {a : Nat} {g : Option Nat} {B c : Nat} {L : List En} {f m o : Nat} (h : Ch w a g B c L f m o) (k v : List UInt8) (hk : k.length ≤ 2305843009213693952) (hv : v.length ≤ 2305843009213693952) (hf : fnd k L = none) {n : Nat} (hn : k.length + v.length = n) (hB : B < n + pnd (wo k L)) :
    Calls Try.prog 10 #[.pointer (some ⟨a, 0, none⟩), .string ⟨k.toArray⟩, .string ⟨v.toArray⟩] w fun r w' => r = .returned (.int .i64 151) ∧ Below w.heap.size w w' := by
  have c0 := h.li.cs.1
  have c6 := h.li.cs.2.2.2.2.2.2.1
  have hb := h.bu
  have ht := h.tt
  have hpl := pnd_le L
  have al := h.li.lt a (fp_a _ _)
  have H := hid h

  have HF := hid hf
  have iN := counts_any ⟨k.toArray⟩ ⟨v.toArray⟩ ((0 : Nat) : Int) (by rw [sv_size]; omega) (by rw [sv_size]; omega)
  rw [sv_size, sv_size, hn] at iN
  have hwo := (fnd_none hf).2
  obtain ⟨pr, hpr⟩ : ∃ pr, pnd (wo k L) = pr := ⟨_, rfl⟩
  obtain ⟨pl0, hpl0⟩ : ∃ pl0, pnd L = pl0 := ⟨_, rfl⟩
  have epp : pl0 = pr := by rw [← hpl0, ← hpr, hwo]
  rw [hpl0] at c6
  have hB0 := hid hB
  rw [hpr] at hB
  obtain ⟨s, hs⟩ : ∃ s, n + pr = s := ⟨_, rfl⟩
  have e1 : IntKind.i64.wrap ((n : Int) + (pr : Int)) = (s : Int) := by rw [IntKind.wrap_i64]; omega
  have e2 : (B : Int) < (s : Int) := by omega
  have e3 : decide ((B : Int) < (s : Int)) = true := decide_eq_true e2
  have e4 : decide (B < s) = true := decide_eq_true (by omega)
  have HN := hid hn
  obtain ⟨q, hq⟩ : ∃ q, w.heap.size = q := ⟨_, rfl⟩
  have hq' := hid hq
  have hk' : k.length ≤ 9223372036854775807 := by omega
  have nL : Hid (n ≤ 2 * 2305843009213693952) := by show n ≤ _; omega
  clear h hf hB hs hpr hpl0 hn ht hpl
  generalize hK : (ByteArray.mk k.toArray) = K at *
  generalize hV : (ByteArray.mk v.toArray) = V at *
  subst epp
  have HK := hid hK
  have HV := hid hV
  clear hK hV
  go_enter Try.func10, Try.ntmps10
  go_upto_region 2 with (go_at_call 30; refine (orNone_some _ _).mono ?_; rintro r w9 ⟨rfl, hw9⟩; replace hw9 := hw9.symm; subst hw9)
  go_cut [7, 8] (fun v7 v8 w1 => v7 = .pointer (some ⟨q, 0, none⟩) ∧ v8 = .int .i64 (pl0 : Int) ∧ Hid (Below q w w1) ∧ Hid (w1.heap[q]? = some (.cells #[.string K, .string V, .int .i64 0] 68 (0, 0))))
  case first =>
    have d1 : (w.alloc (.cells #[.string K, .string V, .int .i64 0] 68)).cell? ⟨a, 6, none⟩ = some (.int .i64 (pl0 : Int)) := (((Below.refl w.heap.size w).alloc (Nat.le_refl _) _).cell (p := ⟨a, 6, none⟩) (by omega)).trans c6
    have d2 : (w.alloc (.cells #[.string ⟨#[]⟩, .string ⟨#[]⟩, .int .i64 0] 68)).cell? ⟨a, 6, none⟩ = some (.int .i64 (pl0 : Int)) := (((Below.refl w.heap.size w).alloc (Nat.le_refl _) _).cell (p := ⟨a, 6, none⟩) (by omega)).trans c6
    go_region
    all_goals go_wp2_with fail
    all_goals go_meet
    all_goals exact ⟨rfl, rfl, by show Below q w _; rw [← hq]; exact ((Below.refl w.heap.size w).alloc (Nat.le_refl _) _).drew, heap_alloc_at w _ q hq⟩
  case rest =>
    obtain ⟨rfl, rfl, B1, R1⟩ := hcut
    have C1 : Ch wc a g B c L f m o := H.out.below (by rw [hq]; exact B1.out)
    have i1 := find_any C1.li.cs.2.2.2.1 C1.tb k hk'
    rw [HF.out, HK.out] at i1
    simp only [Option.map_none, Option.isSome_none, pv] at i1
    have z1 := R1.out
    have x2 : wc.cell? ⟨q, 2, none⟩ = some (.int .i64 0) := by rw [cell_of_row _ _ _ _ _ _ R1.out]; rfl
    have f2 : wc.frozen? ⟨q, 2, none⟩ = false := frozen_of_row _ _ _ _ _ R1.out
    clear z1
    have B3 := B1
    have R3 := R1
    go_upto_region 7 with (first
      | (go_at_call 31; refine i1.mono ?_; rintro r w9 ⟨rfl, hw9⟩; replace hw9 := hw9.symm; subst hw9))
    have y0 : wc.cell? ⟨a, 0, none⟩ = some (.int .i64 (B : Int)) := (B3.out.cell (p := ⟨a, 0, none⟩) (by show a < q; omega)).trans c0
    have q0 : wc.cell? ⟨q, 0, none⟩ = some (.string K) := by rw [cell_of_row _ _ _ _ _ _ R3.out]; rfl
    have q1 : wc.cell? ⟨q, 1, none⟩ = some (.string V) := by rw [cell_of_row _ _ _ _ _ _ R3.out]; rfl
    have q2 : wc.cell? ⟨q, 2, none⟩ = some (.int .i64 ((0 : Nat) : Int)) := by rw [cell_of_row _ _ _ _ _ _ R3.out]; rfl
    go_cut [51] (fun v51 w4 => v51 = .bool true ∧ Hid (Below q w w4) ∧ Hid (w4.heap[q]? = some (.cells #[.string K, .string V, .int .i64 ((0 : Nat) : Int)] 68 (0, 0))))
    case first =>
      go_region_with (go_at_call 33; refine (iN _).mono ?_; rintro r w4 ⟨rfl, b4⟩; have y4 := (b4.cell (p := ⟨a, 0, none⟩) (lt_of_cell y0)).trans y0)
      all_goals go_wp2_with fail
      all_goals go_meet
      all_goals exact ⟨rfl, B3.out.drew.trans (b4.mono (Nat.le_of_lt (lt_of_heap (w := wc) R3.out))), (b4.block q (lt_of_heap (w := wc) R3.out)).trans R3.out⟩
    case rest =>
      obtain ⟨rfl, B4, R4⟩ := hcut
      go_wp2
      go_ret
      exact ⟨rfl, by rw [hq]; exact B4.out⟩
set_option maxRecDepth 100000 in
set_option maxHeartbeats 4000000 in
theorem put_some_ok {w : World} {a : Nat} {g : Option Nat} {B c : Nat} {L : List En} {f m o : Nat} (h : Ch w a g B c L f m o) (hc : c ≤ 1000000000000) (k v : List UInt8) (hk : k.length ≤ 2305843009213693952) (hv : v.length ≤ 2305843009213693952) {e : En} (hf : fnd k L = some e) {n : Nat} (hn : k.length + v.length = n) (hB : n + pnd (wo k L) ≤ B) :
    Calls Try.prog 10 #[.pointer (some ⟨a, 0, none⟩), .string ⟨k.toArray⟩, .string ⟨v.toArray⟩] w fun r w' => r = .returned (.int .i64 0) ∧ ∃ b g' o', w.heap.size ≤ b ∧ Ch w' a g' B (c + 1) (⟨b, k, v, e.p⟩ :: room B n (wo k L)) f m o' ∧ o' + (room B n (wo k L)).length = o + (wo k L).length ∧ Keep (Fg a g L) w w' ∧ (g' = g ∨ ∃ q, g' = some q ∧ w.heap.size ≤ q) := by
  have c0 := h.li.cs.1
  have c6 := h.li.cs.2.2.2.2.2.2.1
  have hb := h.bu
  have ht := h.tt
  have hpl := pnd_le L
  have al := h.li.lt a (fp_a _ _)
  have H := hid h

  have HF := hid hf
  have iN := counts_any ⟨k.toArray⟩ ⟨v.toArray⟩ ((e.p : Nat) : Int) (by rw [sv_size]; omega) (by rw [sv_size]; omega)
  rw [sv_size, sv_size, hn] at iN
  obtain ⟨X, Y, hL, hek, hwo, _, _⟩ := fnd_split hf
  have ePL : pnd (wo k L) + e.q = pnd L := by rw [hwo, hL]; simp; omega
  have hen : e.n ≤ 16777216 := by rw [hL] at ht; simp at ht; omega
  have iQ := pinned_any ⟨e.k.toArray⟩ ⟨e.v.toArray⟩ e.p (by rw [sv_size]; unfold En.n at hen; omega) (by rw [sv_size]; unfold En.n at hen; omega)
  rw [sv_size, sv_size, show (if e.p = 0 then 0 else e.k.length + e.v.length) = e.q from rfl] at iQ
  obtain ⟨X1, X2, P1⟩ : ∃ nw ol, pl w e nw ol := by
    have := h.li.seg
    rw [hL] at this
    exact ⟨_, _, (seg_append.1 this).2.1⟩
  have elt := lt_of_heap P1
  have HEK := hid hek
  have HL := hid hL
  have HWO := hid hwo
  have ePR := hid ePL
  obtain ⟨pr, hpr⟩ : ∃ pr, pnd (wo k L) = pr := ⟨_, rfl⟩
  obtain ⟨pl0, hpl0⟩ : ∃ pl0, pnd L = pl0 := ⟨_, rfl⟩
  have e6 : IntKind.i64.wrap ((pl0 : Int) - (e.q : Int)) = (pr : Int) := by rw [IntKind.wrap_i64]; omega
  rw [hpl0] at c6
  have hB0 := hid hB
  rw [hpr] at hB
  obtain ⟨s, hs⟩ : ∃ s, n + pr = s := ⟨_, rfl⟩
  have e1 : IntKind.i64.wrap ((n : Int) + (pr : Int)) = (s : Int) := by rw [IntKind.wrap_i64]; omega
  have e2 : ¬ (B : Int) < (s : Int) := by omega
  have e3 : decide ((B : Int) < (s : Int)) = false := decide_eq_false e2
  have e4 : decide (B < s) = false := decide_eq_false (by omega)
  have HN := hid hn
  obtain ⟨q, hq⟩ : ∃ q, w.heap.size = q := ⟨_, rfl⟩
  have hq' := hid hq
  have hk' : k.length ≤ 9223372036854775807 := by omega
  have nL : Hid (n ≤ 2 * 2305843009213693952) := by show n ≤ _; omega
  clear h hf hB hs hpr hpl0 hn ht hpl
  generalize hK : (ByteArray.mk k.toArray) = K at *
  generalize hV : (ByteArray.mk v.toArray) = V at *
  
  have HK := hid hK
  have HV := hid hV
  clear hK hV hek hL hwo ePL
  go_enter Try.func10, Try.ntmps10
  go_upto_region 2 with (go_at_call 30; refine (orNone_some _ _).mono ?_; rintro r w9 ⟨rfl, hw9⟩; replace hw9 := hw9.symm; subst hw9)
  go_cut [7, 8] (fun v7 v8 w1 => v7 = .pointer (some ⟨q, 0, none⟩) ∧ v8 = .int .i64 (pl0 : Int) ∧ Hid (Below q w w1) ∧ Hid (w1.heap[q]? = some (.cells #[.string K, .string V, .int .i64 0] 68 (0, 0))))
  case first =>
    have d1 : (w.alloc (.cells #[.string K, .string V, .int .i64 0] 68)).cell? ⟨a, 6, none⟩ = some (.int .i64 (pl0 : Int)) := (((Below.refl w.heap.size w).alloc (Nat.le_refl _) _).cell (p := ⟨a, 6, none⟩) (by omega)).trans c6
    have d2 : (w.alloc (.cells #[.string ⟨#[]⟩, .string ⟨#[]⟩, .int .i64 0] 68)).cell? ⟨a, 6, none⟩ = some (.int .i64 (pl0 : Int)) := (((Below.refl w.heap.size w).alloc (Nat.le_refl _) _).cell (p := ⟨a, 6, none⟩) (by omega)).trans c6
    go_region
    all_goals go_wp2_with fail
    all_goals go_meet
    all_goals exact ⟨rfl, rfl, by show Below q w _; rw [← hq]; exact ((Below.refl w.heap.size w).alloc (Nat.le_refl _) _).drew, heap_alloc_at w _ q hq⟩
  case rest =>
    obtain ⟨rfl, rfl, B1, R1⟩ := hcut
    have C1 : Ch wc a g B c L f m o := H.out.below (by rw [hq]; exact B1.out)
    have i1 := find_any C1.li.cs.2.2.2.1 C1.tb k hk'
    rw [HF.out, HK.out] at i1
    simp only [Option.map_some, Option.isSome_some, pv] at i1
    have z1 := R1.out
    have x2 : wc.cell? ⟨q, 2, none⟩ = some (.int .i64 0) := by rw [cell_of_row _ _ _ _ _ _ R1.out]; rfl
    have f2 : wc.frozen? ⟨q, 2, none⟩ = false := frozen_of_row _ _ _ _ _ R1.out
    have ne : e.b ≠ q := by omega
    have P2 : pl wc e X1 X2 := (B1.out.block e.b (by omega)).trans P1
    have P3 := pl_set P2 ne 2 (.int .i64 (e.p : Int))
    obtain ⟨p0, p1, p2, _, _⟩ := pl_c P3
    have p2' := (pl_c P2).2.2.1
    have B2 : Hid (Below q w (wc.setCell ⟨q, 2, none⟩ (.int .i64 (e.p : Int)))) := B1.out.setCell (p := ⟨q, 2, none⟩) (Nat.le_refl q) _
    have R2 : Hid ((wc.setCell ⟨q, 2, none⟩ (.int .i64 (e.p : Int))).heap[q]? = some (.cells #[.string K, .string V, .int .i64 (e.p : Int)] 68 (0, 0))) := by
      show _ = _
      rw [heap_setCell_same _ _ _ _ _ _ R1.out]; rfl
    clear z1
    go_upto_region 7 with (first
      | (go_at_call 31; refine i1.mono ?_; rintro r w9 ⟨rfl, hw9⟩; replace hw9 := hw9.symm; subst hw9)
      | (go_at_call 32; refine (iQ _).mono ?_; rintro r w3 ⟨rfl, b3⟩; have B3 := hid (B2.out.trans (b3.mono (Nat.le_of_lt (lt_of_heap R2.out)))); have R3 := hid ((b3.block q (lt_of_heap R2.out)).trans R2.out)))
    have y0 : w3.cell? ⟨a, 0, none⟩ = some (.int .i64 (B : Int)) := (B3.out.cell (p := ⟨a, 0, none⟩) (by show a < q; omega)).trans c0
    have q0 : w3.cell? ⟨q, 0, none⟩ = some (.string K) := by rw [cell_of_row _ _ _ _ _ _ R3.out]; rfl
    have q1 : w3.cell? ⟨q, 1, none⟩ = some (.string V) := by rw [cell_of_row _ _ _ _ _ _ R3.out]; rfl
    have q2 : w3.cell? ⟨q, 2, none⟩ = some (.int .i64 ((e.p : Nat) : Int)) := by rw [cell_of_row _ _ _ _ _ _ R3.out]; rfl
    go_cut [51] (fun v51 w4 => v51 = .bool false ∧ Hid (Below q w w4) ∧ Hid (w4.heap[q]? = some (.cells #[.string K, .string V, .int .i64 ((e.p : Nat) : Int)] 68 (0, 0))))
    case first =>
      go_region_with (go_at_call 33; refine (iN _).mono ?_; rintro r w4 ⟨rfl, b4⟩; have y4 := (b4.cell (p := ⟨a, 0, none⟩) (lt_of_cell y0)).trans y0)
      all_goals go_wp2_with fail
      all_goals go_meet
      all_goals exact ⟨rfl, B3.out.drew.trans (b4.mono (Nat.le_of_lt (lt_of_heap (w := w3) R3.out))), (b4.block q (lt_of_heap (w := w3) R3.out)).trans R3.out⟩
    case rest =>
      obtain ⟨rfl, B4, R4⟩ := hcut
      have C4 : Ch wc a g B c L f m o := H.out.below (by rw [hq]; exact B4.out)
      have hnB : n ≤ 16777216 := by have := hB0.out; omega
      have fits : Hid (tot (room B n (wo k L)) + (k.length + v.length) ≤ B) := by show _ ≤ _; rw [HN.out]; exact room_fits hB0.out
      have hnone : Hid (fnd k (room B n (wo k L)) = none) := fnd_of_not fun x hx => (H.out.uq.wo k).2 x ((room_sub _ _ _).mem hx)
      have FG : Hid (∀ x, Fg a g L x → x < q) := by
        rintro x (hx | hx)
        · have := H.out.li.lt x hx; omega
        · rcases H.out.tb with ⟨hg, _⟩ | ⟨b0, D0, h0, h1, _⟩
          · rw [hg] at hx; cases hx
          · rw [h0] at hx
            have := h1.lt
            have := Option.some.inj hx
            omega
      clear B1 R1 B3 R3 y0 q0 q1 q2
      have i5 := leave_any (X := X) (Y := Y) (e := e) (w := wc) (by rw [← HL.out]; exact C4) hc
      rw [← HL.out, ← HWO.out] at i5
      go_upto_region 11 with (go_at_call 34; refine i5.mono ?_; rintro r w5 ⟨rfl, C5, K5⟩)
      have R5 := hid ((K5.block q (lt_of_heap R4.out) (fun hf => Nat.lt_irrefl _ (FG.out q hf))).trans R4.out)
      have K5' : Hid (Keep (Fg a g L) w w5) := keep_trans (keep_below (by rw [hq]; exact B4.out)) K5
      have q0 : w5.cell? ⟨q, 0, none⟩ = some (.string K) := by rw [cell_of_row _ _ _ _ _ _ R5.out]; rfl
      have q1 : w5.cell? ⟨q, 1, none⟩ = some (.string V) := by rw [cell_of_row _ _ _ _ _ _ R5.out]; rfl
      have q2 : w5.cell? ⟨q, 2, none⟩ = some (.int .i64 ((e.p : Nat) : Int)) := by rw [cell_of_row _ _ _ _ _ _ R5.out]; rfl
      have HC5 := hid C5
      have HC4 := hid C4
      clear C5 C4 B4 R4
      go_wp2_with (first
        | (go_at_call 33; refine (iN _).mono ?_; rintro r w6 ⟨rfl, b6⟩; have C6 := HC5.out.below b6; have R6 := hid ((b6.block q (lt_of_heap R5.out)).trans R5.out); have K6 := hid (keep_trans K5'.out (keep_below b6)); have i6 := makeRoom_any C6 hc n hnB)
        | (go_at_call 35; refine i6.mono ?_; rintro r w7 ⟨rfl, o7, C7, E7, K7⟩; have R7 := (K7.block q (lt_of_heap R6.out) (fun hf => Nat.lt_irrefl _ (FG.out q (fg_sub (wo_sub _ _) hf)))).trans R6.out; have K7' := hid (keep_trans K6.out (keep_mono K7 fun x hx => fg_sub (wo_sub _ _) hx)); have i7 := come_any C7 hc k v e.p hnone.out (by exact H.out.pm e (fnd_mem HF.out).1) fits.out; rw [HK.out, HV.out] at i7; have y0 : w7.cell? ⟨q, 0, none⟩ = some (.string K) := (by rw [cell_of_row _ _ _ _ _ _ R7]; rfl); have y1 : w7.cell? ⟨q, 1, none⟩ = some (.string V) := (by rw [cell_of_row _ _ _ _ _ _ R7]; rfl); have y2 : w7.cell? ⟨q, 2, none⟩ = some (.int .i64 ((e.p : Nat) : Int)) := (by rw [cell_of_row _ _ _ _ _ _ R7]; rfl))
        | (go_at_call 36; refine i7.mono ?_; rintro r w8 ⟨rfl, b, g', hb8, C8, K8, G8⟩))
      go_ret
      refine ⟨rfl, b, g', o7, Nat.le_trans K7'.out.size hb8, C8, E7, keep_trans K7'.out (keep_mono K8 fun x hx => fg_sub ((room_sub _ _ _).trans (wo_sub _ _)) hx), ?_⟩
      rcases G8 with h | ⟨x, h1, h2⟩
      · exact .inl h
      · exact .inr ⟨x, h1, Nat.le_trans K7'.out.size h2⟩
set_option maxRecDepth 100000 in
set_option maxHeartbeats 4000000 in
theorem put_some_long {w : World} {a : Nat} {g : Option Nat} {B c : Nat} {L : List En} {f m o : Nat} (h : Ch w a g B c L f m o) (k v : List UInt8) (hk : k.length ≤ 2305843009213693952) (hv : v.length ≤ 2305843009213693952) {e : En} (hf : fnd k L = some e) {n : Nat} (hn : k.length + v.length = n) (hB : B < n + pnd (wo k L)) :
    Calls Try.prog 10 #[.pointer (some ⟨a, 0, none⟩), .string ⟨k.toArray⟩, .string ⟨v.toArray⟩] w fun r w' => r = .returned (.int .i64 151) ∧ Below w.heap.size w w' := by
  have c0 := h.li.cs.1
  have c6 := h.li.cs.2.2.2.2.2.2.1
  have hb := h.bu
  have ht := h.tt
  have hpl := pnd_le L
  have al := h.li.lt a (fp_a _ _)
  have H := hid h

  have HF := hid hf
  have iN := counts_any ⟨k.toArray⟩ ⟨v.toArray⟩ ((e.p : Nat) : Int) (by rw [sv_size]; omega) (by rw [sv_size]; omega)
  rw [sv_size, sv_size, hn] at iN
  obtain ⟨X, Y, hL, hek, hwo, _, _⟩ := fnd_split hf
  have ePL : pnd (wo k L) + e.q = pnd L := by rw [hwo, hL]; simp; omega
  have hen : e.n ≤ 16777216 := by rw [hL] at ht; simp at ht; omega
  have iQ := pinned_any ⟨e.k.toArray⟩ ⟨e.v.toArray⟩ e.p (by rw [sv_size]; unfold En.n at hen; omega) (by rw [sv_size]; unfold En.n at hen; omega)
  rw [sv_size, sv_size, show (if e.p = 0 then 0 else e.k.length + e.v.length) = e.q from rfl] at iQ
  obtain ⟨X1, X2, P1⟩ : ∃ nw ol, pl w e nw ol := by
    have := h.li.seg
    rw [hL] at this
    exact ⟨_, _, (seg_append.1 this).2.1⟩
  have elt := lt_of_heap P1
  have HEK := hid hek
  have HL := hid hL
  have HWO := hid hwo
  have ePR := hid ePL
  obtain ⟨pr, hpr⟩ : ∃ pr, pnd (wo k L) = pr := ⟨_, rfl⟩
  obtain ⟨pl0, hpl0⟩ : ∃ pl0, pnd L = pl0 := ⟨_, rfl⟩
  have e6 : IntKind.i64.wrap ((pl0 : Int) - (e.q : Int)) = (pr : Int) := by rw [IntKind.wrap_i64]; omega
  rw [hpl0] at c6
  have hB0 := hid hB
  rw [hpr] at hB
  obtain ⟨s, hs⟩ : ∃ s, n + pr = s := ⟨_, rfl⟩
  have e1 : IntKind.i64.wrap ((n : Int) + (pr : Int)) = (s : Int) := by rw [IntKind.wrap_i64]; omega
  have e2 : (B : Int) < (s : Int) := by omega
  have e3 : decide ((B : Int) < (s : Int)) = true := decide_eq_true e2
  have e4 : decide (B < s) = true := decide_eq_true (by omega)
  have HN := hid hn
  obtain ⟨q, hq⟩ : ∃ q, w.heap.size = q := ⟨_, rfl⟩
  have hq' := hid hq
  have hk' : k.length ≤ 9223372036854775807 := by omega
  have nL : Hid (n ≤ 2 * 2305843009213693952) := by show n ≤ _; omega
  clear h hf hB hs hpr hpl0 hn ht hpl
  generalize hK : (ByteArray.mk k.toArray) = K at *
  generalize hV : (ByteArray.mk v.toArray) = V at *
  
  have HK := hid hK
  have HV := hid hV
  clear hK hV hek hL hwo ePL
  go_enter Try.func10, Try.ntmps10
  go_upto_region 2 with (go_at_call 30; refine (orNone_some _ _).mono ?_; rintro r w9 ⟨rfl, hw9⟩; replace hw9 := hw9.symm; subst hw9)
  go_cut [7, 8] (fun v7 v8 w1 => v7 = .pointer (some ⟨q, 0, none⟩) ∧ v8 = .int .i64 (pl0 : Int) ∧ Hid (Below q w w1) ∧ Hid (w1.heap[q]? = some (.cells #[.string K, .string V, .int .i64 0] 68 (0, 0))))
  case first =>
    have d1 : (w.alloc (.cells #[.string K, .string V, .int .i64 0] 68)).cell? ⟨a, 6, none⟩ = some (.int .i64 (pl0 : Int)) := (((Below.refl w.heap.size w).alloc (Nat.le_refl _) _).cell (p := ⟨a, 6, none⟩) (by omega)).trans c6
    have d2 : (w.alloc (.cells #[.string ⟨#[]⟩, .string ⟨#[]⟩, .int .i64 0] 68)).cell? ⟨a, 6, none⟩ = some (.int .i64 (pl0 : Int)) := (((Below.refl w.heap.size w).alloc (Nat.le_refl _) _).cell (p := ⟨a, 6, none⟩) (by omega)).trans c6
    go_region
    all_goals go_wp2_with fail
    all_goals go_meet
    all_goals exact ⟨rfl, rfl, by show Below q w _; rw [← hq]; exact ((Below.refl w.heap.size w).alloc (Nat.le_refl _) _).drew, heap_alloc_at w _ q hq⟩
  case rest =>
    obtain ⟨rfl, rfl, B1, R1⟩ := hcut
    have C1 : Ch wc a g B c L f m o := H.out.below (by rw [hq]; exact B1.out)
    have i1 := find_any C1.li.cs.2.2.2.1 C1.tb k hk'
    rw [HF.out, HK.out] at i1
    simp only [Option.map_some, Option.isSome_some, pv] at i1
    have z1 := R1.out
    have x2 : wc.cell? ⟨q, 2, none⟩ = some (.int .i64 0) := by rw [cell_of_row _ _ _ _ _ _ R1.out]; rfl
    have f2 : wc.frozen? ⟨q, 2, none⟩ = false := frozen_of_row _ _ _ _ _ R1.out
    have ne : e.b ≠ q := by omega
    have P2 : pl wc e X1 X2 := (B1.out.block e.b (by omega)).trans P1
    have P3 := pl_set P2 ne 2 (.int .i64 (e.p : Int))
    obtain ⟨p0, p1, p2, _, _⟩ := pl_c P3
    have p2' := (pl_c P2).2.2.1
    have B2 : Hid (Below q w (wc.setCell ⟨q, 2, none⟩ (.int .i64 (e.p : Int)))) := B1.out.setCell (p := ⟨q, 2, none⟩) (Nat.le_refl q) _
    have R2 : Hid ((wc.setCell ⟨q, 2, none⟩ (.int .i64 (e.p : Int))).heap[q]? = some (.cells #[.string K, .string V, .int .i64 (e.p : Int)] 68 (0, 0))) := by
      show _ = _
      rw [heap_setCell_same _ _ _ _ _ _ R1.out]; rfl
    clear z1
    go_upto_region 7 with (first
      | (go_at_call 31; refine i1.mono ?_; rintro r w9 ⟨rfl, hw9⟩; replace hw9 := hw9.symm; subst hw9)
      | (go_at_call 32; refine (iQ _).mono ?_; rintro r w3 ⟨rfl, b3⟩; have B3 := hid (B2.out.trans (b3.mono (Nat.le_of_lt (lt_of_heap R2.out)))); have R3 := hid ((b3.block q (lt_of_heap R2.out)).trans R2.out)))
    have y0 : w3.cell? ⟨a, 0, none⟩ = some (.int .i64 (B : Int)) := (B3.out.cell (p := ⟨a, 0, none⟩) (by show a < q; omega)).trans c0
    have q0 : w3.cell? ⟨q, 0, none⟩ = some (.string K) := by rw [cell_of_row _ _ _ _ _ _ R3.out]; rfl
    have q1 : w3.cell? ⟨q, 1, none⟩ = some (.string V) := by rw [cell_of_row _ _ _ _ _ _ R3.out]; rfl
    have q2 : w3.cell? ⟨q, 2, none⟩ = some (.int .i64 ((e.p : Nat) : Int)) := by rw [cell_of_row _ _ _ _ _ _ R3.out]; rfl
    go_cut [51] (fun v51 w4 => v51 = .bool true ∧ Hid (Below q w w4) ∧ Hid (w4.heap[q]? = some (.cells #[.string K, .string V, .int .i64 ((e.p : Nat) : Int)] 68 (0, 0))))
    case first =>
      go_region_with (go_at_call 33; refine (iN _).mono ?_; rintro r w4 ⟨rfl, b4⟩; have y4 := (b4.cell (p := ⟨a, 0, none⟩) (lt_of_cell y0)).trans y0)
      all_goals go_wp2_with fail
      all_goals go_meet
      all_goals exact ⟨rfl, B3.out.drew.trans (b4.mono (Nat.le_of_lt (lt_of_heap (w := w3) R3.out))), (b4.block q (lt_of_heap (w := w3) R3.out)).trans R3.out⟩
    case rest =>
      obtain ⟨rfl, B4, R4⟩ := hcut
      go_wp2
      go_ret
      exact ⟨rfl, by rw [hq]; exact B4.out⟩
end Kc
end Go.Proofs.Ytkamjpjmdibfgaa
