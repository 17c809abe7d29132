import Derived.Test.YtkamjpjmdibfgaaPkKR6
import Derived.Laws.ResultCell
/- Layer 15, the document's cache: Drop, Tally -/
namespace Go.Proofs.Ytkamjpjmdibfgaa
open Go.RowKit Go.Maps
namespace Kc
set_option maxRecDepth 100000 in
set_option maxHeartbeats 4000000 in
theorem rdrop_bad {w : World} {a B : Nat} {v : Value} {L : List En} {f m o : Nat} (h : Rf w a B v L f m o) (hl : L.length ≤ 1000000) (k : List UInt8) {e : En} (hf : fnd k L = some e) (hp : 0 < e.p) :
    Calls Try.prog 16 #[.pointer (some ⟨a, 0, none⟩), .string ⟨k.toArray⟩] w fun r w' => r = .returned (.int .i64 153) ∧ w' = w := by
  obtain ⟨X, Y, hL, hek, hwo, hrp, i1⟩ := rfind_some h hl k hf
  have c1 := h.cs.2.1
  subst hL
  obtain ⟨g, cap, hv, k0, k1, k2, hgl⟩ := ownM_e h.own
  subst hv
  have HR := hid h
  have HL := hid hl
  have y1 : (X.length : Int) < ((X ++ e :: Y).length : Int) := by simp; omega
  have y3 : (0 : Int) ≤ (X.length : Int) := by omega
  have y4 : ¬ (X.length : Int) < 0 := by omega
  have fz := ownM_fz h.own (j := X.length * 3 + 2) (by simp; omega)
  have HWO := hid hwo
  have HRP := hid hrp
  obtain ⟨n, hn⟩ : ∃ n, (X ++ e :: Y).length = n := ⟨_, rfl⟩
  rw [hn] at c1 y1
  obtain ⟨t, ht⟩ : ∃ t, X.length = t := ⟨_, rfl⟩
  have HTT := hid ht
  have HNN := hid hn
  rw [ht] at y1 y3 y4 k2 i1 fz
  have y5 : decide ((t : Int) < 0) = false := decide_eq_false y4
  obtain ⟨pe, hpe⟩ : ∃ pe, e.p = pe := ⟨_, rfl⟩
  rw [hpe] at k2 hp
  have z1 : 0 < (pe : Int) := by omega
  have z3 : 0 < pe := hp
  clear hpe hp
  clear h hf hek hwo hrp hn ht hl k0 k1 hgl
  generalize (ByteArray.mk k.toArray) = K at *
  go_enter Try.func16, Try.ntmps16
  go_wp2_with (go_at_call 39; (with_reducible refine i1.mono ?_); rintro r w9 ⟨rfl, hw9⟩; replace hw9 := hw9.symm; subst hw9)
  go_ret
  exact ⟨rfl, rfl⟩
set_option maxRecDepth 100000 in
set_option maxHeartbeats 4000000 in
theorem rdrop_ok {w : World} {a B : Nat} {v : Value} {L : List En} {f m o : Nat} (h : Rf w a B v L f m o) (hl : L.length ≤ 1000000) (k : List UInt8) {e : En} (hf : fnd k L = some e) (hp : e.p = 0) :
    Calls Try.prog 16 #[.pointer (some ⟨a, 0, none⟩), .string ⟨k.toArray⟩] w fun r w' => r = .returned (.int .i64 0) ∧ Ro w a B v w' (wo k L) f m o := by
  obtain ⟨X, Y, hL, hek, hwo, hrp, i1⟩ := rfind_some h hl k hf
  have c1 := h.cs.2.1
  subst hL
  obtain ⟨g, cap, hv, k0, k1, k2, hgl⟩ := ownM_e h.own
  subst hv
  have HR := hid h
  have HL := hid hl
  have y1 : (X.length : Int) < ((X ++ e :: Y).length : Int) := by simp; omega
  have y3 : (0 : Int) ≤ (X.length : Int) := by omega
  have y4 : ¬ (X.length : Int) < 0 := by omega
  have fz := ownM_fz h.own (j := X.length * 3 + 2) (by simp; omega)
  have HWO := hid hwo
  have HRP := hid hrp
  obtain ⟨n, hn⟩ : ∃ n, (X ++ e :: Y).length = n := ⟨_, rfl⟩
  rw [hn] at c1 y1
  obtain ⟨t, ht⟩ : ∃ t, X.length = t := ⟨_, rfl⟩
  have HTT := hid ht
  have HNN := hid hn
  rw [ht] at y1 y3 y4 k2 i1 fz
  have y5 : decide ((t : Int) < 0) = false := decide_eq_false y4
  rw [hp] at k2
  have iW := rwithout_any h hl (t : Int) t (.inl rfl)
  have her : er t (X ++ e :: Y).length (X ++ e :: Y) = X ++ Y := by rw [← ht]; exact er_mid X Y e
  rw [her] at iW
  rw [hwo]
  obtain ⟨nn, hnn⟩ : ∃ nn, (X ++ Y).length = nn := ⟨_, rfl⟩
  rw [hnn] at iW
  have HNX := hid hnn
  clear her hnn
  clear h hf hek hwo hrp hn ht hl k0 k1 hgl
  generalize (ByteArray.mk k.toArray) = K at *
  go_enter Try.func16, Try.ntmps16
  go_wp2_with (first
    | (go_at_call 39; (with_reducible refine i1.mono ?_); rintro r w9 ⟨rfl, hw9⟩; replace hw9 := hw9.symm; subst hw9)
    | (go_at_call 41; (with_reducible refine iW.mono ?_); rintro r w2 ⟨v2, rfl, O2, F2, b2⟩; have R2 := (b2.block a (HR.out.lt a (.inl rfl))).trans HR.out.row; have x1 : w2.cell? ⟨a, 1, none⟩ = some (.slice (some ⟨g, 0, none⟩) (X ++ e :: Y).length cap) := (by rw [cell_of_row _ _ _ _ _ _ R2]; rfl); have f1 : w2.frozen? ⟨a, 1, none⟩ = false := frozen_of_row _ _ _ _ _ R2; have sh := O2.shape; obtain ⟨x2, c2, hv2, _, _⟩ := sh; subst hv2; have R2 := hid R2; have O2 := hid O2; have F2 := hid F2; have b2 := hid b2))
  go_ret
  have al := HR.out.lt a (.inl rfl)
  refine ⟨rfl, ⟨⟨.slice x2 nn c2, ⟨?_, ?_, ?_⟩, ?_⟩, keep_set (keep_below b2.out) (.inl rfl) _ _⟩⟩
  · rw [heap_setCell_same _ _ _ _ _ _ R2.out]; rfl
  · rw [HNX.out]
    exact O2.out.kept (by simp [World.setCell]) fun x hx => heap_setCell_other _ _ _ _ (fun (e : x = a) => by have := F2.out x hx; omega)
  · intro hx; have := F2.out a hx; omega
  · rintro x (rfl | hx)
    · exact .inl (.inl rfl)
    · exact .inr (F2.out x hx)
theorem heap_dr (u : World) : u.drew.heap = u.heap := rfl
theorem set6 {w : World} {q : Nat} {t : TypeId} {y0 y1 y2 y3 y4 y5 : Value} (h : w.heap[q]? = some (.cells #[y0, y1, y2, y3, y4, y5] t (0, 0))) (x0 x1 x2 x3 x4 x5 : Value) : ((((((w.setCell ⟨q, 0, none⟩ x0).setCell ⟨q, 1, none⟩ x1).setCell ⟨q, 2, none⟩ x2).setCell ⟨q, 3, none⟩ x3).setCell ⟨q, 4, none⟩ x4).setCell ⟨q, 5, none⟩ x5).heap[q]? = some (.cells #[x0, x1, x2, x3, x4, x5] t (0, 0)) := by
  have h0 : (w.setCell ⟨q, 0, none⟩ x0).heap[q]? = some (.cells #[x0, y1, y2, y3, y4, y5] t (0, 0)) := by rw [heap_setCell_same _ _ _ _ _ _ h]; rfl
  have h1 : ((w.setCell ⟨q, 0, none⟩ x0).setCell ⟨q, 1, none⟩ x1).heap[q]? = some (.cells #[x0, x1, y2, y3, y4, y5] t (0, 0)) := by rw [heap_setCell_same _ _ _ _ _ _ h0]; rfl
  have h2 : (((w.setCell ⟨q, 0, none⟩ x0).setCell ⟨q, 1, none⟩ x1).setCell ⟨q, 2, none⟩ x2).heap[q]? = some (.cells #[x0, x1, x2, y3, y4, y5] t (0, 0)) := by rw [heap_setCell_same _ _ _ _ _ _ h1]; rfl
  have h3 : ((((w.setCell ⟨q, 0, none⟩ x0).setCell ⟨q, 1, none⟩ x1).setCell ⟨q, 2, none⟩ x2).setCell ⟨q, 3, none⟩ x3).heap[q]? = some (.cells #[x0, x1, x2, x3, y4, y5] t (0, 0)) := by rw [heap_setCell_same _ _ _ _ _ _ h2]; rfl
  have h4 : (((((w.setCell ⟨q, 0, none⟩ x0).setCell ⟨q, 1, none⟩ x1).setCell ⟨q, 2, none⟩ x2).setCell ⟨q, 3, none⟩ x3).setCell ⟨q, 4, none⟩ x4).heap[q]? = some (.cells #[x0, x1, x2, x3, x4, y5] t (0, 0)) := by rw [heap_setCell_same _ _ _ _ _ _ h3]; rfl
  have h5 : ((((((w.setCell ⟨q, 0, none⟩ x0).setCell ⟨q, 1, none⟩ x1).setCell ⟨q, 2, none⟩ x2).setCell ⟨q, 3, none⟩ x3).setCell ⟨q, 4, none⟩ x4).setCell ⟨q, 5, none⟩ x5).heap[q]? = some (.cells #[x0, x1, x2, x3, x4, x5] t (0, 0)) := by rw [heap_setCell_same _ _ _ _ _ _ h4]; rfl
  exact h5
set_option maxRecDepth 100000 in
set_option maxHeartbeats 4000000 in
theorem rtally_any {w : World} {a B : Nat} {v : Value} {L : List En} {f m o : Nat} (h : Rf w a B v L f m o) (hl : L.length ≤ 1000000) (ht : tot L ≤ 1000000000000) :
    Calls Try.prog 21 #[.pointer (some ⟨a, 0, none⟩)] w fun r w' => r = .returned (tal L.length (tot L) (pnd L) f m o) ∧ Below w.heap.size w w' := by
  obtain ⟨w1, hw1⟩ : ∃ w1, w.alloc (.cells #[.int .i64 0, .int .i64 0, .int .i64 0, .int .i64 0, .int .i64 0, .int .i64 0] 42) = w1 := ⟨_, rfl⟩
  have b1 : Below w.heap.size w w1 := by rw [← hw1]; exact (Below.refl _ _).alloc (Nat.le_refl _) _
  have r1 : w1.heap[w.heap.size]? = some (.cells #[.int .i64 0, .int .i64 0, .int .i64 0, .int .i64 0, .int .i64 0, .int .i64 0] 42 (0, 0)) := by rw [← hw1]; exact heap_alloc_new w _
  have R1 := h.below b1
  have i1 := rcounts_any R1.own hl ht
  have c1 := R1.cs.2.1
  obtain ⟨xa, cap, hv, _, _⟩ := R1.own.shape
  subst hv
  have HR := hid R1
  have Hr1 := hid r1
  have B1 := hid b1
  unfold tal
  obtain ⟨n, hn⟩ : ∃ n, L.length = n := ⟨_, rfl⟩
  rw [hn] at c1 i1 HR ⊢
  generalize tot L = t5 at *
  generalize pnd L = t6 at *
  obtain ⟨q, hq⟩ : ∃ q, w.heap.size = q := ⟨_, rfl⟩
  have HQ := hid hq
  rw [hq] at B1 Hr1
  rw [hq]
  clear h hl ht R1 hn b1 r1
  go_enter Try.func21, Try.ntmps21
  go_upto_region 2 with (go_at_call 42; (with_reducible refine i1.mono ?_); rintro r w2 ⟨rfl, b2⟩)
  have R2 := HR.out.below b2
  obtain ⟨_, d1, d2, d3, d4⟩ := R2.cs
  have r2 := (b2.block q (lt_of_heap Hr1.out)).trans Hr1.out
  have f0 : ∀ j, w2.frozen? ⟨q, j, none⟩ = false := fun j => frozen_of_row _ _ j _ _ r2
  have g0 := f0 0
  have g1 := f0 1
  have g2 := f0 2
  have g3 := f0 3
  have g4 := f0 4
  have g5 := f0 5
  have e0 : w2.cell? ⟨q, 0, none⟩ = some (.int .i64 0) := by rw [cell_of_row _ _ _ _ _ _ r2]; rfl
  have e1 : w2.cell? ⟨q, 1, none⟩ = some (.int .i64 0) := by rw [cell_of_row _ _ _ _ _ _ r2]; rfl
  have e2 : w2.cell? ⟨q, 2, none⟩ = some (.int .i64 0) := by rw [cell_of_row _ _ _ _ _ _ r2]; rfl
  have e3 : w2.cell? ⟨q, 3, none⟩ = some (.int .i64 0) := by rw [cell_of_row _ _ _ _ _ _ r2]; rfl
  have e4 : w2.cell? ⟨q, 4, none⟩ = some (.int .i64 0) := by rw [cell_of_row _ _ _ _ _ _ r2]; rfl
  have e5 : w2.cell? ⟨q, 5, none⟩ = some (.int .i64 0) := by rw [cell_of_row _ _ _ _ _ _ r2]; rfl
  have Hr2 := hid r2
  have B2 : Hid (Below q w w2) := B1.out.trans (b2.mono (by have := lt_of_heap Hr1.out; omega))
  clear f0 r2 R2 i1 b2
  go_region
  go_wp2
  have BB := ((((((B2.out.setCell (p := ⟨q, 0, none⟩) (Nat.le_refl q) (.int .i64 (n : Int))).setCell (p := ⟨q, 1, none⟩) (Nat.le_refl q) (.int .i64 (t5 : Int))).setCell (p := ⟨q, 2, none⟩) (Nat.le_refl q) (.int .i64 (t6 : Int))).setCell (p := ⟨q, 3, none⟩) (Nat.le_refl q) (.int .i64 (f : Int))).setCell (p := ⟨q, 4, none⟩) (Nat.le_refl q) (.int .i64 (m : Int))).setCell (p := ⟨q, 5, none⟩) (Nat.le_refl q) (.int .i64 (o : Int))).drew
  have row := set6 Hr2.out (.int .i64 (n : Int)) (.int .i64 (t5 : Int)) (.int .i64 (t6 : Int)) (.int .i64 (f : Int)) (.int .i64 (m : Int)) (.int .i64 (o : Int))
  rw [← heap_dr] at row
  generalize World.drew _ = w3 at row BB ⊢
  exact bodyPost_ret (v := tal n t5 t6 f m o) (results_cell_row rfl _ _ q 42 _ (0, 0) _ rfl row Try.underlying42 rfl sizeTl) rfl ⟨rfl, BB⟩
end Kc
end Go.Proofs.Ytkamjpjmdibfgaa
