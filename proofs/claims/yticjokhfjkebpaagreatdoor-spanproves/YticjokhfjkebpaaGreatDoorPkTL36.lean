import Derived.Test.YticjokhfjkebpaaGreatDoorPkTL35
namespace Go.Proofs.YticjokhfjkebpaaGreatDoor
open Go.RowKit
theorem At.map_sg {w : World} {a : Option Addr} {L : List (List UInt8)} (h : At w a L) {b e : Nat} (he : e ≤ L.length) : At w (a.map (·.add b)) (Til.sg L b e) := by
  by_cases hbe : b < e
  · obtain ⟨y, rfl⟩ := h.pos (by omega)
    exact h.sg b e
  · have : Til.sg L b e = [] := List.eq_nil_of_length_eq_zero (by rw [Til.sg_len he]; omega)
    rw [this]
    exact At.nil _ _
theorem s3_below {q g : Nat} {x y z : Value} {w w' : World} (h : w.cell? ⟨q, 1, none⟩ = some x ∧ w.cell? ⟨g, 0, none⟩ = some y ∧ w.cell? ⟨g, 1, none⟩ = some z) (hq : q < w.heap.size) (hg : g < w.heap.size) (hb : Below w.heap.size w w') : w'.cell? ⟨q, 1, none⟩ = some x ∧ w'.cell? ⟨g, 0, none⟩ = some y ∧ w'.cell? ⟨g, 1, none⟩ = some z :=
  ⟨(hb.cell (p := ⟨q, 1, none⟩) hq).trans h.1, (hb.cell (p := ⟨g, 0, none⟩) hg).trans h.2.1, (hb.cell (p := ⟨g, 1, none⟩) hg).trans h.2.2⟩
set_option maxRecDepth 100000 in
set_option maxHeartbeats 4000000 in
theorem rPart7_any {w : World} {q h : Nat} {L : List (List UInt8)} {F : Nat → Prop} (t : RtL w q h L F) (b e : Int) {x : List UInt8} {z : Int} (hx : Hid (tPartO L b e = (x, z))) :
    Calls Tryz.prog 62 #[.pointer (some ⟨q, 0, none⟩), .agg #[.int .i64 b, .int .i64 e]] w fun r w' => r = .returned (.tuple #[sv x, .int .i64 z]) ∧ Below w.heap.size w w' := by
  obtain ⟨w1, hw1⟩ : ∃ w1, w.alloc (.cells #[Value.int .i64 b, .int .i64 e] 35) = w1 := ⟨_, rfl⟩
  have b1 := (Below.refl w.heap.size w).alloc (Nat.le_refl _) (.cells #[Value.int .i64 b, .int .i64 e] 35)
  have r1 := heap_alloc_new w (.cells #[Value.int .i64 b, .int .i64 e] 35)
  rw [hw1] at b1 r1
  have c0 : w1.cell? ⟨w.heap.size, 0, none⟩ = some (.int .i64 b) := by rw [cell_of_row _ _ _ _ _ _ r1]; rfl
  have c1 : w1.cell? ⟨w.heap.size, 1, none⟩ = some (.int .i64 e) := by rw [cell_of_row _ _ _ _ _ _ r1]; rfl
  have T1 := hid (t.below b1)
  have i1 := rinside_any T1.out b e
  have B1 := hid b1
  have hlt : w.heap.size < w1.heap.size := lt_of_heap r1
  have hxo := hx.out
  unfold tPartO at hxo
  obtain ⟨d, hc⟩ : ∃ c, spB L.length b e = c := ⟨_, rfl⟩
  rw [hc] at i1 hxo
  have n20 := t.n20
  have hHs := t.hs
  clear t b1 r1 hx
  cases d
  · rw [if_neg (by simp)] at hxo
    injection hxo with h1 h2
    subst h1 h2
    go_enter Tryz.func62, Tryz.ntmps62
    go_wp2_with (go_at_call 108; refine i1.mono ?_; rintro r w2 ⟨rfl, hw2⟩)
    go_ret2
    exact ⟨rfl, B1.out.trans (hw2.mono B1.out.size)⟩
  · rw [if_pos rfl] at hxo
    injection hxo with h1 h2
    subst h2
    unfold spB at hc
    have hc := of_decide_eq_true hc
    obtain ⟨b', rfl⟩ : ∃ b' : Nat, b = (b' : Int) := ⟨b.toNat, by omega⟩
    obtain ⟨e', rfl⟩ : ∃ e' : Nat, e = (e' : Int) := ⟨e.toNat, by omega⟩
    rw [Int.toNat_natCast, Int.toNat_natCast] at h1
    have hbe : b' ≤ e' := by omega
    have hen : e' ≤ L.length := by omega
    have m0 : (0 : Int) ≤ (b' : Int) := by omega
    have m1 : (b' : Int) ≤ (e' : Int) := by omega
    have hlen := Til.sg_len (L := L) (b := b') hen
    clear hc
    go_enter Tryz.func62, Tryz.ntmps62
    go_wp2_with (go_at_call 108; fail)
    refine i1.mono ?_
    rintro r w2 ⟨rfl, hw2⟩
    have d0 := (hw2.cell (p := ⟨w.heap.size, 0, none⟩) hlt).trans c0
    have d1 := (hw2.cell (p := ⟨w.heap.size, 1, none⟩) hlt).trans c1
    obtain ⟨a, c, r2, _, _, _, hA, hLc, hc9⟩ := (T1.out.below hw2).open
    have d2 : w2.cell? ⟨q, 1, none⟩ = some (.slice a L.length c) := by rw [cell_of_row _ _ _ _ _ _ r2]; rfl
    have B2 := hid (B1.out.trans (hw2.mono B1.out.size))
    have m2 : (e' : Int) ≤ (c : Int) := by omega
    have S0 : w2.cell? ⟨q, 1, none⟩ = some (.slice a L.length c) ∧ w2.cell? ⟨w.heap.size, 0, none⟩ = some (.int .i64 (b' : Int)) ∧ w2.cell? ⟨w.heap.size, 1, none⟩ = some (.int .i64 (e' : Int)) := ⟨d2, d0, d1⟩
    have hqlt := lt_of_heap r2
    have hglt : w.heap.size < w2.heap.size := Nat.lt_of_lt_of_le hlt hw2.size
    have hd : Below w2.heap.size w2 w2.drew := (Below.refl _ _).drew
    by_cases hcb : c = b'
    · have i3 := hash7_any _ (Til.sg L b' e') a 0 w2.drew (Nat.le_refl _) (by omega) (by omega) (by omega) (Til.sg_hs hHs _ _) (by
        have : Til.sg L b' e' = [] := List.eq_nil_of_length_eq_zero (by omega)
        rw [this]; exact At.nil _ _)
      rw [hlen, h1] at i3
      clear r2 hA h1 hlen T1 i1 hHs d0 d1 d2 c0 c1 B1 hw2
      generalize L.length = n at *
      obtain rfl : b' = c := hcb.symm
      go_wp2
      go_region_held3 (fun w' => w'.cell? ⟨q, 1, none⟩ = some (.slice a n b') ∧ w'.cell? ⟨w.heap.size, 0, none⟩ = some (.int .i64 (b' : Int)) ∧ w'.cell? ⟨w.heap.size, 1, none⟩ = some (.int .i64 (e' : Int))) (first | exact S0 | exact S3) ((go_at_call 109; refine i3.mono ?_; rintro r w3 ⟨rfl, hw3⟩; have S3 := s3_below (w := w2.drew) S0 hqlt hglt hw3))
      all_goals go_wp2
      all_goals go_ret2
      all_goals exact ⟨rfl, B2.out.trans ((hd.trans (hw3.mono hd.size)).mono B2.out.size)⟩
    · have i3 := hash7_any _ (Til.sg L b' e') (a.map (·.add b')) (c - b') w2.drew (Nat.le_refl _) (by omega) (by omega) (by omega) (Til.sg_hs hHs _ _) ((hA.map_sg hen).below hd (Nat.le_refl _))
      rw [hlen, h1] at i3
      clear r2 hA h1 hlen T1 i1 hHs d0 d1 d2 c0 c1 B1 hw2
      generalize L.length = n at *
      go_wp2
      go_region_held3 (fun w' => w'.cell? ⟨q, 1, none⟩ = some (.slice a n c) ∧ w'.cell? ⟨w.heap.size, 0, none⟩ = some (.int .i64 (b' : Int)) ∧ w'.cell? ⟨w.heap.size, 1, none⟩ = some (.int .i64 (e' : Int))) (first | exact S0 | exact S3) ((go_at_call 109; refine i3.mono ?_; rintro r w3 ⟨rfl, hw3⟩; have S3 := s3_below (w := w2.drew) S0 hqlt hglt hw3))
      all_goals go_wp2
      all_goals go_ret2
      all_goals exact ⟨rfl, B2.out.trans ((hd.trans (hw3.mono hd.size)).mono B2.out.size)⟩
end Go.Proofs.YticjokhfjkebpaaGreatDoor
