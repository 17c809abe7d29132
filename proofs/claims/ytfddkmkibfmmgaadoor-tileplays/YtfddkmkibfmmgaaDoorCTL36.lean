import Derived.Test.YtfddkmkibfmmgaaDoorCTL34
namespace Go.Proofs.YtfddkmkibfmmgaaDoor
open Go.RowKit
theorem At.map_sg {w : World} {a : Option Addr} {L : List (List UInt8)} (h : At w a L) {b e : Nat} (he : e ≤ L.length) : At w (a.map (·.add b)) (Til.sg L b e) := by
  by_cases hbe : b < e
  · obtain ⟨y, rfl⟩ := h.pos (by omega)
    exact h.sg b e
  · have : Til.sg L b e = [] := List.eq_nil_of_length_eq_zero (by rw [Til.sg_len he]; omega)
    rw [this]
    exact At.nil _ _
theorem s3_below {q g : Nat} {x y z : Value} {w w' : World} (h : w.cell? ⟨q, 1, none⟩ = some x ∧ w.cell? ⟨g, 0, none⟩ = some y ∧ w.cell? ⟨g, 1, none⟩ = some z) (hq : q < w.heap.size) (hg : g < w.heap.size) (hb : Below w.heap.size w w') : w'.cell? ⟨q, 1, none⟩ = some x ∧ w'.cell? ⟨g, 0, none⟩ = some y ∧ w'.cell? ⟨g, 1, none⟩ = some z :=
  ⟨(hb.cell (p := ⟨q, 1, none⟩) hq).trans h.1, (hb.cell (p := ⟨g, 0, none⟩) hg).trans h.2.1, (hb.cell (p := ⟨g, 1, none⟩) hg).trans h.2.2⟩
set_option maxRecDepth 100000 in
set_option maxHeartbeats 4000000 in
theorem rPart7_any {w : World} {q h : Nat} {L : List (List UInt8)} {F : Nat → Prop} (t : RtL w q h L F) (b e : Int) {x : List UInt8} {z : Int} (hx : Hid (tPartO L b e = (x, z))) :
    Calls Tryd.prog 74 #[.pointer (some ⟨q, 0, none⟩), .agg #[.int .i64 b, .int .i64 e]] w fun r w' => r = .returned (.tuple #[sv x, .int .i64 z]) ∧ Below w.heap.size w w' := by
  obtain ⟨w1, hw1⟩ : ∃ w1, w.alloc (.cells #[Value.int .i64 b, .int .i64 e] 47) = w1 := ⟨_, rfl⟩
  have b1 := (Below.refl w.heap.size w).alloc (Nat.le_refl _) (.cells #[Value.int .i64 b, .int .i64 e] 47)
  have r1 := heap_alloc_new w (.cells #[Value.int .i64 b, .int .i64 e] 47)
  rw [hw1] at b1 r1
  have c0 : w1.cell? ⟨w.heap.size, 0, none⟩ = some (.int .i64 b) := by rw [cell_of_row _ _ _ _ _ _ r1]; rfl
  have c1 : w1.cell? ⟨w.heap.size, 1, none⟩ = some (.int .i64 e) := by rw [cell_of_row _ _ _ _ _ _ r1]; rfl
  have T1 := hid (t.below b1)
  have i1 := rinside_any T1.out b e
  have B1 := hid b1
  have hlt : w.heap.size < w1.heap.size := lt_of_heap r1
  have hxo := hx.out
  unfold tPartO at hxo
  obtain ⟨d, hc⟩ : ∃ c, spB L.length b e = c := ⟨_, rfl⟩
  rw [hc] at i1 hxo
  have n20 := t.n20
  have hHs := t.hs
  clear t b1 r1 hx
  cases d
  · rw [if_neg (by simp)] at hxo
    injection hxo with h1 h2
    subst h1 h2
    go_enter Tryd.func74, Tryd.ntmps74
    go_wp2_with (go_at_call 88; refine i1.mono ?_; rintro r w2 ⟨rfl, hw2⟩)
    go_ret2
    exact ⟨rfl, B1.out.trans (hw2.mono B1.out.size)⟩
  · rw [if_pos rfl] at hxo
    injection hxo with h1 h2
    subst h2
    unfold spB at hc
    have hc := of_decide_eq_true hc
    obtain ⟨b', rfl⟩ : ∃ b' : Nat, b = (b' : Int) := ⟨b.toNat, by omega⟩
    obtain ⟨e', rfl⟩ : ∃ e' : Nat, e = (e' : Int) := ⟨e.toNat, by omega⟩
    rw [Int.toNat_natCast, Int.toNat_natCast] at h1
    have hbe : b' ≤ e' := by omega
    have hen : e' ≤ L.length := by omega
    have m0 : (0 : Int) ≤ (b' : Int) := by omega
    have m1 : (b' : Int) ≤ (e' : Int) := by omega
    have hlen := Til.sg_len (L := L) (b := b') hen
    clear hc
    go_enter Tryd.func74, Tryd.ntmps74
    go_wp2_with (go_at_call 88; fail)
    refine i1.mono ?_
    rintro r w2 ⟨rfl, hw2⟩
    have d0 := (hw2.cell (p := ⟨w.heap.size, 0, none⟩) hlt).trans c0
    have d1 := (hw2.cell (p := ⟨w.heap.size, 1, none⟩) hlt).trans c1
    obtain ⟨a, c, r2, _, _, _, hA, hLc, hc9⟩ := (T1.out.below hw2).open
    have d2 : w2.cell? ⟨q, 1, none⟩ = some (.slice a L.length c) := by rw [cell_of_row _ _ _ _ _ _ r2]; rfl
    have B2 := hid (B1.out.trans (hw2.mono B1.out.size))
    have m2 : (e' : Int) ≤ (c : Int) := by omega
    have S0 : w2.cell? ⟨q, 1, none⟩ = some (.slice a L.length c) ∧ w2.cell? ⟨w.heap.size, 0, none⟩ = some (.int .i64 (b' : Int)) ∧ w2.cell? ⟨w.heap.size, 1, none⟩ = some (.int .i64 (e' : Int)) := ⟨d2, d0, d1⟩
    have hqlt := lt_of_heap r2
    have hglt : w.heap.size < w2.heap.size := Nat.lt_of_lt_of_le hlt hw2.size
    have hd : Below w2.heap.size w2 w2.drew := (Below.refl _ _).drew
    by_cases hcb : c = b'
    · have i3 := hash7_any _ (Til.sg L b' e') a 0 w2.drew (Nat.le_refl _) (by omega) (by omega) (by omega) (Til.sg_hs hHs _ _) (by
        have : Til.sg L b' e' = [] := List.eq_nil_of_length_eq_zero (by omega)
        rw [this]; exact At.nil _ _)
      rw [hlen, h1] at i3
      clear r2 hA h1 hlen T1 i1 hHs d0 d1 d2 c0 c1 B1 hw2
      generalize L.length = n at *
      obtain rfl : b' = c := hcb.symm
      go_wp2
      go_region_held3 (fun w' => w'.cell? ⟨q, 1, none⟩ = some (.slice a n b') ∧ w'.cell? ⟨w.heap.size, 0, none⟩ = some (.int .i64 (b' : Int)) ∧ w'.cell? ⟨w.heap.size, 1, none⟩ = some (.int .i64 (e' : Int))) (first | exact S0 | exact S3) ((go_at_call 87; refine i3.mono ?_; rintro r w3 ⟨rfl, hw3⟩; have S3 := s3_below (w := w2.drew) S0 hqlt hglt hw3))
      all_goals go_wp2
      all_goals go_ret2
      all_goals exact ⟨rfl, B2.out.trans ((hd.trans (hw3.mono hd.size)).mono B2.out.size)⟩
    · have i3 := hash7_any _ (Til.sg L b' e') (a.map (·.add b')) (c - b') w2.drew (Nat.le_refl _) (by omega) (by omega) (by omega) (Til.sg_hs hHs _ _) ((hA.map_sg hen).below hd (Nat.le_refl _))
      rw [hlen, h1] at i3
      clear r2 hA h1 hlen T1 i1 hHs d0 d1 d2 c0 c1 B1 hw2
      generalize L.length = n at *
      go_wp2
      go_region_held3 (fun w' => w'.cell? ⟨q, 1, none⟩ = some (.slice a n c) ∧ w'.cell? ⟨w.heap.size, 0, none⟩ = some (.int .i64 (b' : Int)) ∧ w'.cell? ⟨w.heap.size, 1, none⟩ = some (.int .i64 (e' : Int))) (first | exact S0 | exact S3) ((go_at_call 87; refine i3.mono ?_; rintro r w3 ⟨rfl, hw3⟩; have S3 := s3_below (w := w2.drew) S0 hqlt hglt hw3))
      all_goals go_wp2
      all_goals go_ret2
      all_goals exact ⟨rfl, B2.out.trans ((hd.trans (hw3.mono hd.size)).mono B2.out.size)⟩
set_option maxRecDepth 100000 in
theorem rRoot7_any {w : World} {q h : Nat} {L : List (List UInt8)} {F : Nat → Prop} (t : RtL w q h L F) (n : Int) {x : List UInt8} {z : Int} (hx : Hid (tPartO L 0 n = (x, z))) :
    Calls Tryd.prog 75 #[.pointer (some ⟨q, 0, none⟩), .int .i64 n] w fun r w' => r = .returned (.tuple #[sv x, .int .i64 z]) ∧ Below w.heap.size w w' := by
  have i1 := rPart7_any t 0 n hx
  go_enter Tryd.func75, Tryd.ntmps75
  go_wp2_with (go_at_call 74; refine i1.mono ?_; rintro r w2 ⟨rfl, hw2⟩)
  go_ret2
  exact ⟨rfl, hw2⟩
end Go.Proofs.YtfddkmkibfmmgaaDoor

namespace Go.Proofs.YtfddkmkibfmmgaaDoor
open Go.RowKit
/-- T4: leaves, or none -/
def LvP (w : World) (L : List (List UInt8)) (b e : Int) (r : Ending) (w' : World) : Prop :=
  Below w.heap.size w w' ∧ if spB L.length b e = true then ∃ v, r = .returned (.tuple #[v, .int .i64 0]) ∧ Own w' w.heap.size v (svs (Til.sg L b.toNat e.toNat)) else r = .returned (.tuple #[.slice none 0 0, .int .i64 73])
set_option maxRecDepth 100000 in
set_option maxHeartbeats 4000000 in
theorem rLeaves7_any {w : World} {q h : Nat} {L : List (List UInt8)} {F : Nat → Prop} (t : RtL w q h L F) (b e : Int) :
    Calls Tryd.prog 76 #[.pointer (some ⟨q, 0, none⟩), .agg #[.int .i64 b, .int .i64 e]] w (LvP w L b e) := by
  obtain ⟨w1, hw1⟩ : ∃ w1, w.alloc (.cells #[Value.int .i64 b, .int .i64 e] 47) = w1 := ⟨_, rfl⟩
  have b1 := (Below.refl w.heap.size w).alloc (Nat.le_refl _) (.cells #[Value.int .i64 b, .int .i64 e] 47)
  have r1 := heap_alloc_new w (.cells #[Value.int .i64 b, .int .i64 e] 47)
  rw [hw1] at b1 r1
  have c0 : w1.cell? ⟨w.heap.size, 0, none⟩ = some (.int .i64 b) := by rw [cell_of_row _ _ _ _ _ _ r1]; rfl
  have c1 : w1.cell? ⟨w.heap.size, 1, none⟩ = some (.int .i64 e) := by rw [cell_of_row _ _ _ _ _ _ r1]; rfl
  have T1 := hid (t.below b1)
  have i1 := rinside_any T1.out b e
  have B1 := hid b1
  have hlt : w.heap.size < w1.heap.size := lt_of_heap r1
  obtain ⟨d, hc⟩ : ∃ c, spB L.length b e = c := ⟨_, rfl⟩
  unfold LvP
  rw [hc] at i1 ⊢
  have n20 := t.n20
  clear t b1 r1
  cases d
  · simp only [Bool.false_eq_true, if_false]
    go_enter Tryd.func76, Tryd.ntmps76
    go_wp2_with (go_at_call 88; refine i1.mono ?_; rintro r w2 ⟨rfl, hw2⟩)
    go_ret2
    exact ⟨B1.out.trans (hw2.mono B1.out.size), rfl⟩
  · simp only [if_true]
    unfold spB at hc
    have hc := of_decide_eq_true hc
    obtain ⟨b', rfl⟩ : ∃ b' : Nat, b = (b' : Int) := ⟨b.toNat, by omega⟩
    obtain ⟨e', rfl⟩ : ∃ e' : Nat, e = (e' : Int) := ⟨e.toNat, by omega⟩
    rw [Int.toNat_natCast, Int.toNat_natCast]
    have hbe : b' ≤ e' := by omega
    have hen : e' ≤ L.length := by omega
    have m0 : (0 : Int) ≤ (b' : Int) := by omega
    have m1 : (b' : Int) ≤ (e' : Int) := by omega
    have hlen := Til.sg_len (L := L) (b := b') hen
    clear hc
    go_enter Tryd.func76, Tryd.ntmps76
    go_wp2_with (go_at_call 88; fail)
    refine i1.mono ?_
    rintro r w2 ⟨rfl, hw2⟩
    have d0 := (hw2.cell (p := ⟨w.heap.size, 0, none⟩) hlt).trans c0
    have d1 := (hw2.cell (p := ⟨w.heap.size, 1, none⟩) hlt).trans c1
    obtain ⟨a, c, r2, _, _, _, hA, hLc, hc9⟩ := (T1.out.below hw2).open
    have d2 : w2.cell? ⟨q, 1, none⟩ = some (.slice a L.length c) := by rw [cell_of_row _ _ _ _ _ _ r2]; rfl
    have B2 := hid (B1.out.trans (hw2.mono B1.out.size))
    have m2 : (e' : Int) ≤ (c : Int) := by omega
    have S0 : w2.cell? ⟨q, 1, none⟩ = some (.slice a L.length c) ∧ w2.cell? ⟨w.heap.size, 0, none⟩ = some (.int .i64 (b' : Int)) ∧ w2.cell? ⟨w.heap.size, 1, none⟩ = some (.int .i64 (e' : Int)) := ⟨d2, d0, d1⟩
    have hqlt := lt_of_heap r2
    have hglt : w.heap.size < w2.heap.size := Nat.lt_of_lt_of_le hlt hw2.size
    have hd : Below w2.heap.size w2 w2.drew := (Below.refl _ _).drew
    by_cases hcb : c = b'
    · obtain ⟨v, w3, hap, o3, hw3⟩ := append_at w2.drew a 0 (Til.sg L b' e') (by
        have : Til.sg L b' e' = [] := List.eq_nil_of_length_eq_zero (by omega)
        rw [this]; exact At.nil _ _) (by omega)
      rw [hlen] at hap
      have fin : Hid (Below w.heap.size w w3 ∧ ∃ v', Ending.returned (.tuple #[v, .int .i64 0]) = .returned (.tuple #[v', .int .i64 0]) ∧ Own w3 w.heap.size v' (svs (Til.sg L b' e'))) := ⟨B2.out.trans ((hd.trans (hw3.mono hd.size)).mono B2.out.size), v, rfl, o3.mono B2.out.size⟩
      have S3 := s3_below (w := w2.drew) S0 hqlt hglt hw3
      clear r2 hA hlen T1 i1 d0 d1 d2 c0 c1 B1 hw2 o3 hw3
      generalize L.length = n at *
      obtain rfl : b' = c := hcb.symm
      go_wp2
      go_region_held3 (fun w' => w'.cell? ⟨q, 1, none⟩ = some (.slice a n b') ∧ w'.cell? ⟨w.heap.size, 0, none⟩ = some (.int .i64 (b' : Int)) ∧ w'.cell? ⟨w.heap.size, 1, none⟩ = some (.int .i64 (e' : Int))) (first | exact S0 | exact S3) (refine step_append_run rfl _ _ 33 rfl _ _ _ w3 rfl rfl hap ?_)
      all_goals go_wp2
      all_goals go_ret2
      all_goals exact fin.out
    · obtain ⟨v, w3, hap, o3, hw3⟩ := append_at w2.drew (a.map (·.add b')) (c - b') (Til.sg L b' e') ((hA.map_sg hen).below hd (Nat.le_refl _)) (by omega)
      rw [hlen] at hap
      have fin : Hid (Below w.heap.size w w3 ∧ ∃ v', Ending.returned (.tuple #[v, .int .i64 0]) = .returned (.tuple #[v', .int .i64 0]) ∧ Own w3 w.heap.size v' (svs (Til.sg L b' e'))) := ⟨B2.out.trans ((hd.trans (hw3.mono hd.size)).mono B2.out.size), v, rfl, o3.mono B2.out.size⟩
      have S3 := s3_below (w := w2.drew) S0 hqlt hglt hw3
      clear r2 hA hlen T1 i1 d0 d1 d2 c0 c1 B1 hw2 o3 hw3
      generalize L.length = n at *
      go_wp2
      go_region_held3 (fun w' => w'.cell? ⟨q, 1, none⟩ = some (.slice a n c) ∧ w'.cell? ⟨w.heap.size, 0, none⟩ = some (.int .i64 (b' : Int)) ∧ w'.cell? ⟨w.heap.size, 1, none⟩ = some (.int .i64 (e' : Int))) (first | exact S0 | exact S3) (refine step_append_run rfl _ _ 33 rfl _ _ _ w3 rfl rfl hap ?_)
      all_goals go_wp2
      all_goals go_ret2
      all_goals exact fin.out
end Go.Proofs.YtfddkmkibfmmgaaDoor

namespace Go.Proofs.YtfddkmkibfmmgaaDoor
open Go.RowKit
/-- the first k places of a tile -/
def rp (L : List (List UInt8)) (h l i k : Nat) : List (List UInt8) := (List.range (min k (Til.cn L.length (l * h) - i * 2 ^ h))).map fun t => Til.hs L (l * h) (i * 2 ^ h + t)
theorem rp_zero (L : List (List UInt8)) (h l i : Nat) : rp L h l i 0 = [] := by unfold rp; rw [Nat.zero_min]; rfl
theorem rp_len (L : List (List UInt8)) (h l i k : Nat) : (rp L h l i k).length ≤ k := by unfold rp; rw [List.length_map, List.length_range]; omega
theorem cn_iff {n l j : Nat} : (j + 1) * 2 ^ l ≤ n ↔ j < Til.cn n l := by
  unfold Til.cn
  rw [← Nat.succ_le_iff, Nat.le_div_iff_mul_le (Nat.two_pow_pos l)]
theorem rp_yes {L : List (List UInt8)} {h l i k : Nat} (hk : (i * 2 ^ h + k + 1) * 2 ^ (l * h) ≤ L.length) : rp L h l i (k + 1) = rp L h l i k ++ [Til.hs L (l * h) (i * 2 ^ h + k)] := by
  have := cn_iff.1 hk
  unfold rp
  rw [show min (k + 1) (Til.cn L.length (l * h) - i * 2 ^ h) = k + 1 by omega, show min k (Til.cn L.length (l * h) - i * 2 ^ h) = k by omega, List.range_succ, List.map_append]
  rfl
theorem rp_no {L : List (List UInt8)} {h l i k : Nat} (hk : ¬ (i * 2 ^ h + k + 1) * 2 ^ (l * h) ≤ L.length) : rp L h l i (k + 1) = rp L h l i k := by
  have := mt cn_iff.2 hk
  unfold rp
  rw [show min (k + 1) (Til.cn L.length (l * h) - i * 2 ^ h) = min k (Til.cn L.length (l * h) - i * 2 ^ h) by omega]
theorem tileO_nat {L : List (List UInt8)} {h l i : Nat} (h1 : 1 ≤ h) : tileO L h (l : Int) (i : Int) = rp L h l i (2 ^ h) := by
  unfold tileO
  rw [Int.toNat_natCast]
  by_cases hl : 2 ^ l ≤ L.length
  · rw [if_pos ⟨by omega, hl⟩, ← Int.natCast_mul, Til.rf_nat]
    rfl
  · rw [if_neg fun x => hl x.2]
    have h2 : l ≤ l * h := Nat.le_mul_of_pos_right _ h1
    have h3 : 2 ^ l ≤ 2 ^ (l * h) := Nat.pow_le_pow_right (by omega) h2
    have h4 : Til.cn L.length (l * h) = 0 := by unfold Til.cn; exact Nat.div_eq_of_lt (by omega)
    unfold rp
    rw [h4, Nat.zero_sub, Nat.min_zero]
    rfl
theorem tileO_bad {L : List (List UInt8)} {h : Nat} {l i : Int} (h20 : L.length ≤ 1048576) (hb : l < 0 ∨ 30 < l ∨ i < 0 ∨ 1048576 < i) : tileO L h l i = [] := by
  unfold tileO
  split
  · rename_i hc
    unfold Til.rf
    split
    · rename_i hd
      have hi : ¬ i < 0 := by have := hd.2; simp only at this; omega
      have hl : ¬ 30 < l := fun hl => by
        have := pow31 (l := l.toNat) (by omega)
        have := hc.2; omega
      have hi2 : 1048576 < i := by omega
      apply List.eq_nil_of_length_eq_zero
      rw [Til.row_len]
      have e1 : Til.cn L.length (l * (h : Int)).toNat ≤ L.length := Nat.div_le_self _ _
      have e2 : i.toNat ≤ i.toNat * 2 ^ h := Nat.le_mul_of_pos_right _ (Nat.two_pow_pos h)
      have e3 := Nat.two_pow_pos h
      simp only
      generalize 2 ^ h = H at *
      omega
    · rfl
  · rfl
/-- of any two numbers -/
theorem rcomplete_nat {w : World} {q h : Nat} {L : List (List UInt8)} {F : Nat → Prop} (t : RtL w q h L F) (l i : Nat) :
    Calls Tryd.prog 86 #[.pointer (some ⟨q, 0, none⟩), .int .i64 (l : Int), .int .i64 (i : Int)] w fun r w' => ∃ (b e : Nat), r = .returned (.tuple #[.int .i64 (b : Int), .int .i64 (e : Int), .bool (decide ((i + 1) * 2 ^ l ≤ L.length))]) ∧ Below w.heap.size w w' ∧ ((i + 1) * 2 ^ l ≤ L.length → b = i * 2 ^ l ∧ e = (i + 1) * 2 ^ l) := by
  by_cases hb : (l : Int) < 0 ∨ 30 < (l : Int) ∨ (i : Int) < 0 ∨ 1048576 < (i : Int)
  · have hn := big_not t.n20 hb
    rw [Int.toNat_natCast, Int.toNat_natCast] at hn
    have hd : ¬ (i + 1) * 2 ^ l ≤ L.length := fun x => hn ⟨by omega, by omega, x⟩
    refine (rcomplete_bad q l i hb w).mono ?_
    rintro r w' ⟨rfl, rfl⟩
    exact ⟨0, 0, by rw [decide_eq_false hd]; rfl, Below.refl _ _, fun x => absurd x hd⟩
  · refine (rcomplete_ok t l i (by omega) (by omega)).mono ?_
    rintro r w' ⟨rfl, hw⟩
    exact ⟨_, _, rfl, hw, fun _ => ⟨rfl, rfl⟩⟩
end Go.Proofs.YtfddkmkibfmmgaaDoor
