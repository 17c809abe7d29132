import Derived.Test.YtipcpdoejkoadaaDoorY13
import Derived.Deep.SlicePairs
namespace Go.Proofs.YtipcpdoejkoadaaDoor
open Go.RowKit Cod

/-- a list of steps, wherever it lies -/
def SlcP (w : World) (v : Value) (n : Nat) : Prop :=
  ∃ (a : Option Addr) (cap : Nat), v = .slice a n cap ∧ ∀ j, j < n → ∃ (x : Addr) (o kp : Bool) (kd nn mm : Int) (s : ByteArray) (lv tv : Value), a = some x ∧ x.block < w.heap.size ∧ w.cell? (x.add (j * 8)) = some (.bool o) ∧ w.cell? (x.add (j * 8 + 1)) = some (.bool kp) ∧ w.cell? (x.add (j * 8 + 2)) = some (.int .i64 kd) ∧
    w.cell? (x.add (j * 8 + 3)) = some (.int .i64 nn) ∧ w.cell? (x.add (j * 8 + 4)) = some (.int .i64 mm) ∧ w.cell? (x.add (j * 8 + 5)) = some (.string s) ∧ w.cell? (x.add (j * 8 + 6)) = some lv ∧ w.cell? (x.add (j * 8 + 7)) = some tv ∧ OpOk w nn s lv tv
theorem sl_of {w : World} {v : Value} {l : List Int} (h : SlcI w v l) : ∃ a n c, v = .slice a n c := by
  obtain ⟨a, c, h, _⟩ := h; exact ⟨a, _, c, h⟩
theorem slT_of {w : World} {v : Value} {l : List (List UInt8)} (h : Slc w v l) : ∃ a n c, v = .slice a n c := by
  obtain ⟨a, c, h, _⟩ := h; exact ⟨a, _, c, h⟩
theorem law_start {W w1 w2 w3 w4 w5 w6 w7 : World} {B A WA XA A2 WC XC : Nat} (T : Lay W) (hB : W.heap.size = B) (b1 : Below B W w1) (e1 : w1.heap.size = WA)
    (h2 : Wri w2 WA WA (.slice none 0 0) (.ok [])) (b2 : Below WA w1 w2) (e2 : w2.heap.size = XA) (s2 : w2.heap.size = WA + 1)
    (h3 : RWr w3 XA [] 0) (b3 : Below XA w2 w3) (e3 : w3.heap.size = A) (s3 : w3.heap.size = XA + 1)
    (r4 : w4.heap[A]? = some (.cells #[.pointer (some ⟨WA, 0, none⟩), .pointer (some ⟨XA, 0, none⟩)] 61 (0, 0))) (b4 : Below A w3 w4) (e4 : w4.heap.size = WC) (s4 : w4.heap.size = A + 1)
    (h5 : Wri w5 WC WC (.slice none 0 0) (.ok [])) (b5 : Below WC w4 w5) (e5 : w5.heap.size = XC) (s5 : w5.heap.size = WC + 1)
    (h6 : RWr w6 XC [] 0) (b6 : Below XC w5 w6) (e6 : w6.heap.size = A2) (s6 : w6.heap.size = XC + 1)
    (r7 : w7.heap[A2]? = some (.cells #[.pointer (some ⟨WC, 0, none⟩), .pointer (some ⟨XC, 0, none⟩)] 61 (0, 0))) (b7 : Below A2 w6 w7) :
    Law W B A WA XA A2 WC XC w7 (.slice none 0 0) (.ok []) [] 0 (.slice none 0 0) (.ok []) [] 0 := by
  have hpos := T.lt
  have z1 := b1.size
  have c67 := b7
  have c57 : Below XC w5 w7 := b6.trans (b7.mono (by omega))
  have c47 : Below WC w4 w7 := b5.trans (c57.mono (by omega))
  have c37 : Below A w3 w7 := b4.trans (c47.mono (by omega))
  have c27 : Below XA w2 w7 := b3.trans (c37.mono (by omega))
  have c17 : Below WA w1 w7 := b2.trans (c27.mono (by omega))
  have cW : Below B W w7 := b1.trans (c17.mono (by omega))
  have z7 := c67.size
  have ps0 : ∀ (WB XB k : Nat), PS WB XB (.slice none 0 0) k → k = WB ∨ k = XB := fun WB XB k h => by
    rcases h with (h | h) | h
    · exact .inl h
    · cases h
    · exact .inr h
  refine ⟨⟨⟨by omega, (c27.block WA (by omega)).trans h2.2.1, Own.nil _ _, h2.2.2.2⟩, (c37.block XA (by omega)).trans h3, fun e => ?_, by omega, by omega, rfl, fun _ => rfl⟩,
    ⟨⟨by omega, (c57.block WC (by omega)).trans h5.2.1, Own.nil _ _, h5.2.2.2⟩, (b7.block XC (by omega)).trans h6, fun e => ?_, by omega, by omega, rfl, fun _ => rfl⟩,
    fun k hk hc => ?_, (c47.block A (by omega)).trans r4, r7, ⟨fun e => ?_, fun e => ?_, fun e => ?_, fun e => ?_⟩, cW, T.below cW (by omega), hB, by omega⟩
  · rcases ps0 WA XA XA (.inl e) with h | h
    · omega
    · rcases e with e | e
      · omega
      · cases e
  · rcases e with e | e
    · omega
    · cases e
  · rcases ps0 _ _ _ hk with h | h <;> rcases ps0 _ _ _ hc with h' | h' <;> omega
  · rcases ps0 _ _ _ e with h | h <;> omega
  · rcases ps0 _ _ _ e with h | h <;> omega
  · rcases ps0 _ _ _ e with h | h <;> omega
  · rcases ps0 _ _ _ e with h | h <;> omega

set_option maxRecDepth 100000 in
set_option maxHeartbeats 2000000 in
theorem writes_any (v0 : Value) (N : Nat) (hN : N ≤ 1048576) (W : World) (T : Lay W) (hp : SlcP W v0 N) :
    Calls Tryd.prog 8 #[v0] W fun r w' => r = .returned (.bool true) ∧ Below W.heap.size W w' := by
  have HT := hid T
  have hK := hid (known_any W T)
  obtain ⟨a, cap, rfl, hp⟩ := hp
  have Hp := hid hp
  clear hp T
  obtain ⟨M, hM⟩ : ∃ M, min N 200 = M := ⟨_, rfl⟩
  obtain ⟨B, hB⟩ : ∃ B, W.heap.size = B := ⟨_, rfl⟩
  go_enter Tryd.func8, Tryd.ntmps8
  go_wp2_with (first
    | (go_at_call 9; refine hK.out.mono ?_; rw [hB]; rintro z w1 ⟨rfl, k1⟩; have K1 := hid k1; clear k1)
    | (go_at_call 14; fail))
  go_at_call 14
  refine (newWriter_any w1).mono ?_
  obtain ⟨WA, e1⟩ : ∃ WA, w1.heap.size = WA := ⟨_, rfl⟩
  rw [e1]
  rintro z w2 ⟨rfl, h2, b2, s2⟩
  have H2 := hid h2
  have B2 := hid b2
  have S2 := hid s2
  clear h2 b2 s2
  go_wp2_with (go_at_call 36; fail)
  go_at_call 36
  refine (rnewWriter_any w2).mono ?_
  obtain ⟨XA, e2⟩ : ∃ XA, w2.heap.size = XA := ⟨_, rfl⟩
  rw [e2]
  rintro z w3 ⟨rfl, h3, b3, s3⟩
  have H3 := hid h3
  have B3 := hid b3
  have S3 := hid s3
  clear h3 b3 s3
  obtain ⟨A, e3⟩ : ∃ A, w3.heap.size = A := ⟨_, rfl⟩
  have R4 := hid (heap_alloc_at w3 (.cells #[.pointer (some ⟨WA, 0, none⟩), .pointer (some ⟨XA, 0, none⟩)] 61) A e3)
  have B4 := hid (show Below A w3 (w3.alloc (.cells #[.pointer (some ⟨WA, 0, none⟩), .pointer (some ⟨XA, 0, none⟩)] 61)) by rw [← e3]; exact (Below.refl _ _).alloc (Nat.le_refl _) _)
  have S4 := hid (show (w3.alloc (.cells #[.pointer (some ⟨WA, 0, none⟩), .pointer (some ⟨XA, 0, none⟩)] 61)).heap.size = A + 1 by rw [size_alloc, e3])
  go_wp2_with (go_at_call 14; fail)
  go_at_call 14
  obtain ⟨w4, hw4⟩ : ∃ w4, w3.alloc (.cells #[.pointer (some ⟨WA, 0, none⟩), .pointer (some ⟨XA, 0, none⟩)] 61) = w4 := ⟨_, rfl⟩
  rw [hw4] at R4 B4 S4
  rw [hw4]
  refine (newWriter_any w4).mono ?_
  obtain ⟨WC, e4⟩ : ∃ WC, w4.heap.size = WC := ⟨_, rfl⟩
  rw [e4]
  rintro z w5 ⟨rfl, h5, b5, s5⟩
  have H5 := hid h5
  have B5 := hid b5
  have S5 := hid s5
  clear h5 b5 s5
  go_wp2_with (go_at_call 36; fail)
  go_at_call 36
  refine (rnewWriter_any w5).mono ?_
  obtain ⟨XC, e5⟩ : ∃ XC, w5.heap.size = XC := ⟨_, rfl⟩
  rw [e5]
  rintro z w6 ⟨rfl, h6, b6, s6⟩
  have H6 := hid h6
  have B6 := hid b6
  have S6 := hid s6
  clear h6 b6 s6
  obtain ⟨A2, e6⟩ : ∃ A2, w6.heap.size = A2 := ⟨_, rfl⟩
  have L0 : Hid (Law W B A WA XA A2 WC XC (w6.alloc (.cells #[.pointer (some ⟨WC, 0, none⟩), .pointer (some ⟨XC, 0, none⟩)] 61)) (.slice none 0 0) (.ok []) [] 0 (.slice none 0 0) (.ok []) [] 0) :=
    hid (law_start HT.out hB K1.out e1 H2.out B2.out e2 S2.out H3.out B3.out e3 S3.out R4.out B4.out e4 S4.out H5.out B5.out e5 S5.out H6.out B6.out e6 S6.out (heap_alloc_at w6 _ A2 e6) (by rw [← e6]; exact (Below.refl _ _).alloc (Nat.le_refl _) _))
  have cA : (w6.alloc (.cells #[.pointer (some ⟨WC, 0, none⟩), .pointer (some ⟨XC, 0, none⟩)] 61)).cell? ⟨A, 0, none⟩ = some (.pointer (some ⟨WA, 0, none⟩)) := by rw [cell_of_row _ _ _ _ _ _ L0.out.rA]; rfl
  have cC : (w6.alloc (.cells #[.pointer (some ⟨WC, 0, none⟩), .pointer (some ⟨XC, 0, none⟩)] 61)).cell? ⟨A2, 0, none⟩ = some (.pointer (some ⟨WC, 0, none⟩)) := by rw [cell_of_row _ _ _ _ _ _ L0.out.rC]; rfl
  clear H2 B2 S2 H3 B3 S3 R4 B4 S4 H5 B5 S5 H6 B6 S6 hw4 K1 hK
  go_wp2
  go_loopw [6] (fun i w' => ∃ (k : Nat) (va : Value) (wa : WSt) (Sa : List UInt8) (Ea : Int) (vc : Value) (wc : WSt) (Sc : List UInt8) (Ec : Int), k ≤ M ∧ i = .int .i64 k ∧ Sa.length ≤ k * 60000000 ∧ Sc.length ≤ k * 60000000 ∧ Hid (Law W B A WA XA A2 WC XC w' va wa Sa Ea vc wc Sc Ec)) (fun i _ => M - (intOf i).toNat)
  case atStart => exact ⟨0, _, _, [], 0, _, _, [], 0, by omega, rfl, by simp, by simp, L0⟩
  case round =>
    obtain ⟨k, va, wa, Sa, Ea, vc, wc, Sc, Ec, hk, rfl, hSa, hSc, L⟩ := hrel
    clear L0 cA cC
    have a0 : wr.cell? ⟨A, 0, none⟩ = some (.pointer (some ⟨WA, 0, none⟩)) := by rw [cell_of_row _ _ _ _ _ _ L.out.rA]; rfl
    have a1 : wr.cell? ⟨A, 1, none⟩ = some (.pointer (some ⟨XA, 0, none⟩)) := by rw [cell_of_row _ _ _ _ _ _ L.out.rA]; rfl
    by_cases hlt : k < M
    · have hlq : k < N := by omega
      have b0 : (k : Int) < (N : Int) := by omega
      have b1 : (k : Int) < 200 := by omega
      obtain ⟨x, o, kp, kd, nn, mm, s, lv, tv, hx, hxb, c0, c1, c2, c3, c4, c5, c6, c7, ok⟩ := Hp.out k hlq
      subst hx
      have Lp := hid (L.out.below (w2 := wr.alloc (.cells #[.pointer (some ⟨WA, 0, none⟩), .pointer (some ⟨XA, 0, none⟩)] 61)) ((Below.refl _ _).alloc (Nat.le_refl _) _))
      have q0 : (wr.alloc (.cells #[.pointer (some ⟨WA, 0, none⟩), .pointer (some ⟨XA, 0, none⟩)] 61)).cell? (x.add (k * 8)) = some (.bool o) := (Lp.out.bl.cell (p := x.add (k * 8)) (by rw [add_block, ← hB]; exact hxb)).trans c0
      have q1 : (wr.alloc (.cells #[.pointer (some ⟨WA, 0, none⟩), .pointer (some ⟨XA, 0, none⟩)] 61)).cell? ⟨(x.add (k * 8)).block, (x.add (k * 8)).off + 1, none⟩ = some (.bool kp) := by
        show (wr.alloc (.cells #[.pointer (some ⟨WA, 0, none⟩), .pointer (some ⟨XA, 0, none⟩)] 61)).cell? ((x.add (k * 8)).add 1) = _
        rw [Go.Deep.add_add]; exact (Lp.out.bl.cell (p := x.add (k * 8 + 1)) (by rw [add_block, ← hB]; exact hxb)).trans c1
      have q2 : (wr.alloc (.cells #[.pointer (some ⟨WA, 0, none⟩), .pointer (some ⟨XA, 0, none⟩)] 61)).cell? ⟨(x.add (k * 8)).block, (x.add (k * 8)).off + 2, none⟩ = some (.int .i64 kd) := by
        show (wr.alloc (.cells #[.pointer (some ⟨WA, 0, none⟩), .pointer (some ⟨XA, 0, none⟩)] 61)).cell? ((x.add (k * 8)).add 2) = _
        rw [Go.Deep.add_add]; exact (Lp.out.bl.cell (p := x.add (k * 8 + 2)) (by rw [add_block, ← hB]; exact hxb)).trans c2
      have q3 : (wr.alloc (.cells #[.pointer (some ⟨WA, 0, none⟩), .pointer (some ⟨XA, 0, none⟩)] 61)).cell? ⟨(x.add (k * 8)).block, (x.add (k * 8)).off + 3, none⟩ = some (.int .i64 nn) := by
        show (wr.alloc (.cells #[.pointer (some ⟨WA, 0, none⟩), .pointer (some ⟨XA, 0, none⟩)] 61)).cell? ((x.add (k * 8)).add 3) = _
        rw [Go.Deep.add_add]; exact (Lp.out.bl.cell (p := x.add (k * 8 + 3)) (by rw [add_block, ← hB]; exact hxb)).trans c3
      have q4 : (wr.alloc (.cells #[.pointer (some ⟨WA, 0, none⟩), .pointer (some ⟨XA, 0, none⟩)] 61)).cell? ⟨(x.add (k * 8)).block, (x.add (k * 8)).off + 4, none⟩ = some (.int .i64 mm) := by
        show (wr.alloc (.cells #[.pointer (some ⟨WA, 0, none⟩), .pointer (some ⟨XA, 0, none⟩)] 61)).cell? ((x.add (k * 8)).add 4) = _
        rw [Go.Deep.add_add]; exact (Lp.out.bl.cell (p := x.add (k * 8 + 4)) (by rw [add_block, ← hB]; exact hxb)).trans c4
      have q5 : (wr.alloc (.cells #[.pointer (some ⟨WA, 0, none⟩), .pointer (some ⟨XA, 0, none⟩)] 61)).cell? ⟨(x.add (k * 8)).block, (x.add (k * 8)).off + 5, none⟩ = some (.string s) := by
        show (wr.alloc (.cells #[.pointer (some ⟨WA, 0, none⟩), .pointer (some ⟨XA, 0, none⟩)] 61)).cell? ((x.add (k * 8)).add 5) = _
        rw [Go.Deep.add_add]; exact (Lp.out.bl.cell (p := x.add (k * 8 + 5)) (by rw [add_block, ← hB]; exact hxb)).trans c5
      have q6 : (wr.alloc (.cells #[.pointer (some ⟨WA, 0, none⟩), .pointer (some ⟨XA, 0, none⟩)] 61)).cell? ⟨(x.add (k * 8)).block, (x.add (k * 8)).off + 6, none⟩ = some (lv) := by
        show (wr.alloc (.cells #[.pointer (some ⟨WA, 0, none⟩), .pointer (some ⟨XA, 0, none⟩)] 61)).cell? ((x.add (k * 8)).add 6) = _
        rw [Go.Deep.add_add]; exact (Lp.out.bl.cell (p := x.add (k * 8 + 6)) (by rw [add_block, ← hB]; exact hxb)).trans c6
      have q7 : (wr.alloc (.cells #[.pointer (some ⟨WA, 0, none⟩), .pointer (some ⟨XA, 0, none⟩)] 61)).cell? ⟨(x.add (k * 8)).block, (x.add (k * 8)).off + 7, none⟩ = some (tv) := by
        show (wr.alloc (.cells #[.pointer (some ⟨WA, 0, none⟩), .pointer (some ⟨XA, 0, none⟩)] 61)).cell? ((x.add (k * 8)).add 7) = _
        rw [Go.Deep.add_add]; exact (Lp.out.bl.cell (p := x.add (k * 8 + 7)) (by rw [add_block, ← hB]; exact hxb)).trans c7
      obtain ⟨la, ln, lc, hlv⟩ := sl_of ok.hl.choose_spec.1
      obtain ⟨ta, tn, tc, htv⟩ := slT_of ok.ht.choose_spec.1
      have OK := hid ok
      subst hlv htv
      clear ok
      cases o with
      | false =>
        clear c0 c1 c2 c3 c4 c5 c6 c7
        have p0 : (wr.alloc (.cells #[.pointer (some ⟨WA, 0, none⟩), .pointer (some ⟨XA, 0, none⟩)] 61)).cell? ⟨wr.heap.size, 0, none⟩ = some (.pointer (some ⟨WA, 0, none⟩)) := by rw [cell_of_row _ _ _ _ _ _ (heap_alloc_new wr _)]; rfl
        have p1 : (wr.alloc (.cells #[.pointer (some ⟨WA, 0, none⟩), .pointer (some ⟨XA, 0, none⟩)] 61)).cell? ⟨wr.heap.size, 1, none⟩ = some (.pointer (some ⟨XA, 0, none⟩)) := by rw [cell_of_row _ _ _ _ _ _ (heap_alloc_new wr _)]; rfl
        have Lpd := hid (Lp.out.below (w2 := (wr.alloc (.cells #[.pointer (some ⟨WA, 0, none⟩), .pointer (some ⟨XA, 0, none⟩)] 61)).drew) (Below.refl _ _).drew)
        have HST := hid (step_any W B WA XA Lp.out.pos hB va wa Sa Ea false kp kd nn mm s _ _ _ Lpd.out.bl OK.out Lpd.out.lay Lpd.out.ta (by omega))
        go_wp2
        go_region_with ((go_at_call 37; refine HST.out.mono ?_; intro z w8 h8; have P8 := hid h8.2; obtain rfl := h8.1; clear h8))
        all_goals go_wp2
        all_goals (obtain ⟨v8, ws8, S8, E8, t8, k8, f8, l8⟩ := P8.out; exact ⟨⟨k + 1, v8, ws8, S8, E8, vc, wc, Sc, Ec, by omega, by go_num, by omega, Nat.le_trans hSc (Nat.mul_le_mul_right _ (Nat.le_succ k)), hid (Lpd.out.stepA t8 k8 f8)⟩, by simp [intOf]; omega⟩)
      | true =>
        have d0 : (wr.alloc (.cells #[.pointer (some ⟨WA, 0, none⟩), .pointer (some ⟨XA, 0, none⟩)] 61)).cell? ⟨A2, 0, none⟩ = some (.pointer (some ⟨WC, 0, none⟩)) := by rw [cell_of_row _ _ _ _ _ _ Lp.out.rC]; rfl
        have d1 : (wr.alloc (.cells #[.pointer (some ⟨WA, 0, none⟩), .pointer (some ⟨XA, 0, none⟩)] 61)).cell? ⟨A2, 1, none⟩ = some (.pointer (some ⟨XC, 0, none⟩)) := by rw [cell_of_row _ _ _ _ _ _ Lp.out.rC]; rfl
        have Lq := hid (L.out.below (w2 := wr.alloc (.cells #[.pointer (some ⟨WC, 0, none⟩), .pointer (some ⟨XC, 0, none⟩)] 61)) ((Below.refl _ _).alloc (Nat.le_refl _) _))
        have r0 : (wr.alloc (.cells #[.pointer (some ⟨WC, 0, none⟩), .pointer (some ⟨XC, 0, none⟩)] 61)).cell? ⟨wr.heap.size, 0, none⟩ = some (.pointer (some ⟨WC, 0, none⟩)) := by rw [cell_of_row _ _ _ _ _ _ (heap_alloc_new wr _)]; rfl
        have r1 : (wr.alloc (.cells #[.pointer (some ⟨WC, 0, none⟩), .pointer (some ⟨XC, 0, none⟩)] 61)).cell? ⟨wr.heap.size, 1, none⟩ = some (.pointer (some ⟨XC, 0, none⟩)) := by rw [cell_of_row _ _ _ _ _ _ (heap_alloc_new wr _)]; rfl
        have Lqd := hid (Lq.out.below (w2 := (wr.alloc (.cells #[.pointer (some ⟨WC, 0, none⟩), .pointer (some ⟨XC, 0, none⟩)] 61)).drew) (Below.refl _ _).drew)
        have HST := hid (step_any W B WC XC Lq.out.pos hB vc wc Sc Ec true kp kd nn mm s _ _ _ Lqd.out.bl OK.out Lqd.out.lay Lqd.out.tc (by omega))
        have q0c : (wr.alloc (.cells #[.pointer (some ⟨WC, 0, none⟩), .pointer (some ⟨XC, 0, none⟩)] 61)).cell? (x.add (k * 8)) = some (.bool true) := (Lq.out.bl.cell (p := x.add (k * 8)) (by rw [add_block, ← hB]; exact hxb)).trans c0
        have q1c : (wr.alloc (.cells #[.pointer (some ⟨WC, 0, none⟩), .pointer (some ⟨XC, 0, none⟩)] 61)).cell? ⟨(x.add (k * 8)).block, (x.add (k * 8)).off + 1, none⟩ = some (.bool kp) := by
          show (wr.alloc (.cells #[.pointer (some ⟨WC, 0, none⟩), .pointer (some ⟨XC, 0, none⟩)] 61)).cell? ((x.add (k * 8)).add 1) = _
          rw [Go.Deep.add_add]; exact (Lq.out.bl.cell (p := x.add (k * 8 + 1)) (by rw [add_block, ← hB]; exact hxb)).trans c1
        have q2c : (wr.alloc (.cells #[.pointer (some ⟨WC, 0, none⟩), .pointer (some ⟨XC, 0, none⟩)] 61)).cell? ⟨(x.add (k * 8)).block, (x.add (k * 8)).off + 2, none⟩ = some (.int .i64 kd) := by
          show (wr.alloc (.cells #[.pointer (some ⟨WC, 0, none⟩), .pointer (some ⟨XC, 0, none⟩)] 61)).cell? ((x.add (k * 8)).add 2) = _
          rw [Go.Deep.add_add]; exact (Lq.out.bl.cell (p := x.add (k * 8 + 2)) (by rw [add_block, ← hB]; exact hxb)).trans c2
        have q3c : (wr.alloc (.cells #[.pointer (some ⟨WC, 0, none⟩), .pointer (some ⟨XC, 0, none⟩)] 61)).cell? ⟨(x.add (k * 8)).block, (x.add (k * 8)).off + 3, none⟩ = some (.int .i64 nn) := by
          show (wr.alloc (.cells #[.pointer (some ⟨WC, 0, none⟩), .pointer (some ⟨XC, 0, none⟩)] 61)).cell? ((x.add (k * 8)).add 3) = _
          rw [Go.Deep.add_add]; exact (Lq.out.bl.cell (p := x.add (k * 8 + 3)) (by rw [add_block, ← hB]; exact hxb)).trans c3
        have q4c : (wr.alloc (.cells #[.pointer (some ⟨WC, 0, none⟩), .pointer (some ⟨XC, 0, none⟩)] 61)).cell? ⟨(x.add (k * 8)).block, (x.add (k * 8)).off + 4, none⟩ = some (.int .i64 mm) := by
          show (wr.alloc (.cells #[.pointer (some ⟨WC, 0, none⟩), .pointer (some ⟨XC, 0, none⟩)] 61)).cell? ((x.add (k * 8)).add 4) = _
          rw [Go.Deep.add_add]; exact (Lq.out.bl.cell (p := x.add (k * 8 + 4)) (by rw [add_block, ← hB]; exact hxb)).trans c4
        have q5c : (wr.alloc (.cells #[.pointer (some ⟨WC, 0, none⟩), .pointer (some ⟨XC, 0, none⟩)] 61)).cell? ⟨(x.add (k * 8)).block, (x.add (k * 8)).off + 5, none⟩ = some (.string s) := by
          show (wr.alloc (.cells #[.pointer (some ⟨WC, 0, none⟩), .pointer (some ⟨XC, 0, none⟩)] 61)).cell? ((x.add (k * 8)).add 5) = _
          rw [Go.Deep.add_add]; exact (Lq.out.bl.cell (p := x.add (k * 8 + 5)) (by rw [add_block, ← hB]; exact hxb)).trans c5
        have q6c : (wr.alloc (.cells #[.pointer (some ⟨WC, 0, none⟩), .pointer (some ⟨XC, 0, none⟩)] 61)).cell? ⟨(x.add (k * 8)).block, (x.add (k * 8)).off + 6, none⟩ = some (.slice la ln lc) := by
          show (wr.alloc (.cells #[.pointer (some ⟨WC, 0, none⟩), .pointer (some ⟨XC, 0, none⟩)] 61)).cell? ((x.add (k * 8)).add 6) = _
          rw [Go.Deep.add_add]; exact (Lq.out.bl.cell (p := x.add (k * 8 + 6)) (by rw [add_block, ← hB]; exact hxb)).trans c6
        have q7c : (wr.alloc (.cells #[.pointer (some ⟨WC, 0, none⟩), .pointer (some ⟨XC, 0, none⟩)] 61)).cell? ⟨(x.add (k * 8)).block, (x.add (k * 8)).off + 7, none⟩ = some (.slice ta tn tc) := by
          show (wr.alloc (.cells #[.pointer (some ⟨WC, 0, none⟩), .pointer (some ⟨XC, 0, none⟩)] 61)).cell? ((x.add (k * 8)).add 7) = _
          rw [Go.Deep.add_add]; exact (Lq.out.bl.cell (p := x.add (k * 8 + 7)) (by rw [add_block, ← hB]; exact hxb)).trans c7
        clear c0 c1 c2 c3 c4 c5 c6 c7
        go_wp2
        go_region_with ((go_at_call 37; refine HST.out.mono ?_; intro z w8 h8; have P8 := hid h8.2; obtain rfl := h8.1; clear h8))
        all_goals go_wp2
        all_goals (obtain ⟨v8, ws8, S8, E8, t8, k8, f8, l8⟩ := P8.out; exact ⟨⟨k + 1, va, wa, Sa, Ea, v8, ws8, S8, E8, by omega, by go_num, Nat.le_trans hSa (Nat.mul_le_mul_right _ (Nat.le_succ k)), by omega, hid (Lqd.out.stepC t8 k8 f8)⟩, by simp [intOf]; omega⟩)
    · obtain rfl : k = M := by omega
      obtain ⟨tb, htb⟩ : ∃ tb, Hid (sv (if Ea = 0 then Sa else []) = .string tb) := ⟨_, rfl⟩
      have yt : (tb.toList == tb.toList) = true := by simp
      have ye : (Ea == Ea) = true := by simp
      by_cases he2 : ¬ (k : Int) < (N : Int)
      · go_wp2_with (go_at_call 31; fail)
        go_at_call 31
        refine (wDone_any B WA _ _ wr L.out.lay L.out.ta.wri).mono ?_
        rw [← rel_text L.out.ta.rel, ← L.out.ta.rel.1, htb.out]
        rintro z we ⟨rfl, q1⟩
        have Le := hid (L.out.below q1)
        have a1e : we.cell? ⟨A, 1, none⟩ = some (.pointer (some ⟨XA, 0, none⟩)) := by rw [cell_of_row _ _ _ _ _ _ Le.out.rA]; rfl
        clear q1
        go_wp2_with (go_at_call 38; fail)
        go_at_call 38
        refine (xDone_any XA _ _ we Le.out.ta.rw).mono ?_
        rw [htb.out]
        rintro z wf ⟨rfl, q2⟩
        have Lf := hid (Le.out.below q2)
        clear q2
        go_wp2
        go_ret
        exact ⟨rfl, by first | exact Lf.out.bl | (rw [hB]; exact Lf.out.bl)⟩
      · have he3 : (k : Int) < (N : Int) := by omega
        have he' : ¬ (k : Int) < 200 := by omega
        go_wp2_with (go_at_call 31; fail)
        go_at_call 31
        refine (wDone_any B WA _ _ wr L.out.lay L.out.ta.wri).mono ?_
        rw [← rel_text L.out.ta.rel, ← L.out.ta.rel.1, htb.out]
        rintro z we ⟨rfl, q1⟩
        have Le := hid (L.out.below q1)
        have a1e : we.cell? ⟨A, 1, none⟩ = some (.pointer (some ⟨XA, 0, none⟩)) := by rw [cell_of_row _ _ _ _ _ _ Le.out.rA]; rfl
        clear q1
        go_wp2_with (go_at_call 38; fail)
        go_at_call 38
        refine (xDone_any XA _ _ we Le.out.ta.rw).mono ?_
        rw [htb.out]
        rintro z wf ⟨rfl, q2⟩
        have Lf := hid (Le.out.below q2)
        clear q2
        go_wp2
        go_ret
        exact ⟨rfl, by first | exact Lf.out.bl | (rw [hB]; exact Lf.out.bl)⟩
end Go.Proofs.YtipcpdoejkoadaaDoor
