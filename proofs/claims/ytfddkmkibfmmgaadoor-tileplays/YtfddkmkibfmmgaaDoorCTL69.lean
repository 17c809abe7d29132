import Derived.Test.YtfddkmkibfmmgaaDoorCTL67
namespace Go.Proofs.YtfddkmkibfmmgaaDoor
open Go.RowKit
set_option maxRecDepth 100000 in
set_option maxHeartbeats 8000000 in
theorem plays_any (one two : Int) (v0 : Value) (N : Nat) (W : World) (h1 : -9223372036854775808 ≤ one ∧ one ≤ 9223372036854775807) (h2 : -9223372036854775808 ≤ two ∧ two ≤ 9223372036854775807) (hp : SlcO W v0 N) (hN : N ≤ 9223372036854775807) (Z : Tb W) :
    Calls Tryd.prog 6 #[.int .i64 one, .int .i64 two, v0] W fun r w' => r = .returned (.bool true) ∧ Below W.heap.size W w' := by
  have HZ := hid Z
  have hT := Z.lt
  obtain ⟨sa, sc, rfl, hp⟩ := hp
  have Hp := hid hp
  have p0 := pk_nonneg one 8 (by omega)
  have p1 := pk_lt one 8 (by omega)
  have p2 := pk_nonneg two 8 (by omega)
  have p3 := pk_lt two 8 (by omega)
  have i1 := fun w : World => pick_any one 8 h1.1 h1.2 (by omega) (by omega) w
  have i2 := fun w : World => pick_any two 8 h2.1 h2.2 (by omega) (by omega) w
  obtain ⟨ha, hh1⟩ : ∃ h : Nat, (h : Int) = 1 + pk one 8 := ⟨(1 + pk one 8).toNat, by omega⟩
  obtain ⟨hb, hh2⟩ : ∃ h : Nat, (h : Int) = 1 + pk two 8 := ⟨(1 + pk two 8).toNat, by omega⟩
  have s1 : IntKind.i64.wrap (1 + pk one 8) = (ha : Int) := by rw [wrap_small _ (by omega) (by omega)]; omega
  have s2 : IntKind.i64.wrap (1 + pk two 8) = (hb : Int) := by rw [wrap_small _ (by omega) (by omega)]; omega
  have n1 : Hid (∀ w : World, 4 ≤ w.heap.size → _) := fun w hw => tNew_any ha (by omega) (by omega) w hw
  have n2 : Hid (∀ w : World, 4 ≤ w.heap.size → _) := fun w hw => tNew_any hb (by omega) (by omega) w hw
  have m1 : Hid (∀ w : World, 4 ≤ w.heap.size → _) := fun w hw => rNew_any ha (by omega) (by omega) w hw
  have m2 : Hid (∀ w : World, 4 ≤ w.heap.size → _) := fun w hw => rNew_any hb (by omega) (by omega) w hw
  generalize pk one 8 = pa at *
  generalize pk two 8 = pb at *
  have hone : Hid ((∃ o : Nat, one = (o : Int) ∧ 1 ≤ o ∧ o ≤ 8) ∨ (one < 1 ∨ 8 < one)) := by
    by_cases e : 1 ≤ one ∧ one ≤ 8
    · exact .inl ⟨one.toNat, by omega, by omega, by omega⟩
    · exact .inr (by omega)
  clear p0 p1 p2 p3 hh1 hh2 h1 h2 Z hp
  go_enter Tryd.func6, Tryd.ntmps6
  go_wp2_with (go_at_call 7; fail)
  refine (tknown_any _ HZ.out).mono ?_
  rintro e w0 ⟨rfl, b0⟩
  have B0 := hid b0
  have t0 : 4 ≤ w0.heap.size := Nat.le_trans hT b0.size
  clear b0
  go_wp2_with (go_at_call 28; refine (i1 _).mono ?_; rintro e w0 ⟨rfl, h0⟩; have h0 := h0.symm; subst h0)
  go_wp2_with (go_at_call 27; fail)
  refine (n1.out _ t0).mono ?_
  rintro e w1 ⟨qa, Fa, rfl, x1, y1, b1⟩
  have TA := hid x1
  have NA := hid y1
  have BA := hid b1
  have t1 : 4 ≤ w1.heap.size := Nat.le_trans t0 b1.size
  clear x1 y1 b1
  go_wp2_with (go_at_call 28; refine (i2 _).mono ?_; rintro e w0 ⟨rfl, h0⟩; have h0 := h0.symm; subst h0)
  go_wp2_with (go_at_call 27; fail)
  refine (n2.out _ t1).mono ?_
  rintro e w2 ⟨qb, Fb', rfl, x1, y1, b1⟩
  have TB := hid x1
  have NB := hid y1
  have BB := hid b1
  have t2 : 4 ≤ w2.heap.size := Nat.le_trans t1 b1.size
  clear x1 y1 b1
  go_wp2_with (go_at_call 28; refine (i1 _).mono ?_; rintro e w0 ⟨rfl, h0⟩; have h0 := h0.symm; subst h0)
  go_wp2_with (go_at_call 29; fail)
  refine (m1.out _ t2).mono ?_
  rintro e w3 ⟨ya, Ga, rfl, x1, y1, b1⟩
  have RA := hid x1
  have MA := hid y1
  have CA := hid b1
  have t3 : 4 ≤ w3.heap.size := Nat.le_trans t2 b1.size
  clear x1 y1 b1
  go_wp2_with (go_at_call 28; refine (i2 _).mono ?_; rintro e w0 ⟨rfl, h0⟩; have h0 := h0.symm; subst h0)
  go_wp2_with (go_at_call 29; fail)
  refine (m2.out _ t3).mono ?_
  rintro e w4 ⟨yb, Gb, rfl, x1, y1, b1⟩
  have RB := hid x1
  have MB := hid y1
  have CB := hid b1
  have t4 : 4 ≤ w4.heap.size := Nat.le_trans t3 b1.size
  clear x1 y1 b1
  have ST : Hid (∀ w6, Below w4.heap.size w4 w6 → Gm W w6.heap.size qa (2 * 0) (40 * 0) (w6.alloc (.cells #[.pointer (some ⟨qa, 0, none⟩), .pointer (some ⟨qb, 0, none⟩), .pointer (some ⟨ya, 0, none⟩), .pointer (some ⟨yb, 0, none⟩), .slice none 0 0, .slice none 0 0, .slice none 0 0, .bool false] 66))) := fun w6 b6 => gm_start B0.out TA.out NA.out BA.out TB.out NB.out BB.out RA.out MA.out CA.out RB.out MB.out CB.out b6
  clear TA NA BA TB NB BB RA MA CA RB MB CB B0 i1 i2 n1 n2 m1 m2 s1 s2 t0 t1 t2 t3
  obtain ⟨M, hM⟩ : ∃ M, M = min N 60 := ⟨_, rfl⟩
  have hM60 : M ≤ 60 := by omega
  rcases hone.out with ⟨o, rfl, o1, o8⟩ | ob
  · have j1 := tNew_any o o1 o8 w4 t4
    have j2 := fun w' (hw : 4 ≤ w'.heap.size) => rNew_any o o1 o8 w' hw
    go_wp2_with (go_at_call 27; fail)
    refine j1.mono ?_
    rintro e w5 ⟨qc, Fc, rfl, _, _, b5⟩
    have j3 := j2 w5 (Nat.le_trans t4 b5.size)
    go_wp2_with (go_at_call 29; fail)
    refine j3.mono ?_
    rintro e w6 ⟨qd, Gd, rfl, _, _, b6⟩
    have B6 := hid (b5.trans (b6.mono b5.size))
    clear b5 b6 j1 j2 j3 o1 o8 t4
    have G0 := hid (ST.out w6 B6.out)
    clear ST B6
    go_wp2
    generalize w6.alloc (.cells #[.pointer (some ⟨qa, 0, none⟩), .pointer (some ⟨qb, 0, none⟩), .pointer (some ⟨ya, 0, none⟩), .pointer (some ⟨yb, 0, none⟩), .slice none 0 0, .slice none 0 0, .slice none 0 0, .bool false] 66) = w7 at *
    generalize w6.heap.size = X at *
    go_loopw [21] (fun i w' => ∃ k : Nat, k ≤ M ∧ i = .int .i64 (k : Int) ∧ Hid (Gm W X qa (2 * k) (40 * k) w')) (fun i _ => M - (intOf i).toNat)
    case atStart => exact ⟨0, by omega, rfl, G0⟩
    case round =>
      clear G0
      obtain ⟨k, hk, rfl, G⟩ := hrel
      by_cases hlt : k < M
      · have hlq : k < N := by omega
        have b0 : (k : Int) < (N : Int) := by omega
        have b1 : (k : Int) < 60 := by omega
        obtain ⟨x, oth, kp, kd, nn, mm, s, hx, hxb, c0, c1, c2, c3, c4, c5, k1, k2⟩ := Hp.out k hlq
        subst hx
        have PL := hid (G.out.play (by omega) (by omega) oth kp kd nn mm k1 k2 s HZ.out)
        have q0 : wr.cell? (x.add (k * 6)) = some (.bool oth) := (G.out.bl.cell (p := x.add (k * 6)) (by rw [addBlk]; exact hxb)).trans c0
        have q1 : wr.cell? ⟨(x.add (k * 6)).block, (x.add (k * 6)).off + 1, none⟩ = some (.bool kp) := by
          show wr.cell? ((x.add (k * 6)).add 1) = _
          rw [Go.Deep.add_add]; exact (G.out.bl.cell (p := x.add (k * 6 + 1)) (by rw [addBlk]; exact hxb)).trans c1
        have q2 : wr.cell? ⟨(x.add (k * 6)).block, (x.add (k * 6)).off + 2, none⟩ = some (.int .i64 kd) := by
          show wr.cell? ((x.add (k * 6)).add 2) = _
          rw [Go.Deep.add_add]; exact (G.out.bl.cell (p := x.add (k * 6 + 2)) (by rw [addBlk]; exact hxb)).trans c2
        have q3 : wr.cell? ⟨(x.add (k * 6)).block, (x.add (k * 6)).off + 3, none⟩ = some (.int .i64 nn) := by
          show wr.cell? ((x.add (k * 6)).add 3) = _
          rw [Go.Deep.add_add]; exact (G.out.bl.cell (p := x.add (k * 6 + 3)) (by rw [addBlk]; exact hxb)).trans c3
        have q4 : wr.cell? ⟨(x.add (k * 6)).block, (x.add (k * 6)).off + 4, none⟩ = some (.int .i64 mm) := by
          show wr.cell? ((x.add (k * 6)).add 4) = _
          rw [Go.Deep.add_add]; exact (G.out.bl.cell (p := x.add (k * 6 + 4)) (by rw [addBlk]; exact hxb)).trans c4
        have q5 : wr.cell? ⟨(x.add (k * 6)).block, (x.add (k * 6)).off + 5, none⟩ = some (.string ⟨s.toArray⟩) := by
          show wr.cell? ((x.add (k * 6)).add 5) = _
          rw [Go.Deep.add_add]; exact (G.out.bl.cell (p := x.add (k * 6 + 5)) (by rw [addBlk]; exact hxb)).trans c5
        clear c0 c1 c2 c3 c4 c5 k1 k2
        go_wp2_with (go_at_call 30; fail)
        refine PL.out.mono ?_
        rintro r w8 ⟨rfl, G8⟩
        have KP := hid (G8.out.kept (by omega))
        clear PL q0 q1 q2 q3 q4 q5
        go_wp2_with (go_at_call 31; fail)
        refine KP.out.mono ?_
        rintro r w9 ⟨rfl, G9⟩
        clear KP
        go_wp2
        exact ⟨⟨k + 1, by omega, by go_num, G9⟩, by simp [intOf]; omega⟩
      · obtain rfl : k = M := by omega
        obtain ⟨h, L, F, t⟩ := G.out.tree
        have ZT := HZ.out.below G.out.bl HZ.out.lt
        have i1 := tSizeL t
        obtain ⟨x, hx⟩ : ∃ x, Hid (tPartO L 0 (L.length : Int) = (x, 0)) := ⟨_, tPartO_all⟩
        have i2 := tRoot_any t (L.length : Int) ZT hx
        have i3 : Hid (∀ w', Below wr.heap.size wr w' → _) := fun w' hb => tPart_any (t.below hb) 0 (L.length : Int) (ZT.below hb ZT.lt) hx
        rw [show sv x = Value.string ⟨x.toArray⟩ from rfl] at i2
        generalize L.length = ln at *
        clear t hx ZT
        by_cases he2 : (k : Int) < (N : Int)
        · have he3 : ¬ (k : Int) < 60 := by omega
          go_wp2_with (go_at_call 10; refine i1.mono ?_; rintro r w8 ⟨rfl, hw8⟩; have hw8 := hw8.symm; subst hw8)
          go_wp2_with (go_at_call 14; fail)
          refine i2.mono ?_
          rintro r w8 ⟨rfl, b8⟩
          have i4 := i3.out w8 b8
          rw [show sv x = Value.string ⟨x.toArray⟩ from rfl] at i4
          have B8 := hid b8
          clear b8 i1 i2
          go_wp2_with (go_at_call 23; fail)
          refine i4.mono ?_
          rintro r w9 ⟨rfl, b9⟩
          have SE := hid (((G.out.below B8.out).below b9).settled (by omega))
          clear b9 i4
          go_wp2_with (go_at_call 32; fail)
          refine SE.out.mono ?_
          rintro r w10 ⟨rfl, b10⟩
          go_wp2
          go_ret
          exact ⟨rfl, b10.out⟩
        · have he3 := he2
          go_wp2_with (go_at_call 10; refine i1.mono ?_; rintro r w8 ⟨rfl, hw8⟩; have hw8 := hw8.symm; subst hw8)
          go_wp2_with (go_at_call 14; fail)
          refine i2.mono ?_
          rintro r w8 ⟨rfl, b8⟩
          have i4 := i3.out w8 b8
          rw [show sv x = Value.string ⟨x.toArray⟩ from rfl] at i4
          have B8 := hid b8
          clear b8 i1 i2
          go_wp2_with (go_at_call 23; fail)
          refine i4.mono ?_
          rintro r w9 ⟨rfl, b9⟩
          have SE := hid (((G.out.below B8.out).below b9).settled (by omega))
          clear b9 i4
          go_wp2_with (go_at_call 32; fail)
          refine SE.out.mono ?_
          rintro r w10 ⟨rfl, b10⟩
          go_wp2
          go_ret
          exact ⟨rfl, b10.out⟩
  · have j1 := tNew_bad one ob w4
    have j2 := rNew_bad one ob w4
    go_wp2_with (first
      | (go_at_call 27; refine j1.mono ?_; rintro r w8 ⟨rfl, hw8⟩; have hw8 := hw8.symm; subst hw8)
      | (go_at_call 29; refine j2.mono ?_; rintro r w8 ⟨rfl, hw8⟩; have hw8 := hw8.symm; subst hw8))
    obtain ⟨w6, hw6⟩ : ∃ w6, w4 = w6 := ⟨_, rfl⟩
    subst hw6
    have B6 := hid (Below.refl w4.heap.size w4)
    clear j1 j2 ob t4
    have G0 := hid (ST.out w4 B6.out)
    clear ST B6
    go_wp2
    generalize w4.alloc (.cells #[.pointer (some ⟨qa, 0, none⟩), .pointer (some ⟨qb, 0, none⟩), .pointer (some ⟨ya, 0, none⟩), .pointer (some ⟨yb, 0, none⟩), .slice none 0 0, .slice none 0 0, .slice none 0 0, .bool false] 66) = w7 at *
    generalize w4.heap.size = X at *
    go_loopw [21] (fun i w' => ∃ k : Nat, k ≤ M ∧ i = .int .i64 (k : Int) ∧ Hid (Gm W X qa (2 * k) (40 * k) w')) (fun i _ => M - (intOf i).toNat)
    case atStart => exact ⟨0, by omega, rfl, G0⟩
    case round =>
      clear G0
      obtain ⟨k, hk, rfl, G⟩ := hrel
      by_cases hlt : k < M
      · have hlq : k < N := by omega
        have b0 : (k : Int) < (N : Int) := by omega
        have b1 : (k : Int) < 60 := by omega
        obtain ⟨x, oth, kp, kd, nn, mm, s, hx, hxb, c0, c1, c2, c3, c4, c5, k1, k2⟩ := Hp.out k hlq
        subst hx
        have PL := hid (G.out.play (by omega) (by omega) oth kp kd nn mm k1 k2 s HZ.out)
        have q0 : wr.cell? (x.add (k * 6)) = some (.bool oth) := (G.out.bl.cell (p := x.add (k * 6)) (by rw [addBlk]; exact hxb)).trans c0
        have q1 : wr.cell? ⟨(x.add (k * 6)).block, (x.add (k * 6)).off + 1, none⟩ = some (.bool kp) := by
          show wr.cell? ((x.add (k * 6)).add 1) = _
          rw [Go.Deep.add_add]; exact (G.out.bl.cell (p := x.add (k * 6 + 1)) (by rw [addBlk]; exact hxb)).trans c1
        have q2 : wr.cell? ⟨(x.add (k * 6)).block, (x.add (k * 6)).off + 2, none⟩ = some (.int .i64 kd) := by
          show wr.cell? ((x.add (k * 6)).add 2) = _
          rw [Go.Deep.add_add]; exact (G.out.bl.cell (p := x.add (k * 6 + 2)) (by rw [addBlk]; exact hxb)).trans c2
        have q3 : wr.cell? ⟨(x.add (k * 6)).block, (x.add (k * 6)).off + 3, none⟩ = some (.int .i64 nn) := by
          show wr.cell? ((x.add (k * 6)).add 3) = _
          rw [Go.Deep.add_add]; exact (G.out.bl.cell (p := x.add (k * 6 + 3)) (by rw [addBlk]; exact hxb)).trans c3
        have q4 : wr.cell? ⟨(x.add (k * 6)).block, (x.add (k * 6)).off + 4, none⟩ = some (.int .i64 mm) := by
          show wr.cell? ((x.add (k * 6)).add 4) = _
          rw [Go.Deep.add_add]; exact (G.out.bl.cell (p := x.add (k * 6 + 4)) (by rw [addBlk]; exact hxb)).trans c4
        have q5 : wr.cell? ⟨(x.add (k * 6)).block, (x.add (k * 6)).off + 5, none⟩ = some (.string ⟨s.toArray⟩) := by
          show wr.cell? ((x.add (k * 6)).add 5) = _
          rw [Go.Deep.add_add]; exact (G.out.bl.cell (p := x.add (k * 6 + 5)) (by rw [addBlk]; exact hxb)).trans c5
        clear c0 c1 c2 c3 c4 c5 k1 k2
        go_wp2_with (go_at_call 30; fail)
        refine PL.out.mono ?_
        rintro r w8 ⟨rfl, G8⟩
        have KP := hid (G8.out.kept (by omega))
        clear PL q0 q1 q2 q3 q4 q5
        go_wp2_with (go_at_call 31; fail)
        refine KP.out.mono ?_
        rintro r w9 ⟨rfl, G9⟩
        clear KP
        go_wp2
        exact ⟨⟨k + 1, by omega, by go_num, G9⟩, by simp [intOf]; omega⟩
      · obtain rfl : k = M := by omega
        obtain ⟨h, L, F, t⟩ := G.out.tree
        have ZT := HZ.out.below G.out.bl HZ.out.lt
        have i1 := tSizeL t
        obtain ⟨x, hx⟩ : ∃ x, Hid (tPartO L 0 (L.length : Int) = (x, 0)) := ⟨_, tPartO_all⟩
        have i2 := tRoot_any t (L.length : Int) ZT hx
        have i3 : Hid (∀ w', Below wr.heap.size wr w' → _) := fun w' hb => tPart_any (t.below hb) 0 (L.length : Int) (ZT.below hb ZT.lt) hx
        rw [show sv x = Value.string ⟨x.toArray⟩ from rfl] at i2
        generalize L.length = ln at *
        clear t hx ZT
        by_cases he2 : (k : Int) < (N : Int)
        · have he3 : ¬ (k : Int) < 60 := by omega
          go_wp2_with (go_at_call 10; refine i1.mono ?_; rintro r w8 ⟨rfl, hw8⟩; have hw8 := hw8.symm; subst hw8)
          go_wp2_with (go_at_call 14; fail)
          refine i2.mono ?_
          rintro r w8 ⟨rfl, b8⟩
          have i4 := i3.out w8 b8
          rw [show sv x = Value.string ⟨x.toArray⟩ from rfl] at i4
          have B8 := hid b8
          clear b8 i1 i2
          go_wp2_with (go_at_call 23; fail)
          refine i4.mono ?_
          rintro r w9 ⟨rfl, b9⟩
          have SE := hid (((G.out.below B8.out).below b9).settled (by omega))
          clear b9 i4
          go_wp2_with (go_at_call 32; fail)
          refine SE.out.mono ?_
          rintro r w10 ⟨rfl, b10⟩
          go_wp2
          go_ret
          exact ⟨rfl, b10.out⟩
        · have he3 := he2
          go_wp2_with (go_at_call 10; refine i1.mono ?_; rintro r w8 ⟨rfl, hw8⟩; have hw8 := hw8.symm; subst hw8)
          go_wp2_with (go_at_call 14; fail)
          refine i2.mono ?_
          rintro r w8 ⟨rfl, b8⟩
          have i4 := i3.out w8 b8
          rw [show sv x = Value.string ⟨x.toArray⟩ from rfl] at i4
          have B8 := hid b8
          clear b8 i1 i2
          go_wp2_with (go_at_call 23; fail)
          refine i4.mono ?_
          rintro r w9 ⟨rfl, b9⟩
          have SE := hid (((G.out.below B8.out).below b9).settled (by omega))
          clear b9 i4
          go_wp2_with (go_at_call 32; fail)
          refine SE.out.mono ?_
          rintro r w10 ⟨rfl, b10⟩
          go_wp2
          go_ret
          exact ⟨rfl, b10.out⟩
end Go.Proofs.YtfddkmkibfmmgaaDoor
