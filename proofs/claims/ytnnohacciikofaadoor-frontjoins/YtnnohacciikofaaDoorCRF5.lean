import Derived.Deep.DeepCutAuto
import Derived.Test.YtnnohacciikofaaDoorCFN8
namespace Go.Proofs.YtnnohacciikofaaDoor
open Go.RowKit
/-- append(v, l...) where l lies anywhere -/
theorem append_lat (w : World) (base : Nat) (v : Value) (L M : List (List UInt8)) (a : Option Addr) (cap : Nat) (hown : Own w base v (svs L)) (hA : At w a M) (hlen : L.length + M.length ≤ 2000000) (hbase : base ≤ w.heap.size) :
    ∃ v' w', (Builtin.append_ #[24, 24] 24 #[v, .slice a M.length cap]).run Tryd.prog w = .ok v' w' ∧ Own w' base v' (svs (L ++ M)) ∧ Below base w w' := by
  obtain ⟨i0, hi, hz0, hz1, hz2⟩ := info_parts infoS
  have hsrc : Src Tryd.prog 1 24 (.slice a M.length cap) M.length (svs M) w := by
    cases a with
    | none =>
      have hM : M = [] := by
        cases M with
        | nil => rfl
        | cons x M => obtain ⟨y, hy, _⟩ := hA 0 x rfl; cases hy
      subst hM
      exact Src.ofNil w Tryd.underlying24 cap
    | some x =>
      refine Src.ofSlice w Tryd.underlying24 x M.length cap (svs M) (by rw [svs_length, Nat.mul_one]) (fun j u hj => ?_) (fun u hu => svs_one' hu)
      simp only [svs, List.getElem?_map, Option.map_eq_some_iff] at hj
      obtain ⟨p, hp, rfl⟩ := hj
      obtain ⟨y, hy, _, hc⟩ := hA j p hp
      obtain rfl := Option.some.inj hy
      exact hc
  by_cases hz : v = .slice none 0 0 ∧ M.length = 0
  · obtain ⟨rfl, hm0⟩ := hz
    obtain rfl : M = [] := List.length_eq_zero_iff.1 hm0
    have hL : L = [] := by
      rcases hown with ⟨_, h⟩ | ⟨g, c, h, _⟩
      · exact List.map_eq_nil_iff.1 h
      · cases h
    subst hL
    exact ⟨_, w, append_zero w _ hsrc, Own.nil _ _, Below.refl _ _⟩
  · obtain ⟨v', w', h1, h2, h3, _⟩ := run_append_O (P := Tryd.prog) w base 24 24 24 9 i0 (.string ⟨#[]⟩) Tryd.underlying24 hi hz0 hz1 rfl v (svs L) hown _ M.length (svs M) hsrc
      (by rw [svs_length, hz2]; omega) (by rw [svs_length, maxLen]; omega) hbase (fun e => by
        rcases Nat.eq_zero_or_pos M.length with h | h
        · exact absurd ⟨e, h⟩ hz
        · exact h)
    exact ⟨v', w', h1, by simpa [svs] using h2, Below.ofGrown h3 hown.ge hbase⟩
/-- a range's variable, while its list grows -/
structure Jl (w9 w' : World) (g : Nat) (b e : Int) (vh : Value) (L : List (List UInt8)) : Prop where
  rg : Rg w' g b e vh
  own : Own w' w9.heap.size vh (svs L)
  keep : Keep (fun k => k = g ∨ w9.heap.size ≤ k) w9 w'
theorem Jl.below {w9 w1 w2 : World} {g : Nat} {b e : Int} {vh : Value} {L : List (List UInt8)} (h : Jl w9 w1 g b e vh L) (hb : Below w1.heap.size w1 w2) : Jl w9 w2 g b e vh L :=
  ⟨h.rg.below hb, h.own.below hb (Nat.le_refl _), h.keep.trans (Keep.ofBelow (S := fun k => k = g ∨ w9.heap.size ≤ k) hb) fun _ _ e => e⟩
theorem Jl.drew {w9 w1 : World} {g : Nat} {b e : Int} {vh : Value} {L : List (List UInt8)} (h : Jl w9 w1 g b e vh L) : Jl w9 w1.drew g b e vh L :=
  ⟨h.rg, h.own.drew, ⟨h.keep.os, h.keep.tape, h.keep.output, h.keep.size, h.keep.block⟩⟩
theorem Jl.push {w9 w1 w2 : World} {g : Nat} {b e : Int} {vh v' : Value} {L L' : List (List UInt8)} (h : Jl w9 w1 g b e vh L) (hg : g < w9.heap.size) (ho : Own w2 w9.heap.size v' (svs L')) (hb : Below w9.heap.size w1 w2) :
    w2.frozen? ⟨g, 2, none⟩ = false ∧ w2.cell? ⟨g, 2, none⟩ = some vh ∧ Jl w9 (w2.setCell ⟨g, 2, none⟩ v') g b e v' L' := by
  have hr : w2.heap[g]? = some (.cells #[.int .i64 b, .int .i64 e, vh] 28 (0, 0)) := (hb.block g hg).trans h.rg
  refine ⟨frozen_of_row _ _ _ _ _ hr, by rw [cell_of_row w2 g 2 _ _ _ hr]; rfl, heap_setCell_same w2 g 2 _ _ v' hr, ?_, ?_⟩
  · refine ho.keep (Keep.ofSet (S := fun k => k = g) w2 g 2 v' rfl) fun k hk e => ?_
    have := ho.ge k hk
    omega
  · have k1 : Keep (fun k => w9.heap.size ≤ k) w1 w2 := ⟨hb.os, hb.tape, hb.output, hb.size, fun k _ hn => hb.block k (by omega)⟩
    exact (h.keep.trans k1 fun _ _ e => .inr e).trans (Keep.ofSet (S := fun k => k = g) w2 g 2 v' rfl) fun _ _ e => .inl e
theorem At.keep {S : Nat → Prop} {w w' : World} {a : Option Addr} {l : List (List UInt8)} (h : At w a l) (hk : Keep S w w') (hne : ∀ x, a = some x → ¬ S x.block) : At w' a l := fun j p hp => by
  obtain ⟨x, rfl, hx, hc⟩ := h j p hp
  refine ⟨x, rfl, Nat.lt_of_lt_of_le hx hk.size, ?_⟩
  rw [← hc]
  exact World.cell?_of_block (w := w) (by rw [addr_block]; exact hk.block x.block hx (hne x rfl))
theorem own_block {w : World} {base : Nat} {a : Option Addr} {n c : Nat} {cs : List Value} (h : Own w base (.slice a n c) cs) {x : Addr} (hx : a = some x) : x.block < w.heap.size ∧ base ≤ x.block := by
  rcases h with ⟨h, _⟩ | ⟨g, cap, h, h1, _, _, _, _, h6⟩
  · injection h with h; rw [h] at hx; cases hx
  · injection h with h; rw [h] at hx; obtain rfl := Option.some.inj hx; exact ⟨h6, h1⟩
set_option maxRecDepth 100000 in
set_option maxHeartbeats 8000000 in
theorem rJoin_any (b1 e1 b2 e2 : Int) (H1 H2 : List (List UInt8)) (a1 a2 : Option Addr) (k1 k2 : Nat) (w : World) (hl1 : H1.length ≤ 9223372036854775807) (hl2 : H2.length ≤ 9223372036854775807) (hA1 : At w a1 H1) (hA2 : At w a2 H2) :
    Calls Tryd.prog 62 #[rng b1 e1 (.slice a1 H1.length k1), rng b2 e2 (.slice a2 H2.length k2)] w (RgP w (joinE b1 e1 b2 e2 H1 H2) b1 e2 (Cut.joinH b1.toNat e1.toNat e2.toNat H1 H2)) := by
  obtain ⟨w0, hw0⟩ : ∃ w0, ((w.alloc (.cells #[Value.int .i64 b1, .int .i64 e1, .slice a1 H1.length k1] 28)).alloc (.cells #[Value.int .i64 b2, .int .i64 e2, .slice a2 H2.length k2] 28)).alloc (.cells #[Value.int .i64 0, .int .i64 0, .slice none 0 0] 28) = w0 := ⟨_, rfl⟩
  obtain ⟨r0, r1, r2, r3⟩ := alloc3 w (.cells #[Value.int .i64 b1, .int .i64 e1, .slice a1 H1.length k1] 28) (.cells #[Value.int .i64 b2, .int .i64 e2, .slice a2 H2.length k2] 28) (.cells #[Value.int .i64 0, .int .i64 0, .slice none 0 0] 28)
  have B0 := below_alloc3 w (.cells #[Value.int .i64 b1, .int .i64 e1, .slice a1 H1.length k1] 28) (.cells #[Value.int .i64 b2, .int .i64 e2, .slice a2 H2.length k2] 28) (.cells #[Value.int .i64 0, .int .i64 0, .slice none 0 0] 28)
  rw [hw0] at r0 r1 r2 r3 B0
  have HW0 := hid hw0
  have RA : Hid (Rg w0 w.heap.size b1 e1 (.slice a1 H1.length k1)) := r0
  have RB : Hid (Rg w0 (w.heap.size + 1) b2 e2 (.slice a2 H2.length k2)) := r1
  have RR : Hid (Rg w0 (w.heap.size + 2) 0 0 (.slice none 0 0)) := r2
  have HB0 := hid B0
  have A1 := hid (hA1.below B0 (Nat.le_refl _))
  have A2 := hid (hA2.below B0 (Nat.le_refl _))
  have hsz := hid r3
  have p0 := RA.out.c0
  have p1 := RA.out.c1
  have p2 := RA.out.c2
  have q0 := RB.out.c0
  have q1 := RB.out.c1
  have q2 := RB.out.c2
  have i1 := fun w' => rwrong_any b1 e1 a1 H1.length k1 w'
  have i2 := fun w' => rwrong_any b2 e2 a2 H2.length k2 w'
  obtain ⟨E, hE⟩ : ∃ E, Hid (joinE b1 e1 b2 e2 H1 H2 = E) := ⟨_, rfl⟩
  rw [hE.out]
  clear r0 r1 r2 r3 B0 hA1 hA2 hw0
  cases hr1 : rgt b1 e1 H1.length with
  | false =>
    rw [hr1] at i1
    have e0 := hid (show E = 50 by rw [← hE.out]; unfold joinE; rw [if_neg (by rw [hr1]; simp)])
    clear hr1 hE A1 A2 p0 p1 p2 q0 q1 q2
    generalize H1.length = n1 at *
    generalize H2.length = n2 at *
    go_enter Tryd.func62, Tryd.ntmps62
    go_wp2_with (go_at_call 72; fail)
    rw [HW0.out]
    refine (i1 _).mono ?_
    rintro r w1 ⟨rfl, hw1⟩
    have RB1 := RB.out.below hw1
    have q0 := RB1.c0
    have q1 := RB1.c1
    have q2 := RB1.c2
    have RA1 := RA.out.below hw1
    have p0 := RA1.c0
    have p1 := RA1.c1
    have p2 := RA1.c2
    have RR1 := hid (RR.out.below hw1)
    have B1 := hid (HB0.out.trans (hw1.mono HB0.out.size))
    go_wp2_with ((with_reducible show wpList _ _ _ (Oper.mk _ (Op.store 28 _ _) _ _ _ _ :: _) _ _); go_must (refine wpList_store_row rfl 28 _ _ rfl (w.heap.size + 2) _ rfl rfl 28 _ RR1.out.row (sizeRg' _ _ _) rfl (oneRg _ _ _ _ _) ?_))
    refine bodyPost_ret (results_row_tmp rfl _ _ (w.heap.size + 2) 28 _ (0, 0) _ rfl (setRow_heap _ _ _ _ _ _ RR1.out.row) Tryd.underlying28 rfl sizeRg) rfl ?_
    rw [e0.out]
    exact RgP.bad (by omega) (Below.setRow B1.out (by omega) _)
  | true =>
    rw [hr1] at i1
    cases hr2 : rgt b2 e2 H2.length with
    | false =>
      rw [hr2] at i2
      have e0 := hid (show E = 50 by rw [← hE.out]; unfold joinE; rw [if_neg (by rw [hr2]; simp)])
      clear hr1 hr2 hE A1 A2 p0 p1 p2 q0 q1 q2
      generalize H1.length = n1 at *
      generalize H2.length = n2 at *
      go_enter Tryd.func62, Tryd.ntmps62
      go_wp2_with (go_at_call 72; fail)
      rw [HW0.out]
      refine (i1 _).mono ?_
      rintro r w1 ⟨rfl, hw1⟩
      have RB1 := RB.out.below hw1
      have q0 := RB1.c0
      have q1 := RB1.c1
      have q2 := RB1.c2
      have RA1 := RA.out.below hw1
      have p0 := RA1.c0
      have p1 := RA1.c1
      have p2 := RA1.c2
      have RR1 := hid (RR.out.below hw1)
      have B1 := hid (HB0.out.trans (hw1.mono HB0.out.size))
      go_wp2_with (go_at_call 72; fail)
      refine (i2 _).mono ?_
      rintro r w2 ⟨rfl, hw2⟩
      have h12 := hw1.trans (hw2.mono hw1.size)
      have RB2 := RB1.below hw2
      have q0 := RB2.c0
      have q1 := RB2.c1
      have q2 := RB2.c2
      have RA2 := RA1.below hw2
      have p0 := RA2.c0
      have p1 := RA2.c1
      have p2 := RA2.c2
      have RR2 := hid (RR1.out.below hw2)
      have B2 := hid (B1.out.trans (hw2.mono B1.out.size))
      go_wp2_with ((with_reducible show wpList _ _ _ (Oper.mk _ (Op.store 28 _ _) _ _ _ _ :: _) _ _); go_must (refine wpList_store_row rfl 28 _ _ rfl (w.heap.size + 2) _ rfl rfl 28 _ RR2.out.row (sizeRg' _ _ _) rfl (oneRg _ _ _ _ _) ?_))
      refine bodyPost_ret (results_row_tmp rfl _ _ (w.heap.size + 2) 28 _ (0, 0) _ rfl (setRow_heap _ _ _ _ _ _ RR2.out.row) Tryd.underlying28 rfl sizeRg) rfl ?_
      rw [e0.out]
      exact RgP.bad (by omega) (Below.setRow B2.out (by omega) _)
    | true =>
      rw [hr2] at i2
      have A1' := fun w' (hb : Below w0.heap.size w0 w') => A1.out.below hb (Nat.le_refl _)
      have A2' := fun w' (hb : Below w0.heap.size w0 w') => A2.out.below hb (Nat.le_refl _)
      obtain ⟨u1, hu1⟩ : ∃ u, hsB H1 = u := ⟨_, rfl⟩
      obtain ⟨u2, hu2⟩ : ∃ u, hsB H2 = u := ⟨_, rfl⟩
      have i3 := fun w' hA => rhashes_is H1 u1 hu1 a1 k1 w' hl1 hA
      have i4 := fun w' hA => rhashes_is H2 u2 hu2 a2 k2 w' hl2 hA
      by_cases hs : u1 = true ∧ u2 = true
      · obtain ⟨rfl, rfl⟩ := hs
        by_cases he : e1 = b2
        · subst he
          have eE := hid (show E = 0 by rw [← hE.out]; unfold joinE; rw [if_pos ⟨hr1, hr2⟩, if_pos ⟨hu1, hu2⟩, if_pos rfl])
          obtain ⟨A, P, rfl, rfl, hAP, hP, hn1⟩ := rgt_true hr1
          obtain ⟨P', C, hPP, rfl, hPC, hC40, hn2⟩ := rgt_true hr2
          obtain rfl : P = P' := by omega
          clear hPP hr1 hr2 hu1 hu2 hE p0 p1 p2 q0 q1 q2
          rw [eE.out]
          simp only [Int.toNat_natCast]
          obtain ⟨R, hR⟩ : ∃ R, Hid (Cut.joinH A P C H1 H2 = R) := ⟨_, rfl⟩
          rw [hR.out]
          have h81 := Cut.cut_len (a := A) (b := P) hP hAP
          have h82 := Cut.cut_len (a := P) (b := C) hC40 hPC
          have i5 := fun w' => rCut_any A P hP hAP w'
          have i6 := fun w' => rCut_any P C hC40 hPC w'
          have i7 := fun w' => rCut_any A C hC40 (by omega) w'
          have i8 := fun w' hA => rcopied_any H1 a1 k1 w' (by omega) hA
          have d1 : ((P : Int) != (P : Int)) = false := by simp
          obtain ⟨n1, hm1⟩ : ∃ n1, Hid (H1.length = n1) := ⟨_, rfl⟩
          obtain ⟨n2, hm2⟩ : ∃ n2, Hid (H2.length = n2) := ⟨_, rfl⟩
          rw [hm1.out] at i1 i3 i8 hl1 RA hn1 HW0 ⊢
          rw [hm2.out] at i2 i4 hl2 RB hn2 HW0 ⊢
          have hn81 : n1 ≤ 81 := by omega
          have hn82 : n2 ≤ 81 := by omega
          have hlen1 := hid hn1
          have hlen2 := hid hn2
          clear hn1 hn2 h81 h82
          go_enter Tryd.func62, Tryd.ntmps62
          go_wp2_with (go_at_call 72; fail)
          rw [HW0.out]
          refine (i1 _).mono ?_
          rintro r w1 ⟨rfl, hw1⟩
          have RB1 := RB.out.below hw1
          have q0 := RB1.c0
          have q1 := RB1.c1
          have q2 := RB1.c2
          have RA1 := RA.out.below hw1
          have p0 := RA1.c0
          have p1 := RA1.c1
          have p2 := RA1.c2
          have RR1 := hid (RR.out.below hw1)
          have B1 := hid (HB0.out.trans (hw1.mono HB0.out.size))
          go_wp2_with (go_at_call 72; fail)
          refine (i2 _).mono ?_
          rintro r w2 ⟨rfl, hw2⟩
          have h12 := hw1.trans (hw2.mono hw1.size)
          have RB2 := RB1.below hw2
          have q0 := RB2.c0
          have q1 := RB2.c1
          have q2 := RB2.c2
          have RA2 := RA1.below hw2
          have p0 := RA2.c0
          have p1 := RA2.c1
          have p2 := RA2.c2
          have RR2 := hid (RR1.out.below hw2)
          have B2 := hid (B1.out.trans (hw2.mono B1.out.size))
          go_wp2_with (first | (go_at_call 71; (with_reducible refine (i3 _ (A1' _ h12)).mono ?_); rintro r w2 ⟨rfl, rfl⟩) | (go_at_call 71; (with_reducible refine (i4 _ (A2' _ h12)).mono ?_); rintro r w2 ⟨rfl, rfl⟩))
          have hz2 := hid h12.size
          clear hw1 hw2 RA1 RB1 RR1 B1 i1 i2 i3 i4
          go_cut [10] (fun v w' => Hid (Sps w' w2.heap.size v (Cut.cut A P ++ Cut.cut P C)) ∧ Hid (Below w2.heap.size w2 w'))
          case first =>
            go_region_law (first
              | (refine step_append_run rfl _ _ 82 rfl v3 v4 v5 w5 rfl rfl hap5 ?_)
              | (go_simp; go_at_call 40; (with_reducible refine (i5 _).mono ?_); rintro r w3 ⟨v3, rfl, S3, hw3⟩; have RB3 := RB2.below (drewBelow5 hw3); have RA3 := RA2.below (drewBelow5 hw3); have q0 := RB3.c0; have q1 := RB3.c1; have p0 := RA3.c0; have p1 := RA3.c1; dsimp only)
              | (go_simp; go_at_call 40; (with_reducible refine (i6 _).mono ?_); rintro r w4 ⟨v4, rfl, S4, hw4⟩; obtain ⟨v5, w5, hap5, S5, b5⟩ := append_spans w4 v3 v4 (Cut.cut A P) (Cut.cut P C) w2.drew.heap.size ⟨S3.1.below hw4, S3.2⟩ S4.1 (Nat.le_trans hw3.size hw4.size) (by have := hlen1.out; omega) (by have := hlen2.out; omega); dsimp only))
            all_goals
              have HS5 : Hid (Sps w5 w2.heap.size v5 (Cut.cut A P ++ Cut.cut P C)) := S5
              have HB5 : Hid (Below w2.heap.size w2 w5) := ((drewBelow5 hw3).trans (hw4.mono hw3.size)).trans b5
              clear S5 b5 S3 S4 hw3 hw4 hap5 RB3 RA3
              go_wp2_with fail
              go_meet
              exact ⟨HS5, HB5⟩
          case rest =>
            obtain ⟨hSk, hBk⟩ := hcut
            obtain ⟨w3, rfl⟩ : ∃ w3, w3 = wc := ⟨_, rfl⟩
            have RA3 := RA2.below hBk.out
            have RB3 := RB2.below hBk.out
            have RR3 := hid (RR2.out.below hBk.out)
            have p0 := RA3.c0
            have p1 := RA3.c1
            have p2 := RA3.c2
            have q0 := RB3.c0
            have q1 := RB3.c1
            have q2 := RB3.c2
            have h13 := hid (h12.trans (hBk.out.mono h12.size))
            have A1c := hid (A1' _ h13.out)
            have A2c := hid (A2' _ h13.out)
            have hn12 : n1 + n2 ≤ 2000000 := by omega
            have A1d : Hid (At w3.drew a1 H1) := A1c.out.heap rfl
            have A2d : Hid (At w3.drew a2 H2) := A2c.out.heap rfl
            clear RA2 RB2 RR2 h12 A1' A2' i5 i6
            go_wp2
            go_cut [11] (fun v w' => Hid (Own w' w3.heap.size v (svs (H1 ++ H2))) ∧ Hid (Below w3.heap.size w3 w'))
            case first =>
              go_region_law (first
                | (refine step_append_run rfl _ _ 24 rfl v6 _ v7 w7 rfl rfl hap7 ?_)
                | (go_simp; go_at_call 48; (with_reducible refine (i8 _ A1d.out).mono ?_); rintro r w6 ⟨v6, rfl, O6, hw6⟩; have RB6 := RB3.below (drewBelow5 hw6); have q2 := RB6.c2; obtain ⟨v7, w7, hap7, O7, b7⟩ := append_lat w6 w3.heap.size v6 H1 H2 a2 k2 O6 (A2d.out.below hw6 (Nat.le_refl _)) (by rw [hm1.out, hm2.out]; exact hn12) hw6.size; rw [hm2.out] at hap7; dsimp only))
              all_goals
                have HO7 : Hid (Own w7 w3.heap.size v7 (svs (H1 ++ H2))) := O7
                have HB7 : Hid (Below w3.heap.size w3 w7) := (drewBelow5 hw6).trans b7
                clear O7 b7 O6 hw6 hap7 RB6
                go_wp2_with fail
                go_meet
                exact ⟨HO7, HB7⟩
            case rest =>
              obtain ⟨hOw, hBw⟩ := hcut
              obtain ⟨w4, rfl⟩ : ∃ w4, w4 = wc := ⟨_, rfl⟩
              obtain ⟨a11, c11, rfl, hA11, _, _⟩ := hOw.out.at
              have hb11 := fun x hx => own_block hOw.out (x := x) hx
              obtain ⟨sa, sc, rfl, _, _⟩ := hSk.out.1.shape
              have hSk4 := hSk.out.1.below hBw.out
              have hSkl := fun k hk => hSk.out.1.lt k hk
              have z34 := hBw.out.size
              have R4 := (RA3.below hBw.out)
              have R4b := (RB3.below hBw.out)
              have p0 := R4.c0
              have q1 := R4b.c1
              have RR4 := hid (RR3.out.below hBw.out)
              have h14 := hid (h13.out.trans (hBw.out.mono h13.out.size))
              clear RA3 RB3 RR3 h13 A1c A2c A1d A2d i8 p1 p2 q0 q2 hBw hSk hOw
              obtain ⟨w8, hw8⟩ : ∃ w8, w4.alloc (.cells #[Value.int .i64 (A : Int), .int .i64 (C : Int), .slice none 0 0] 28) = w8 := ⟨_, rfl⟩
              have b8 := (Below.refl w4.heap.size w4).alloc (Nat.le_refl _) (.cells #[Value.int .i64 (A : Int), .int .i64 (C : Int), .slice none 0 0] 28)
              have r8 := Rg.new w4 (A : Int) (C : Int) (.slice none 0 0)
              have z8 := size_alloc w4 (.cells #[Value.int .i64 (A : Int), .int .i64 (C : Int), .slice none 0 0] 28)
              rw [hw8] at b8 r8 z8
              have HW8 := hid hw8
              clear hw8
              go_wp2_with (go_at_call 40; fail)
              rw [HW8.out]
              refine (i7 _).mono ?_
              rintro r w9 ⟨v9, rfl, S9, hw9⟩
              obtain ⟨nk, hk1⟩ : ∃ nk, Hid ((Cut.cut A P ++ Cut.cut P C).length = nk) := ⟨_, rfl⟩
              have hk2 : Hid ((H1 ++ H2).length = nk) := by
                unfold Hid
                rw [← hk1.out, List.length_append, List.length_append, hm1.out, hm2.out]
                have e1 := hlen1.out
                have e2 := hlen2.out
                omega
              have hH : H1.length = (Cut.cut A P).length := by rw [hm1.out]; exact hlen1.out
              have hG : H2.length = (Cut.cut P C).length := by rw [hm2.out]; exact hlen2.out
              have hkl : Hid ((Cut.kn A P C H1 H2).length = nk) := by
                unfold Hid
                rw [← hk1.out, ← Cut.kn_fst hH hG, List.length_map]
              have hnk : nk ≤ 1000000 := by
                have := hk2.out
                rw [List.length_append, hm1.out, hm2.out] at this
                omega
              have hcov := Cut.kn_cov hC40 hAP hPC hH hG
              have hRl : Hid (R.length = (Cut.cut A C).length) := by unfold Hid; rw [← hR.out]; exact Cut.joinH_length hC40 hAP hPC hH hG
              have iH := fun (j : Nat) (q : Nat × Nat) (x : List UInt8) hq hx => rhash_any hcov hC40 (.slice sa nk sc) a11 nk c11 hkl hnk (Cut.join_der (j := j) (q := q) (x := x) hC40 hAP hPC hH hG hq hx)
              unfold HashAt at iH
              rw [Cut.kn_fst hH hG, Cut.kn_snd hH hG, hR.out] at iH
              rw [hk1.out] at hSk4 hSkl ⊢
              rw [hk2.out]
              obtain ⟨n9, hn9⟩ : ∃ n9, Hid ((Cut.cut A C).length = n9) := ⟨_, rfl⟩
              have hn81' : n9 ≤ 81 := by rw [← hn9.out]; exact Cut.cut_len hC40 (by omega)
              obtain ⟨ta, tc, rfl, _, _⟩ := S9.1.shape
              have O9 := hid S9.1
              have hO9 := hid S9.2
              rw [hn9.out] at O9 hO9 hRl ⊢
              have hx9 := hw9.size
              have HSk9 := hid ((hSk4.below b8).below hw9)
              have HA9 := hid ((hA11.below b8 (Nat.le_refl _)).below hw9 (Nat.le_refl _))
              have Hb11 := hid hb11
              have HSkl := hid hSkl
              have J0 : Hid (Jl w9 w9 w4.heap.size (A : Int) (C : Int) (.slice none 0 0) (R.take 0)) := ⟨r8.below hw9, by rw [List.take_zero]; exact Own.nil _ _, Keep.refl _ _⟩
              have hb49 := hid (b8.trans (hw9.mono b8.size))
              have RR9 := hid (RR4.out.below hb49.out)
              have h19 := hid (h14.out.trans (hb49.out.mono h14.out.size))
              have hz4 := h14.out.size
              have hzz := hsz.out
              have IH := hid iH
              clear S9 hw9 b8 r8 hSk4 hA11 hb11 hSkl RR4 h14 i7 hcov hH hG hkl hk1 hk2 R4 R4b p0 q1 HW8 iH
              go_wp2
              go_loopw [14] (fun i w' => ∃ (j : Nat) (vh : Value), i = .int .i64 (j : Int) ∧ j ≤ n9 ∧ Hid (Jl w9 w' w4.heap.size (A : Int) (C : Int) vh (R.take j))) (fun i _ => n9 - (intOf i).toNat)
              case atStart => exact ⟨0, _, rfl, by omega, J0⟩
              case round =>
                clear J0
                obtain ⟨j, vh, rfl, hj, hJ⟩ := hrel
                have ck := hJ.out.keep
                obtain ⟨va, vn, vc, rfl⟩ := own_sl hJ.out.own
                by_cases hjn : j < n9
                · have c0 : (j : Int) < (n9 : Int) := by omega
                  obtain ⟨⟨p, m⟩, hq⟩ : ∃ q, (Cut.cut A C)[j]? = some q := ⟨_, List.getElem?_eq_getElem (by have := hn9.out; omega)⟩
                  obtain ⟨x, hx⟩ : ∃ x, R[j]? = some x := ⟨_, List.getElem?_eq_getElem (by have := hRl.out; omega)⟩
                  have O9' := O9.out.keep ck fun k hk e => by
                    have h1 := hO9.out k hk
                    have h2 := O9.out.lt k hk
                    rcases e with e | e <;> omega
                  have K9' := HSk9.out.keep ck fun k hk e => by
                    have h1 := HSkl.out k hk
                    rcases e with e | e <;> omega
                  have A9' := HA9.out.keep ck fun y hy e => by
                    have h1 := (Hb11.out y hy).1
                    rcases e with e | e <;> omega
                  obtain ⟨g1, g2⟩ := spcs_get hq
                  obtain ⟨g, gc, eg, t0, _⟩ := O9'.cell g1
                  obtain ⟨g', gc', eg', t1, _⟩ := O9'.cell g2
                  injection eg with eg1 eg2 eg3
                  subst eg1 eg3
                  injection eg' with eg1 eg2 eg3
                  injection eg1 with eg1
                  injection eg1 with eg1
                  subst eg1
                  obtain ⟨f, hf⟩ : ∃ f : Nat, Hid (p + m = f) := ⟨_, rfl⟩
                  have t1' : wr.cell? ⟨g, j * 2 + 1, none⟩ = some (.int .i64 (f : Int)) := by rw [← hf.out]; exact t1
                  have t0' : wr.cell? ⟨g, j * 2, none⟩ = some (.int .i64 (p : Int)) := t0
                  have u2 := hJ.out.rg.c2
                  have ih := IH.out j (p, m) x hq hx wr.drew K9'.drew (A9'.heap rfl)
                  simp only at ih
                  rw [hf.out] at ih
                  have hxs : Hid (R.take j ++ [x] = R.take (j + 1)) := by
                    unfold Hid
                    obtain ⟨hlt, hx'⟩ := List.getElem?_eq_some_iff.1 hx
                    rw [← hx', List.take_append_getElem]
                  have hRj : (R.take j).length ≤ 2000000 := by rw [List.length_take]; omega
                  have hw49 : w4.heap.size < w9.heap.size := by omega
                  clear g1 g2 hq hx O9' K9' A9' t0 t1 eg2 eg3 ck
                  go_wp2
                  go_region_law (first
                    | (refine step_append_run rfl _ _ 24 rfl _ _ _ w11 rfl rfl hap11 ?_)
                    | (go_simp; go_at_call 73; (with_reducible refine ih.mono ?_); rintro r w10 ⟨rfl, hw10⟩; have J10 := hJ.out.below (drewBelow5 hw10); have u2 := J10.rg.c2; have u3 := (J10.rg.below ((Below.refl _ w10).alloc (Nat.le_refl _) (.cells #[Value.string ⟨x.toArray⟩] 9))).c2; obtain ⟨v11, w11, hap11, O11, b11⟩ := append_text w10 w9.heap.size _ (R.take j) x J10.own hRj J10.keep.size; rw [hxs.out] at O11; obtain ⟨na, nn, nc, rfl⟩ := own_sl O11; obtain ⟨f11, c11', J11⟩ := J10.push hw49 O11 b11; rw [show sv x = Value.string ⟨x.toArray⟩ from rfl] at hap11 ⊢; dsimp only))
                  all_goals
                    have HJ := hid J11
                    clear J11 O11 b11 hw10 hap11 J10
                    go_wp2
                  all_goals exact ⟨⟨j + 1, _, val_succ j, Nat.succ_le_of_lt hjn, HJ⟩, dec_succ hjn⟩
                · obtain rfl : j = n9 := by omega
                  have c0 : ¬ (j : Int) < (j : Int) := by omega
                  have hRt : R.take j = R := List.take_of_length_le (by have := hRl.out; omega)
                  have RRr : Hid (Rg wr (w.heap.size + 2) 0 0 (.slice none 0 0)) := (ck.block (w.heap.size + 2) (by omega) (by omega)).trans RR9.out
                  have z9 : w.heap.size + 3 ≤ w4.heap.size := by omega
                  have KB := hid (ck.toBelow (B := w0.heap.size) (by omega) (fun k hk => by rcases hk with e | e <;> omega))
                  have k1 : Keep (fun k => k = w.heap.size + 2) wr (wr.setRow (w.heap.size + 2) #[.int .i64 (A : Int), .int .i64 (C : Int), .slice va vn vc]) := ⟨rfl, rfl, rfl, by rw [setRow_size]; exact Nat.le_refl _, fun k _ hk => setRow_other wr _ k _ hk⟩
                  have u0 := hJ.out.rg.c0
                  have u1 := hJ.out.rg.c1
                  have u2 := hJ.out.rg.c2
                  clear ck
                  go_wp2_with ((with_reducible show wpList _ _ _ (Oper.mk _ (Op.store 28 _ _) _ _ _ _ :: _) _ _); go_must (refine wpList_store_row rfl 28 _ _ rfl (w.heap.size + 2) _ rfl rfl 28 _ RRr.out.row (sizeRg' _ _ _) rfl (oneRg _ _ _ _ _) ?_))
                  refine bodyPost_ret (results_row_tmp rfl _ _ (w.heap.size + 2) 28 _ (0, 0) _ rfl (setRow_heap _ _ _ _ _ _ RRr.out.row) Tryd.underlying28 rfl sizeRg) rfl ?_
                  refine RgP.ok ?_ ?_
                  · have ho := hJ.out.own
                    rw [hRt] at ho
                    refine (ho.mono (by omega)).keep k1 fun k hk e => ?_
                    have := ho.ge k hk
                    omega
                  · exact Below.setRow (HB0.out.trans ((h19.out.trans KB.out).mono HB0.out.size)) (by omega) _
        · have e0 := hid (show E = 51 by rw [← hE.out]; unfold joinE; rw [if_pos ⟨hr1, hr2⟩, if_pos ⟨hu1, hu2⟩, if_neg he])
          have d1 : (e1 != b2) = true := by simpa using he
          clear hr1 hr2 hu1 hu2 hE p0 p1 p2 q0 q1 q2
          generalize H1.length = n1 at *
          generalize H2.length = n2 at *
          go_enter Tryd.func62, Tryd.ntmps62
          go_wp2_with (go_at_call 72; fail)
          rw [HW0.out]
          refine (i1 _).mono ?_
          rintro r w1 ⟨rfl, hw1⟩
          have RB1 := RB.out.below hw1
          have q0 := RB1.c0
          have q1 := RB1.c1
          have q2 := RB1.c2
          have RA1 := RA.out.below hw1
          have p0 := RA1.c0
          have p1 := RA1.c1
          have p2 := RA1.c2
          have RR1 := hid (RR.out.below hw1)
          have B1 := hid (HB0.out.trans (hw1.mono HB0.out.size))
          go_wp2_with (go_at_call 72; fail)
          refine (i2 _).mono ?_
          rintro r w2 ⟨rfl, hw2⟩
          have h12 := hw1.trans (hw2.mono hw1.size)
          have RB2 := RB1.below hw2
          have q0 := RB2.c0
          have q1 := RB2.c1
          have q2 := RB2.c2
          have RA2 := RA1.below hw2
          have p0 := RA2.c0
          have p1 := RA2.c1
          have p2 := RA2.c2
          have RR2 := hid (RR1.out.below hw2)
          have B2 := hid (B1.out.trans (hw2.mono B1.out.size))
          go_wp2_with (first | ((with_reducible show wpList _ _ _ (Oper.mk _ (Op.store 28 _ _) _ _ _ _ :: _) _ _); go_must (refine wpList_store_row rfl 28 _ _ rfl (w.heap.size + 2) _ rfl rfl 28 _ RR2.out.row (sizeRg' _ _ _) rfl (oneRg _ _ _ _ _) ?_)) | (go_at_call 71; (with_reducible refine (i3 _ (A1' _ h12)).mono ?_); rintro r w2 ⟨rfl, rfl⟩) | (go_at_call 71; (with_reducible refine (i4 _ (A2' _ h12)).mono ?_); rintro r w2 ⟨rfl, rfl⟩))
          refine bodyPost_ret (results_row_tmp rfl _ _ (w.heap.size + 2) 28 _ (0, 0) _ rfl (setRow_heap _ _ _ _ _ _ RR2.out.row) Tryd.underlying28 rfl sizeRg) rfl ?_
          rw [e0.out]
          exact RgP.bad (by omega) (Below.setRow B2.out (by omega) _)
      · have e0 := hid (show E = 52 by rw [← hE.out]; unfold joinE; rw [if_pos ⟨hr1, hr2⟩, if_neg (by rw [hu1, hu2]; exact hs)])
        clear hr1 hr2 hu1 hu2 hE p0 p1 p2 q0 q1 q2
        cases u1 with
        | false =>
          clear hs
          generalize H1.length = n1 at *
          generalize H2.length = n2 at *
          go_enter Tryd.func62, Tryd.ntmps62
          go_wp2_with (go_at_call 72; fail)
          rw [HW0.out]
          refine (i1 _).mono ?_
          rintro r w1 ⟨rfl, hw1⟩
          have RB1 := RB.out.below hw1
          have q0 := RB1.c0
          have q1 := RB1.c1
          have q2 := RB1.c2
          have RA1 := RA.out.below hw1
          have p0 := RA1.c0
          have p1 := RA1.c1
          have p2 := RA1.c2
          have RR1 := hid (RR.out.below hw1)
          have B1 := hid (HB0.out.trans (hw1.mono HB0.out.size))
          go_wp2_with (go_at_call 72; fail)
          refine (i2 _).mono ?_
          rintro r w2 ⟨rfl, hw2⟩
          have h12 := hw1.trans (hw2.mono hw1.size)
          have RB2 := RB1.below hw2
          have q0 := RB2.c0
          have q1 := RB2.c1
          have q2 := RB2.c2
          have RA2 := RA1.below hw2
          have p0 := RA2.c0
          have p1 := RA2.c1
          have p2 := RA2.c2
          have RR2 := hid (RR1.out.below hw2)
          have B2 := hid (B1.out.trans (hw2.mono B1.out.size))
          go_wp2_with (first | ((with_reducible show wpList _ _ _ (Oper.mk _ (Op.store 28 _ _) _ _ _ _ :: _) _ _); go_must (refine wpList_store_row rfl 28 _ _ rfl (w.heap.size + 2) _ rfl rfl 28 _ RR2.out.row (sizeRg' _ _ _) rfl (oneRg _ _ _ _ _) ?_)) | (go_at_call 71; (with_reducible refine (i3 _ (A1' _ h12)).mono ?_); rintro r w2 ⟨rfl, rfl⟩) | (go_at_call 71; (with_reducible refine (i4 _ (A2' _ h12)).mono ?_); rintro r w2 ⟨rfl, rfl⟩))
          refine bodyPost_ret (results_row_tmp rfl _ _ (w.heap.size + 2) 28 _ (0, 0) _ rfl (setRow_heap _ _ _ _ _ _ RR2.out.row) Tryd.underlying28 rfl sizeRg) rfl ?_
          rw [e0.out]
          exact RgP.bad (by omega) (Below.setRow B2.out (by omega) _)
        | true =>
          cases u2 with
          | true => exact absurd ⟨rfl, rfl⟩ hs
          | false =>
            clear hs
            generalize H1.length = n1 at *
            generalize H2.length = n2 at *
            go_enter Tryd.func62, Tryd.ntmps62
            go_wp2_with (go_at_call 72; fail)
            rw [HW0.out]
            refine (i1 _).mono ?_
            rintro r w1 ⟨rfl, hw1⟩
            have RB1 := RB.out.below hw1
            have q0 := RB1.c0
            have q1 := RB1.c1
            have q2 := RB1.c2
            have RA1 := RA.out.below hw1
            have p0 := RA1.c0
            have p1 := RA1.c1
            have p2 := RA1.c2
            have RR1 := hid (RR.out.below hw1)
            have B1 := hid (HB0.out.trans (hw1.mono HB0.out.size))
            go_wp2_with (go_at_call 72; fail)
            refine (i2 _).mono ?_
            rintro r w2 ⟨rfl, hw2⟩
            have h12 := hw1.trans (hw2.mono hw1.size)
            have RB2 := RB1.below hw2
            have q0 := RB2.c0
            have q1 := RB2.c1
            have q2 := RB2.c2
            have RA2 := RA1.below hw2
            have p0 := RA2.c0
            have p1 := RA2.c1
            have p2 := RA2.c2
            have RR2 := hid (RR1.out.below hw2)
            have B2 := hid (B1.out.trans (hw2.mono B1.out.size))
            go_wp2_with (first | ((with_reducible show wpList _ _ _ (Oper.mk _ (Op.store 28 _ _) _ _ _ _ :: _) _ _); go_must (refine wpList_store_row rfl 28 _ _ rfl (w.heap.size + 2) _ rfl rfl 28 _ RR2.out.row (sizeRg' _ _ _) rfl (oneRg _ _ _ _ _) ?_)) | (go_at_call 71; (with_reducible refine (i3 _ (A1' _ h12)).mono ?_); rintro r w2 ⟨rfl, rfl⟩) | (go_at_call 71; (with_reducible refine (i4 _ (A2' _ h12)).mono ?_); rintro r w2 ⟨rfl, rfl⟩))
            refine bodyPost_ret (results_row_tmp rfl _ _ (w.heap.size + 2) 28 _ (0, 0) _ rfl (setRow_heap _ _ _ _ _ _ RR2.out.row) Tryd.underlying28 rfl sizeRg) rfl ?_
            rw [e0.out]
            exact RgP.bad (by omega) (Below.setRow B2.out (by omega) _)
end Go.Proofs.YtnnohacciikofaaDoor
