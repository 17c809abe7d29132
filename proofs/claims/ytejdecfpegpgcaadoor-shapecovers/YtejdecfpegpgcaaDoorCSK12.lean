import Derived.Test.YtejdecfpegpgcaaDoorCSN6
import Derived.Test.YtejdecfpegpgcaaDoorCSQ10
import Derived.Test.YtejdecfpegpgcaaDoorCSQ11
import Derived.Test.YtejdecfpegpgcaaDoorCSK2
import Derived.Test.YtejdecfpegpgcaaDoorCSK7
namespace Go.Proofs.YtejdecfpegpgcaaDoor
open Go.RowKit Go.Shelf
theorem Nb.Bh.new {B0 X : Nat} {w : World} (hX : B0 ≤ X) (h : w.heap[X]? = some (.cells #[.slice none 0 0, .slice none 0 0, .slice none 0 0, .slice none 0 0, .slice none 0 0, .slice none 0 0] 33 (0, 0))) :
    Nb.Bh B0 X w (fun k => if k = X then 1 else 0) w (.slice none 0 0) (.slice none 0 0) [] [] [] where
  bel := Below.refl _ _
  low := fun k hk => if_neg (by omega)
  row := h
  rX := if_pos rfl
  oh := OwnM.nil 1 _
  rh := fun k hk => by cases hk
  ow := OwnM.nil 1 _
  rw_ := fun k hk => by cases hk
  lh := rfl
  lw := rfl
  le := Nat.zero_le _
  own := fun j W e => by cases e
  want := fun j W e => by cases e
  fr := fun _ _ _ => rfl
  nh := fun k hk => by cases hk
  nw := fun k hk => by cases hk
theorem coverL_few (b e : Int) : (coverL b e).length ≤ 1099511627776 := by
  unfold coverL
  split
  · next h =>
    unfold coverE at h
    split at h
    · next h1 =>
      have := covL_len (b := b.toNat) (e := e.toNat) (by omega) (by omega)
      omega
    · cases h
  · simp
set_option maxRecDepth 100000 in
set_option maxHeartbeats 4000000 in
theorem covers8_law (size bg en fm mn : Int) (hf1 : -9223372036854775808 ≤ fm) (hf2 : fm ≤ 9223372036854775807) (hm1 : -9223372036854775808 ≤ mn) (hm2 : mn ≤ 9223372036854775807) (w : World) (Z : Tb w) :
    Calls Tryd.prog 4 #[.int .i64 size, .int .i64 bg, .int .i64 en, .int .i64 fm, .int .i64 mn] w fun r w' => r = .returned (.bool true) ∧ Below w.heap.size w w' := by
  have i0 := known8_any w Z
  have HZ := hid Z
  have hT := Z.lt
  obtain ⟨p1, hp1, hp1'⟩ := pk_nat fm 1099511627776 (by omega)
  have k1 : ∀ w', Calls Tryd.prog 10 #[.int .i64 fm, .int .i64 1099511627776] w' fun e w'' => e = .returned (.int .i64 (p1 : Int)) ∧ w'' = w' := fun w' => by
    have := pick_any fm 1099511627776 hf1 hf2 (by omega) (by omega) w'
    rw [show pk fm 1099511627776 = (p1 : Int) from hp1.out] at this
    exact this
  obtain ⟨d, hd⟩ : ∃ d : Nat, d = 1099511627776 - p1 := ⟨_, rfl⟩
  have hdw : IntKind.i64.wrap (1099511627776 - (p1 : Int)) = (d : Int) := by rw [IntKind.wrap_i64]; omega
  obtain ⟨d1, hd1⟩ : ∃ d1 : Nat, d1 = d + 1 := ⟨_, rfl⟩
  have hd1w : IntKind.i64.wrap ((d : Int) + 1) = (d1 : Int) := by rw [IntKind.wrap_i64]; omega
  obtain ⟨p2, hp2, hp2'⟩ := pk_nat mn d1 (by omega)
  have k2 := fun w' => pick_any mn (d1 : Int) hm1 hm2 (by omega) (by omega) w'
  rw [hp2.out] at k2
  obtain ⟨E, hE⟩ : ∃ E : Nat, E = p1 + p2 := ⟨_, rfl⟩
  have hEw : IntKind.i64.wrap ((p1 : Int) + (p2 : Int)) = (E : Int) := by rw [IntKind.wrap_i64]; omega
  clear Z hd hd1 hE hp1 hp2 hp1' hp2'
  go_enter Tryd.func4, Tryd.ntmps4
  go_wp2_with (first
    | (go_at_call 9; refine i0.mono ?_; rintro r w1 ⟨rfl, b1⟩; have B1 := hid b1; clear i0 b1)
    | (go_at_call 10; (first | (with_reducible refine (k1 _).mono ?_) | (with_reducible refine (k2 _).mono ?_)); rintro r w' ⟨rfl, h0⟩; have h0 := h0.symm; subst h0))
  obtain ⟨rX, r1, bB⟩ := start2 w1 (.cells #[.slice none 0 0, .slice none 0 0, .slice none 0 0, .slice none 0 0, .slice none 0 0, .slice none 0 0] 33) (.cells #[.int .i64 bg, .int .i64 en, .int .i64 (p1 : Int), .int .i64 (E : Int), .int .i64 bg, .int .i64 en] 25)
  generalize (w1.alloc (.cells #[.slice none 0 0, .slice none 0 0, .slice none 0 0, .slice none 0 0, .slice none 0 0, .slice none 0 0] 33)).alloc (.cells #[.int .i64 bg, .int .i64 en, .int .i64 (p1 : Int), .int .i64 (E : Int), .int .i64 bg, .int .i64 en] 25) = wB at *
  have hXB : w.heap.size ≤ w1.heap.size := B1.out.size
  have BB := hid (B1.out.trans (bB.mono hXB))
  have hBs : w.heap.size ≤ wB.heap.size := BB.out.size
  have L1 := hid (lt_of_heap r1)
  have H0 := hid (Nb.Bh.new hXB rX)
  have Q1 : Hid (Q6 wB (w1.heap.size + 1) bg en (p1 : Int) (E : Int) bg en) := r1
  clear rX r1 bB B1 k1 k2
  obtain ⟨X, hX⟩ : ∃ X, w1.heap.size = X := ⟨_, rfl⟩
  rw [hX] at H0 Q1 L1 hXB ⊢
  obtain ⟨g1, hg1⟩ : ∃ g1, X + 1 = g1 := ⟨_, rfl⟩
  rw [hg1] at Q1 L1 ⊢
  have HG := hid (show g1 ≠ X by omega)
  clear hg1 hX
  go_loopw [15, 16, 17, 18, 19] (fun i _ _ _ _ w' => ∃ (J : Nat) (ρ : Nat → Nat) (vh vw : Value) (hv wv : List Value) (Ws : List (List (Nat × Nat))), J ≤ 3 ∧ i = .int .i64 (J : Int) ∧ Ws.length = J ∧ Hid (∀ W ∈ Ws, W.length ≤ 1099511627776) ∧ Hid (Nb.Bh w.heap.size X wB ρ w' vh vw hv wv Ws)) (fun i _ _ _ _ _ => 3 - (intOf i).toNat)
  case atStart => exact ⟨0, _, _, _, _, _, [], by omega, rfl, rfl, hid (fun W h => by cases h), H0⟩
  case round =>
    clear H0
    obtain ⟨J, ρ, vh, vw, hv, wv, Ws, hJ, rfl, hWl, hWs, hH⟩ := hrel
    by_cases hJ3 : J < 3
    · have b0 : (J : Int) < 3 := by omega
      have j0 : (0 : Int) ≤ (J : Int) := by omega
      obtain ⟨c1, c2⟩ := Q6.cell (show Q6 wr g1 _ _ _ _ _ _ from (hH.out.fr g1 L1.out HG.out).trans Q1.out) hJ3
      have l1 : g1 < wr.heap.size := block_lt_of_cell c1
      have TX := hid (fun (w' : World) (ρ' : Nat → Nat) (a b : Value) (c d : List Value) (V : List (List (Nat × Nat))) (hh : Nb.Bh w.heap.size X wB ρ' w' a b c d V) => Q6.cell (show Q6 w' g1 _ _ _ _ _ _ from (hh.fr g1 L1.out HG.out).trans Q1.out) hJ3)
      generalize t3 bg (p1 : Int) bg J = x at *
      generalize t3 en (E : Int) en J = y at *
      have Zr := HZ.out.below (BB.out.trans hH.out.bel) hT
      have i1 : Calls Tryd.prog 13 #[.agg #[.int .i64 x, .int .i64 y]] wr (SpP wr (coverE x y) (coverL x y)) := cover_any x y wr Zr
      have i2 : ∀ w', Calls Tryd.prog 14 #[.agg #[.int .i64 x, .int .i64 y]] w' (SpP w' (coverE x y) (coverL x y)) := fun w' => rCover8_any x y w'
      have i3 : ∀ w', Calls Tryd.prog 12 #[.int .i64 size, .agg #[.int .i64 x, .int .i64 y]] w' fun r w'' => r = .returned (.bool (insB size x y)) ∧ Below w'.heap.size w' w'' := fun w' => inside_any size x y w'
      have i4 : ∀ w', Calls Tryd.prog 16 #[.int .i64 size, .agg #[.int .i64 x, .int .i64 y]] w' fun r w'' => r = .returned (.bool (insB size x y)) ∧ Below w'.heap.size w' w'' := fun w' => rInside8_any size x y w'
      generalize insB size x y = bv at *
      clear Zr
      go_wp2_with (go_at_call 13; fail)
      refine i1.mono ?_
      rintro r wA ⟨bA, vA, rfl, oA, fA⟩
      have c1 := (bA.cell (p := ⟨g1, J * 2, none⟩) l1).trans c1
      have c2 := (bA.cell (p := ⟨g1, J * 2 + 1, none⟩) l1).trans c2
      have B1 := hid bA
      have O1 := hid oA
      have F1 := hid fA
      clear i1 bA oA fA
      go_wp2_with (go_at_call 14; fail)
      refine (i2 _).mono ?_
      rintro r wC ⟨bC, vC, rfl, oC, fC⟩
      have s1 := B1.out.size
      have s2 := bC.size
      have b12 := B1.out.trans (bC.mono s1)
      have H5 := hH.out.below hBs b12 (r2 ρ wr.heap.size wA.heap.size J) (fun k hk => if_pos hk)
      have q1 := O1.out.below bC
      have t1 : ∀ k, vA.ownBlock = some k → r2 ρ wr.heap.size wA.heap.size J k = 3 + Ws.length := fun k hk => by
        have := F1.out k hk; have := O1.out.lt k hk
        unfold r2; rw [if_neg (by omega), if_pos (by omega), hWl]
      have t2 : ∀ k, vC.ownBlock = some k → r2 ρ wr.heap.size wA.heap.size J k = 0 := fun k hk => by
        have := fC k hk
        unfold r2; rw [if_neg (by omega), if_neg (by omega)]
      generalize r2 ρ wr.heap.size wA.heap.size J = ρ5 at *
      have y1 := Nb.holds_any H5 hBs (by omega) (coverL x y) vA vC q1 t1 oC t2
      have few1 := hid (coverL_few x y)
      generalize coverL x y = P1 at *
      generalize coverE x y = E1 at *
      clear H5 q1 t1 t2 O1 F1 B1 b12 hH i2 c1 c2 l1 bC oC fC
      go_wp2_with (go_at_call 15; fail)
      refine y1.mono ?_
      rintro r w6 ⟨rfl, ρ6, vh6, vw6, H6, _, _, _⟩
      obtain ⟨c1, c2⟩ := TX.out _ _ _ _ _ _ _ H6
      have l1 : g1 < w6.heap.size := block_lt_of_cell c1
      have HB := hid (fun w' (hb : Below w6.heap.size w6 w') => H6.below hBs hb ρ6 (fun _ _ => rfl))
      have z1 : (E1 == E1) = true := by simp
      have z2 : (bv == bv) = true := by simp
      have i5 := i3 w6.drew
      have i6 := i4 w6.drew
      clear y1 H6 TX
      go_upto_region 11 with fail
      go_region_held3 (fun w' => w'.cell? ⟨g1, J * 2, none⟩ = some (.int .i64 x) ∧ w'.cell? ⟨g1, J * 2 + 1, none⟩ = some (.int .i64 y)) (first | exact e7 | exact e6 | exact ⟨c1, c2⟩)
        (first
          | (go_at_call 12; (with_reducible refine i5.mono ?_); rintro r w7 ⟨rfl, b7'⟩; have b7 := drewBelow8 b7'; have e6 := And.intro ((b7.cell (p := ⟨g1, J * 2, none⟩) l1).trans c1) ((b7.cell (p := ⟨g1, J * 2 + 1, none⟩) l1).trans c2))
          | (go_at_call 16; (with_reducible refine (i4 _).mono ?_); rintro r w8 ⟨rfl, b8'⟩; have b8 := b7.trans (b8'.mono b7.size); have e7 := And.intro ((b8.cell (p := ⟨g1, J * 2, none⟩) l1).trans c1) ((b8.cell (p := ⟨g1, J * 2 + 1, none⟩) l1).trans c2)))
      all_goals
        have HH := hid (HB.out _ b8)
        clear b7 b8 b7' b8' e6 e7 HB
        go_wp2
        exact ⟨⟨J + 1, _, _, _, _, _, _, by omega, by go_num, by rw [List.length_append, hWl]; rfl, hid (fun W hW => by
          rcases List.mem_append.1 hW with hW | hW
          · exact hWs.out W hW
          · rw [List.mem_singleton.1 hW]; exact few1.out), HH⟩, by simp [intOf]; omega⟩
    · obtain rfl : J = 3 := by omega
      have i9 := Nb.still_B hH.out hBs (by omega) hWs.out
      have BB2 := BB
      clear hH hWs
      go_wp2_with (go_at_call 17; refine i9.mono ?_; rintro r we ⟨rfl, be⟩; have BE := hid be; clear be)
      go_ret
      exact ⟨rfl, BB2.out.trans BE.out⟩
end Go.Proofs.YtejdecfpegpgcaaDoor
