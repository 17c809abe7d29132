import Derived.Test.YtejdecfpegpgcaaDoorCSK4
import Derived.Test.YtejdecfpegpgcaaDoorCSQ8
import Derived.Test.YtejdecfpegpgcaaDoorCSK2
import Derived.Test.YtejdecfpegpgcaaDoorCSQ2
import Derived.Test.YtejdecfpegpgcaaDoorCFN1
import Derived.Test.YtejdecfpegpgcaaDoorCK5
import Derived.Lib.SmallJoins
namespace Go.Proofs.YtejdecfpegpgcaaDoor
open Go.RowKit Go.Shelf
theorem Tree.prf_le : ∀ (f b n m : Nat), n ≤ f → b < m → m ≤ b + n → (Tree.prfF f b n m).length ≤ (Tree.pthF f b n (m - 1)).length + 1
  | 0, b, n, m, h, h1, h2 => by omega
  | f + 1, b, n, m, h, h1, h2 => by
    rw [Tree.prfF, Tree.pthF]
    by_cases e : b + n = m
    · rw [if_pos e]; split <;> simp
    · have hn : 2 ≤ n := by omega
      have s1 := Tree.sp_lt hn
      have s2 := Tree.sp_pos hn
      rw [if_neg e, if_neg (show ¬ n < 2 by omega)]
      by_cases hm : m ≤ b + Tree.sp n
      · rw [if_pos hm, if_pos (by omega), List.length_append, List.length_append]
        have := Tree.prf_le f b (Tree.sp n) m (by omega) h1 hm
        simp; omega
      · rw [if_neg hm, if_neg (by omega), List.length_append, List.length_append]
        have := Tree.prf_le f (b + Tree.sp n) (n - Tree.sp n) m (by omega) (by omega) (by omega)
        simp; omega
theorem pathL_few (n i : Int) : (pathL n i).length ≤ 1000000 := by
  unfold pathL
  split
  · next h =>
    unfold pathE at h
    split at h
    · split at h
      · next h1 h2 =>
        rw [Tree.pthF_len _ 0 _ _ (Nat.le_refl _) (Nat.zero_le _), Nat.sub_zero]
        exact Nat.le_trans (D_le _ _ (by omega) (by omega)) (by decide)
      · cases h
    · cases h
  · simp
theorem proofL_few (m n : Int) : (proofL m n).length ≤ 1000000 := by
  unfold proofL
  split
  · next h =>
    unfold proofE at h
    split at h
    · next h1 =>
      refine Nat.le_trans (Tree.prf_le _ 0 _ _ (Nat.le_refl _) (by omega) (by omega)) ?_
      rw [Tree.pthF_len _ 0 _ _ (Nat.le_refl _) (Nat.zero_le _), Nat.sub_zero]
      have := D_le n.toNat (m.toNat - 1) (by omega) (by omega)
      omega
    · cases h
  · simp
/-- three numbers in a row -/
def R3 (w : World) (g : Nat) (x y z : Int) : Prop := w.heap[g]? = some (.cells #[.int .i64 x, .int .i64 y, .int .i64 z] 3 (0, 0))
def t3 (x y z : Int) (J : Nat) : Int := if J = 0 then x else if J = 1 then y else z
theorem R3.cell {w : World} {g : Nat} {x y z : Int} (h : R3 w g x y z) {J : Nat} (hJ : J < 3) : w.cell? ⟨g, J, none⟩ = some (.int .i64 (t3 x y z J)) := by
  rw [cell_of_row _ _ _ _ _ _ h]
  rcases J with _ | _ | _ | J
  · rfl
  · rfl
  · rfl
  · omega
theorem Bh.new {B0 X : Nat} {w : World} (hX : B0 ≤ X) (h : w.heap[X]? = some (.cells #[.slice none 0 0, .slice none 0 0, .slice none 0 0, .slice none 0 0, .slice none 0 0, .slice none 0 0] 33 (0, 0))) :
    Bh B0 X w (fun k => if k = X then 1 else 0) w (.slice none 0 0) (.slice none 0 0) [] [] [] where
  bel := Below.refl _ _
  low := fun k hk => if_neg (by omega)
  row := h
  rX := if_pos rfl
  oh := OwnM.nil 1 _
  rh := fun k hk => by cases hk
  ow := OwnM.nil 1 _
  rw_ := fun k hk => by cases hk
  lh := rfl
  lw := rfl
  le := Nat.zero_le _
  own := fun j W e => by cases e
  want := fun j W e => by cases e
  fr := fun _ _ _ => rfl
  nh := fun k hk => by cases hk
  nw := fun k hk => by cases hk
theorem start5 (w : World) (o0 o1 o2 o3 o4 : Obj) : (((((w.alloc o0).alloc o1).alloc o2).alloc o3).alloc o4).heap[w.heap.size]? = some o0 ∧ (((((w.alloc o0).alloc o1).alloc o2).alloc o3).alloc o4).heap[w.heap.size + 1]? = some o1 ∧ (((((w.alloc o0).alloc o1).alloc o2).alloc o3).alloc o4).heap[w.heap.size + 1 + 1]? = some o2 ∧ (((((w.alloc o0).alloc o1).alloc o2).alloc o3).alloc o4).heap[w.heap.size + 1 + 1 + 1]? = some o3 ∧ (((((w.alloc o0).alloc o1).alloc o2).alloc o3).alloc o4).heap[w.heap.size + 1 + 1 + 1 + 1]? = some o4 ∧ Below w.heap.size w (((((w.alloc o0).alloc o1).alloc o2).alloc o3).alloc o4) := by
  have up : ∀ (w : World) (o x : Obj) (k : Nat), w.heap[k]? = some x → (w.alloc o).heap[k]? = some x := fun w o x k h => (((Below.refl w.heap.size w).alloc (Nat.le_refl _) o).block k (lt_of_heap h)).trans h
  have nw : ∀ (w : World) (o : Obj) (k : Nat), w.heap.size = k → (w.alloc o).heap[k]? = some o := fun w o k h => by subst h; exact heap_alloc_new w o
  have s0 := size_alloc w o0
  have s1 := size_alloc (w.alloc o0) o1
  have s2 := size_alloc ((w.alloc o0).alloc o1) o2
  have s3 := size_alloc (((w.alloc o0).alloc o1).alloc o2) o3
  refine ⟨up _ _ _ _ (up _ _ _ _ (up _ _ _ _ (up _ _ _ _ (nw _ _ _ rfl)))), up _ _ _ _ (up _ _ _ _ (up _ _ _ _ (nw _ _ _ s0))), up _ _ _ _ (up _ _ _ _ (nw _ _ _ (by omega))), up _ _ _ _ (nw _ _ _ (by omega)), nw _ _ _ (by omega), ?_⟩
  exact (((((Below.refl _ w).alloc (Nat.le_refl _) _).alloc (by omega) _).alloc (by omega) _).alloc (by omega) _).alloc (by omega) _
/-- four lists came out, one behind the other: roles for their blocks -/
def r4 (ρ : Nat → Nat) (s1 s2 s3 s4 c : Nat) : Nat → Nat := fun k => if k < s1 then ρ k else if k < s2 then 3 + c else if k < s3 then 0 else if k < s4 then 3 + (c + 1) else 0
set_option maxRecDepth 100000 in
set_option maxHeartbeats 4000000 in
theorem paths8_law (size index first second : Int) (hs1 : -9223372036854775808 ≤ size) (hs2 : size ≤ 9223372036854775807) (hi1 : -9223372036854775808 ≤ index) (hi2 : index ≤ 9223372036854775807) (hf1 : -9223372036854775808 ≤ first) (hf2 : first ≤ 9223372036854775807) (hc1 : -9223372036854775808 ≤ second) (hc2 : second ≤ 9223372036854775807) (w : World) (Z : Tb w) :
    Calls Tryd.prog 6 #[.int .i64 size, .int .i64 index, .int .i64 first, .int .i64 second] w fun r w' => r = .returned (.bool true) ∧ Below w.heap.size w w' := by
  have i0 := known8_any w Z
  obtain ⟨p1, hp1, hp1'⟩ := pk_nat size 1099511627776 (by omega)
  have k1 : ∀ w', Calls Tryd.prog 10 #[.int .i64 size, .int .i64 1099511627776] w' fun e w'' => e = .returned (.int .i64 (p1 : Int)) ∧ w'' = w' := fun w' => by
    have := pick_any size 1099511627776 hs1 hs2 (by omega) (by omega) w'
    rw [show pk size 1099511627776 = (p1 : Int) from hp1.out] at this
    exact this
  obtain ⟨n, hn⟩ : ∃ n : Nat, n = p1 + 1 := ⟨_, rfl⟩
  have hnw : IntKind.i64.wrap (1 + (p1 : Int)) = (n : Int) := by rw [IntKind.wrap_i64]; omega
  obtain ⟨p2, hp2, hp2'⟩ := pk_nat second 1099511627776 (by omega)
  have k2 : ∀ w', Calls Tryd.prog 10 #[.int .i64 second, .int .i64 1099511627776] w' fun e w'' => e = .returned (.int .i64 (p2 : Int)) ∧ w'' = w' := fun w' => by
    have := pick_any second 1099511627776 hc1 hc2 (by omega) (by omega) w'
    rw [show pk second 1099511627776 = (p2 : Int) from hp2.out] at this
    exact this
  obtain ⟨m, hm⟩ : ∃ m : Nat, m = p2 + 1 := ⟨_, rfl⟩
  have hmw : IntKind.i64.wrap (1 + (p2 : Int)) = (m : Int) := by rw [IntKind.wrap_i64]; omega
  obtain ⟨p3, hp3, hp3'⟩ := pk_nat index n (by omega)
  have k3 := fun w' => pick_any index (n : Int) hi1 hi2 (by omega) (by omega) w'
  rw [hp3.out] at k3
  obtain ⟨p4, hp4, hp4'⟩ := pk_nat first m (by omega)
  have k4 := fun w' => pick_any first (m : Int) hf1 hf2 (by omega) (by omega) w'
  rw [hp4.out] at k4
  obtain ⟨q, hq⟩ : ∃ q : Nat, q = p4 + 1 := ⟨_, rfl⟩
  have hqw : IntKind.i64.wrap (1 + (p4 : Int)) = (q : Int) := by rw [IntKind.wrap_i64]; omega
  clear hn hm hq hp1' hp2' hp3' hp4' hp1 hp2 hp3 hp4
  go_enter Tryd.func6, Tryd.ntmps6
  go_wp2_with (first
    | (go_at_call 9; refine i0.mono ?_; rintro r w1 ⟨rfl, b1⟩; have B1 := hid b1; clear i0 b1)
    | (go_at_call 10; (first | (with_reducible refine (k1 _).mono ?_) | (with_reducible refine (k2 _).mono ?_) | (with_reducible refine (k3 _).mono ?_) | (with_reducible refine (k4 _).mono ?_)); rintro r w' ⟨rfl, h0⟩; have h0 := h0.symm; subst h0))
  obtain ⟨rX, r1, r2, r3, r4, bB⟩ := start5 w1 (.cells #[.slice none 0 0, .slice none 0 0, .slice none 0 0, .slice none 0 0, .slice none 0 0, .slice none 0 0] 33) (.cells #[.int .i64 index, .int .i64 (p3 : Int), .int .i64 index] 3) (.cells #[.int .i64 size, .int .i64 (n : Int), .int .i64 size] 3) (.cells #[.int .i64 first, .int .i64 (q : Int), .int .i64 first] 3) (.cells #[.int .i64 second, .int .i64 (m : Int), .int .i64 second] 3)
  generalize hwB : ((((w1.alloc (.cells #[.slice none 0 0, .slice none 0 0, .slice none 0 0, .slice none 0 0, .slice none 0 0, .slice none 0 0] 33)).alloc (.cells #[.int .i64 index, .int .i64 (p3 : Int), .int .i64 index] 3)).alloc (.cells #[.int .i64 size, .int .i64 (n : Int), .int .i64 size] 3)).alloc (.cells #[.int .i64 first, .int .i64 (q : Int), .int .i64 first] 3)).alloc (.cells #[.int .i64 second, .int .i64 (m : Int), .int .i64 second] 3) = wB at *
  clear hwB
  have hXB : w.heap.size ≤ w1.heap.size := B1.out.size
  have BB := hid (B1.out.trans (bB.mono hXB))
  have hBs : w.heap.size ≤ wB.heap.size := BB.out.size
  have L1 := hid (lt_of_heap r1)
  have L2 := hid (lt_of_heap r2)
  have L3 := hid (lt_of_heap r3)
  have L4 := hid (lt_of_heap r4)
  have H0 := hid (Bh.new hXB rX)
  have Q1 : Hid (R3 wB (w1.heap.size + 1) index (p3 : Int) index) := r1
  have Q2 : Hid (R3 wB (w1.heap.size + 1 + 1) size (n : Int) size) := r2
  have Q3 : Hid (R3 wB (w1.heap.size + 1 + 1 + 1) first (q : Int) first) := r3
  have Q4 : Hid (R3 wB (w1.heap.size + 1 + 1 + 1 + 1) second (m : Int) second) := r4
  clear rX r1 r2 r3 r4 bB B1 k1 k2 k3 k4
  obtain ⟨X, hX⟩ : ∃ X, w1.heap.size = X := ⟨_, rfl⟩
  rw [hX] at H0 Q1 Q2 Q3 Q4 L1 L2 L3 L4 hXB ⊢
  obtain ⟨g1, hg1⟩ : ∃ g1, X + 1 = g1 := ⟨_, rfl⟩
  obtain ⟨g2, hg2⟩ : ∃ g2, X + 1 + 1 = g2 := ⟨_, rfl⟩
  obtain ⟨g3, hg3⟩ : ∃ g3, X + 1 + 1 + 1 = g3 := ⟨_, rfl⟩
  obtain ⟨g4, hg4⟩ : ∃ g4, X + 1 + 1 + 1 + 1 = g4 := ⟨_, rfl⟩
  rw [hg4] at Q4 L4 ⊢
  rw [hg3] at Q3 L3 ⊢
  rw [hg2] at Q2 L2 ⊢
  rw [hg1] at Q1 L1 ⊢
  have HG := hid (show g1 ≠ X ∧ g2 ≠ X ∧ g3 ≠ X ∧ g4 ≠ X by omega)
  clear hg1 hg2 hg3 hg4 hX
  go_loopw [17, 18, 19, 20, 21, 22, 23, 24, 25] (fun i _ _ _ _ _ _ _ _ w' => ∃ (J : Nat) (ρ : Nat → Nat) (vh vw : Value) (hv wv : List Value) (Ws : List (List (Nat × Nat))), J ≤ 3 ∧ i = .int .i64 (J : Int) ∧ Ws.length = 2 * J ∧ Hid (∀ W ∈ Ws, W.length ≤ 1000000) ∧ Hid (Bh w.heap.size X wB ρ w' vh vw hv wv Ws)) (fun i _ _ _ _ _ _ _ _ _ => 3 - (intOf i).toNat)
  case atStart => exact ⟨0, _, _, _, _, _, [], by omega, rfl, rfl, hid (fun W h => by cases h), H0⟩
  case round =>
    clear H0
    obtain ⟨J, ρ, vh, vw, hv, wv, Ws, hJ, rfl, hWl, hWs, hH⟩ := hrel
    by_cases hJ3 : J < 3
    · have b0 : (J : Int) < 3 := by omega
      have j0 : (0 : Int) ≤ (J : Int) := by omega
      have c1 : wr.cell? ⟨g1, J, none⟩ = _ := R3.cell (show R3 wr g1 _ _ _ from (hH.out.fr g1 L1.out HG.out.1).trans Q1.out) hJ3
      have c2 : wr.cell? ⟨g2, J, none⟩ = _ := R3.cell (show R3 wr g2 _ _ _ from (hH.out.fr g2 L2.out HG.out.2.1).trans Q2.out) hJ3
      have c3 : wr.cell? ⟨g3, J, none⟩ = _ := R3.cell (show R3 wr g3 _ _ _ from (hH.out.fr g3 L3.out HG.out.2.2.1).trans Q3.out) hJ3
      have c4 : wr.cell? ⟨g4, J, none⟩ = _ := R3.cell (show R3 wr g4 _ _ _ from (hH.out.fr g4 L4.out HG.out.2.2.2).trans Q4.out) hJ3
      have l1 := block_lt_of_cell c1
      have l2 := block_lt_of_cell c2
      have l3 := block_lt_of_cell c3
      have l4 := block_lt_of_cell c4
      generalize t3 index (p3 : Int) index J = I at *
      generalize t3 size (n : Int) size J = N at *
      generalize t3 first (q : Int) first J = F at *
      generalize t3 second (m : Int) second J = M at *
      have i1 := path8_any N I wr.drew
      go_upto_region 12 with fail
      go_cut [18, 19] from 57 to 124 (fun v e w' => e = .int .i64 (pathE N I) ∧ Hid (OwnP w' v (pathL N I)) ∧ Hid (∀ k, v.ownBlock = some k → wr.heap.size ≤ k) ∧ Hid (Below wr.heap.size wr w'))
      case first =>
        go_region_held3 (fun w' => w'.cell? ⟨g2, J, none⟩ = some (.int .i64 N) ∧ w'.cell? ⟨g1, J, none⟩ = some (.int .i64 I)) (first | exact e4 | exact ⟨c2, c1⟩)
          (first | (go_at_call 19; (with_reducible refine i1.mono ?_); rintro r w2 ⟨b2', v2, rfl, O2, F2⟩; have b2 := drewBelow8 b2'; have e4 := And.intro ((b2.cell (p := ⟨g2, J, none⟩) l2).trans c2) ((b2.cell (p := ⟨g1, J, none⟩) l1).trans c1)))
        all_goals
          have HO := hid O2
          have HF : Hid (∀ k, v2.ownBlock = some k → wr.heap.size ≤ k) := F2
          have HB2 := hid b2
          clear O2 F2 b2 b2' e4
          go_wp2_with fail
          go_meet
          exact ⟨rfl, HO, HF, HB2⟩
      case rest =>
        obtain ⟨rfl, O1, F1, B1⟩ := hcut
        obtain ⟨wA, rfl⟩ : ∃ w', w' = wc := ⟨_, rfl⟩
        have c1 := (B1.out.cell (p := ⟨g1, J, none⟩) l1).trans c1
        have c2 := (B1.out.cell (p := ⟨g2, J, none⟩) l2).trans c2
        have c3 := (B1.out.cell (p := ⟨g3, J, none⟩) l3).trans c3
        have c4 := (B1.out.cell (p := ⟨g4, J, none⟩) l4).trans c4
        have l1 := block_lt_of_cell c1
        have l2 := block_lt_of_cell c2
        have l3 := block_lt_of_cell c3
        have l4 := block_lt_of_cell c4
        have i2 := rPath8_any N I wA.drew
        go_upto_region 13 with fail
        go_cut [20, 21] from 57 to 124 (fun v e w' => e = .int .i64 (pathE N I) ∧ Hid (OwnP w' v (pathL N I)) ∧ Hid (∀ k, v.ownBlock = some k → wA.heap.size ≤ k) ∧ Hid (Below wA.heap.size wA w'))
        case first =>
          go_region_held3 (fun w' => w'.cell? ⟨g2, J, none⟩ = some (.int .i64 N) ∧ w'.cell? ⟨g1, J, none⟩ = some (.int .i64 I)) (first | exact e4 | exact ⟨c2, c1⟩)
            (first | (go_at_call 26; (with_reducible refine i2.mono ?_); rintro r w2 ⟨b2', v2, rfl, O2, F2⟩; have b2 := drewBelow8 b2'; have e4 := And.intro ((b2.cell (p := ⟨g2, J, none⟩) l2).trans c2) ((b2.cell (p := ⟨g1, J, none⟩) l1).trans c1)))
          all_goals
            have HO := hid O2
            have HF : Hid (∀ k, v2.ownBlock = some k → wA.heap.size ≤ k) := F2
            have HB2 := hid b2
            clear O2 F2 b2 b2' e4
            go_wp2_with fail
            go_meet
            exact ⟨rfl, HO, HF, HB2⟩
        case rest =>
          obtain ⟨rfl, O2, F2, B2⟩ := hcut
          obtain ⟨wB2, rfl⟩ : ∃ w', w' = wc := ⟨_, rfl⟩
          have c3 := (B2.out.cell (p := ⟨g3, J, none⟩) l3).trans c3
          have c4 := (B2.out.cell (p := ⟨g4, J, none⟩) l4).trans c4
          have l3 := block_lt_of_cell c3
          have l4 := block_lt_of_cell c4
          have i3 := proof8_any F M wB2.drew
          go_upto_region 14 with fail
          go_cut [22, 23] from 57 to 124 (fun v e w' => e = .int .i64 (proofE F M) ∧ Hid (OwnP w' v (proofL F M)) ∧ Hid (∀ k, v.ownBlock = some k → wB2.heap.size ≤ k) ∧ Hid (Below wB2.heap.size wB2 w'))
          case first =>
            go_region_held3 (fun w' => w'.cell? ⟨g3, J, none⟩ = some (.int .i64 F) ∧ w'.cell? ⟨g4, J, none⟩ = some (.int .i64 M)) (first | exact e4 | exact ⟨c3, c4⟩)
              (first | (go_at_call 20; (with_reducible refine i3.mono ?_); rintro r w2 ⟨b2', v2, rfl, O2, F2⟩; have b2 := drewBelow8 b2'; have e4 := And.intro ((b2.cell (p := ⟨g3, J, none⟩) l3).trans c3) ((b2.cell (p := ⟨g4, J, none⟩) l4).trans c4)))
            all_goals
              have HO := hid O2
              have HF : Hid (∀ k, v2.ownBlock = some k → wB2.heap.size ≤ k) := F2
              have HB2 := hid b2
              clear O2 F2 b2 b2' e4
              go_wp2_with fail
              go_meet
              exact ⟨rfl, HO, HF, HB2⟩
          case rest =>
            obtain ⟨rfl, O3, F3, B3⟩ := hcut
            obtain ⟨wC, rfl⟩ : ∃ w', w' = wc := ⟨_, rfl⟩
            have c3 := (B3.out.cell (p := ⟨g3, J, none⟩) l3).trans c3
            have c4 := (B3.out.cell (p := ⟨g4, J, none⟩) l4).trans c4
            have l3 := block_lt_of_cell c3
            have l4 := block_lt_of_cell c4
            have i4 := rProof8_any F M wC.drew
            go_upto_region 15 with fail
            go_cut [24, 25] from 57 to 124 (fun v e w' => e = .int .i64 (proofE F M) ∧ Hid (OwnP w' v (proofL F M)) ∧ Hid (∀ k, v.ownBlock = some k → wC.heap.size ≤ k) ∧ Hid (Below wC.heap.size wC w'))
            case first =>
              go_region_held3 (fun w' => w'.cell? ⟨g3, J, none⟩ = some (.int .i64 F) ∧ w'.cell? ⟨g4, J, none⟩ = some (.int .i64 M)) (first | exact e4 | exact ⟨c3, c4⟩)
                (first | (go_at_call 27; (with_reducible refine i4.mono ?_); rintro r w2 ⟨b2', v2, rfl, O2, F2⟩; have b2 := drewBelow8 b2'; have e4 := And.intro ((b2.cell (p := ⟨g3, J, none⟩) l3).trans c3) ((b2.cell (p := ⟨g4, J, none⟩) l4).trans c4)))
              all_goals
                have HO := hid O2
                have HF : Hid (∀ k, v2.ownBlock = some k → wC.heap.size ≤ k) := F2
                have HB2 := hid b2
                clear O2 F2 b2 b2' e4
                go_wp2_with fail
                go_meet
                exact ⟨rfl, HO, HF, HB2⟩
            case rest =>
              obtain ⟨rfl, O4, F4, B4⟩ := hcut
              obtain ⟨wD, rfl⟩ : ∃ w', w' = wc := ⟨_, rfl⟩
              have s1 := B1.out.size
              have s2 := B2.out.size
              have s3 := B3.out.size
              have s4 := B4.out.size
              have b34 := B3.out.trans (B4.out.mono s3)
              have b24 := B2.out.trans (b34.mono s2)
              have b14 := B1.out.trans (b24.mono s1)
              have H5 := hH.out.below hBs b14 (r4 ρ wr.heap.size wA.heap.size wB2.heap.size wC.heap.size (2 * J)) (fun k hk => if_pos hk)
              have q1 := O1.out.below b24
              have q2 := O2.out.below b34
              have q3 := O3.out.below B4.out
              have t1 : ∀ k, u18.ownBlock = some k → r4 ρ wr.heap.size wA.heap.size wB2.heap.size wC.heap.size (2 * J) k = 3 + Ws.length := fun k hk => by
                have := F1.out k hk; have := O1.out.lt k hk
                unfold r4; rw [if_neg (by omega), if_pos (by omega), hWl]
              have t2 : ∀ k, u20.ownBlock = some k → r4 ρ wr.heap.size wA.heap.size wB2.heap.size wC.heap.size (2 * J) k = 0 := fun k hk => by
                have := F2.out k hk; have := O2.out.lt k hk
                unfold r4; rw [if_neg (by omega), if_neg (by omega), if_pos (by omega)]
              have t3' : ∀ k, u22.ownBlock = some k → r4 ρ wr.heap.size wA.heap.size wB2.heap.size wC.heap.size (2 * J) k = 3 + (2 * J + 1) := fun k hk => by
                have := F3.out k hk; have := O3.out.lt k hk
                unfold r4; rw [if_neg (by omega), if_neg (by omega), if_neg (by omega), if_pos (by omega)]
              have t4 : ∀ k, u24.ownBlock = some k → r4 ρ wr.heap.size wA.heap.size wB2.heap.size wC.heap.size (2 * J) k = 0 := fun k hk => by
                have := F4.out k hk
                unfold r4; rw [if_neg (by omega), if_neg (by omega), if_neg (by omega), if_neg (by omega)]
              generalize r4 ρ wr.heap.size wA.heap.size wB2.heap.size wC.heap.size (2 * J) = ρ5 at *
              have y1 := holds_any H5 hBs (by omega) (pathL N I) u18 u20 q1 t1 q2 t2
              have HQ3 := hid q3
              have HQ4 := O4
              have HT3 := hid t3'
              have HT4 := hid t4
              have few1 := hid (pathL_few N I)
              have few2 := hid (proofL_few F M)
              generalize pathL N I = P1 at *
              generalize proofL F M = P2 at *
              generalize pathE N I = E1 at *
              generalize proofE F M = E2 at *
              clear H5 q1 q2 q3 t1 t2 t3' t4 O1 O2 O3 O4 F1 F2 F3 F4 B1 B2 B3 B4 b34 b24 b14 hH i1 i2 i3 i4 c1 c2 c3 c4 l1 l2 l3 l4
              go_wp2_with (go_at_call 28; fail)
              refine y1.mono ?_
              rintro r w6 ⟨rfl, ρ6, vh6, vw6, H6, a6, z6, k6⟩
              have q5 : OwnP w6 u22 P2 := HQ3.out.kept z6 (fun k hk => k6 k (HQ3.out.lt k hk) (by rw [HT3.out k hk]; omega) (by rw [HT3.out k hk]; omega) (by rw [HT3.out k hk]; omega))
              have q6 : OwnP w6 u24 P2 := HQ4.out.kept z6 (fun k hk => k6 k (HQ4.out.lt k hk) (by rw [HT4.out k hk]; omega) (by rw [HT4.out k hk]; omega) (by rw [HT4.out k hk]; omega))
              have y2 := holds_any H6 hBs (by rw [List.length_append]; simp; omega) P2 u22 u24 q5 (fun k hk => by rw [a6 k (HQ3.out.lt k hk), HT3.out k hk, List.length_append, hWl]; rfl) q6 (fun k hk => by rw [a6 k (HQ4.out.lt k hk)]; exact HT4.out k hk)
              clear y1 H6 a6 z6 k6 q5 q6 HQ3 HQ4 HT3 HT4
              go_wp2_with (go_at_call 28; fail)
              refine y2.mono ?_
              rintro r w7 ⟨rfl, ρ7, vh7, vw7, H7, _, _, _⟩
              have H7 := hid H7
              clear y2
              have z1 : (E1 == E1) = true := by simp
              have z2 : (E2 == E2) = true := by simp
              go_wp2
              exact ⟨⟨J + 1, _, _, _, _, _, _, by omega, by go_num, by rw [List.length_append, List.length_append, hWl]; simp; omega, hid (fun W hW => by
                rcases List.mem_append.1 hW with hW | hW
                · rcases List.mem_append.1 hW with hW | hW
                  · exact hWs.out W hW
                  · rw [List.mem_singleton.1 hW]; exact few1.out
                · rw [List.mem_singleton.1 hW]; exact few2.out), H7⟩, by simp [intOf]; omega⟩
    · obtain rfl : J = 3 := by omega
      have i9 := still_B hH.out hBs (by omega) (fun W hW => Nat.le_trans (hWs.out W hW) (by decide))
      have BB2 := BB
      clear hH hWs
      go_wp2_with (go_at_call 17; refine i9.mono ?_; rintro r we ⟨rfl, be⟩; have BE := hid be; clear be)
      go_ret
      exact ⟨rfl, BB2.out.trans BE.out⟩
end Go.Proofs.YtejdecfpegpgcaaDoor

namespace Go.Proofs.YtejdecfpegpgcaaDoor
open Go.RowKit Go.Shelf
theorem batchL_few (N : Int) (ps : List Int) : (batchL N ps).length ≤ 1099511627776 := by
  unfold batchL
  split
  · next h =>
    have ok := BatOk.of h
    have n1 := ok.n1
    have n2 := ok.n2
    obtain ⟨M, rfl⟩ : ∃ M : Nat, N = (M : Int) := ⟨N.toNat, by omega⟩
    have c := (bat_count ok).1
    rw [Int.toNat_natCast]
    omega
  · simp
theorem runL_few (n x y : Int) : (runL n x y).length ≤ 1099511627776 := by
  unfold runL
  split
  · next h =>
    unfold runE at h
    split at h
    · split at h
      · next h1 h2 =>
        have c := Apt_len (Tree.runF_apart x.toNat y.toNat n.toNat 0 n.toNat (by omega) (Nat.le_refl _) (by omega))
        omega
      · cases h
    · cases h
  · simp
theorem ne_book {w : World} {X : Nat} {a : Option Addr} {l : List Int} (h : w.heap[X]? = some (.cells #[.slice none 0 0, .slice none 0 0, .slice none 0 0, .slice none 0 0, .slice none 0 0, .slice none 0 0] 33 (0, 0))) (hA : AtI w a l) : ∀ x : Addr, a = some x → l ≠ [] → x.block ≠ X := fun x e hl hb => by
  obtain ⟨p, l', rfl⟩ := List.exists_cons_of_ne_nil hl
  obtain ⟨y, e', h1, h2⟩ := hA 0 p rfl
  rw [e] at e'
  cases e'
  rw [show x.add 0 = x from rfl] at h2
  unfold World.cell? at h2
  rw [hb, h] at h2
  simp only at h2
  split at h2
  · cases h2
  · rcases hx : x.off with _ | _ | _ | _ | _ | _ | k
    all_goals rw [hx] at h2
    all_goals simp at h2
/-- three spans in a row -/
def Q6 (w : World) (g : Nat) (a b c d e f : Int) : Prop := w.heap[g]? = some (.cells #[.int .i64 a, .int .i64 b, .int .i64 c, .int .i64 d, .int .i64 e, .int .i64 f] 25 (0, 0))
theorem Q6.cell {w : World} {g : Nat} {a b c d e f : Int} (h : Q6 w g a b c d e f) {J : Nat} (hJ : J < 3) : w.cell? ⟨g, J * 2, none⟩ = some (.int .i64 (t3 a c e J)) ∧ w.cell? ⟨g, J * 2 + 1, none⟩ = some (.int .i64 (t3 b d f J)) := by
  rw [cell_of_row _ _ _ _ _ _ h, cell_of_row _ _ _ _ _ _ h]
  rcases J with _ | _ | _ | J
  · exact ⟨rfl, rfl⟩
  · exact ⟨rfl, rfl⟩
  · exact ⟨rfl, rfl⟩
  · omega
theorem start2 (w : World) (o0 o1 : Obj) : ((w.alloc o0).alloc o1).heap[w.heap.size]? = some o0 ∧ ((w.alloc o0).alloc o1).heap[w.heap.size + 1]? = some o1 ∧ Below w.heap.size w ((w.alloc o0).alloc o1) := by
  have s0 := size_alloc w o0
  refine ⟨(((Below.refl (w.alloc o0).heap.size _).alloc (Nat.le_refl _) o1).block _ (by omega)).trans (heap_alloc_new w o0), ?_, ((Below.refl _ w).alloc (Nat.le_refl _) _).alloc (by omega) _⟩
  have := heap_alloc_new (w.alloc o0) o1
  rw [s0] at this
  exact this
/-- two lists came out, one behind the other: roles for their blocks -/
def r2 (ρ : Nat → Nat) (s1 s2 c : Nat) : Nat → Nat := fun k => if k < s1 then ρ k else if k < s2 then 3 + c else 0
set_option maxRecDepth 100000 in
set_option maxHeartbeats 4000000 in
theorem batches8_law (size bg en : Int) (cs : List Int) (a : Option Addr) (cap : Nat) (hs1 : -9223372036854775808 ≤ size) (hs2 : size ≤ 9223372036854775807) (hb1 : -9223372036854775808 ≤ bg) (hb2 : bg ≤ 9223372036854775807) (he1 : -9223372036854775808 ≤ en) (he2 : en ≤ 9223372036854775807) (hcs : cs.length ≤ 17592186043904) (hw : ∀ x ∈ cs, -9223372036854775808 ≤ x ∧ x ≤ 9223372036854775807) (w : World) (hA : AtI w a cs) (Z : Tb w) :
    Calls Tryd.prog 7 #[.int .i64 size, .slice a cs.length cap, .int .i64 bg, .int .i64 en] w fun r w' => r = .returned (.bool true) ∧ Below w.heap.size w w' := by
  have i0 := known8_any w Z
  obtain ⟨p1, hp1, hp1'⟩ := pk_nat size 1099511627776 (by omega)
  have k1 : ∀ w', Calls Tryd.prog 10 #[.int .i64 size, .int .i64 1099511627776] w' fun e w'' => e = .returned (.int .i64 (p1 : Int)) ∧ w'' = w' := fun w' => by
    have := pick_any size 1099511627776 hs1 hs2 (by omega) (by omega) w'
    rw [show pk size 1099511627776 = (p1 : Int) from hp1.out] at this
    exact this
  obtain ⟨n, hn⟩ : ∃ n : Nat, n = p1 + 1 := ⟨_, rfl⟩
  have hnw : IntKind.i64.wrap (1 + (p1 : Int)) = (n : Int) := by rw [IntKind.wrap_i64]; omega
  obtain ⟨p3, hp3, hp3'⟩ := pk_nat bg n (by omega)
  have k3 := fun w' => pick_any bg (n : Int) hb1 hb2 (by omega) (by omega) w'
  rw [hp3.out] at k3
  obtain ⟨m, hm⟩ : ∃ m : Nat, m = n - p3 := ⟨_, rfl⟩
  have hmw : IntKind.i64.wrap ((n : Int) - (p3 : Int)) = (m : Int) := by rw [IntKind.wrap_i64]; omega
  obtain ⟨p4, hp4, hp4'⟩ := pk_nat en m (by omega)
  have k4 := fun w' => pick_any en (m : Int) he1 he2 (by omega) (by omega) w'
  rw [hp4.out] at k4
  obtain ⟨q, hq⟩ : ∃ q : Nat, q = p3 + 1 := ⟨_, rfl⟩
  have hqw : IntKind.i64.wrap ((p3 : Int) + 1) = (q : Int) := by rw [IntKind.wrap_i64]; omega
  obtain ⟨E, hE⟩ : ∃ E : Nat, E = q + p4 := ⟨_, rfl⟩
  have hEw : IntKind.i64.wrap ((q : Int) + (p4 : Int)) = (E : Int) := by rw [IntKind.wrap_i64]; omega
  have i4 := fun w' h => rising8_any n cs a cap (by omega) (by omega) (by omega) hw w' h
  have HA := hid hA
  have hcs' : cs.length ≤ 17592186044400 := by omega
  have Jb := fun (X : Nat) (w0 w' : World) (ρ : Nat → Nat) (vh vw : Value) (hv wv : List Value) (Ws : List (List (Nat × Nat))) (h : Bh w.heap.size X w0 ρ w' vh vw hv wv Ws) (hB : w.heap.size ≤ w0.heap.size) (hc : Ws.length + 3 ≤ 1000) (N : Int) (hA : AtI w0 a cs) (hX : ∀ x : Addr, a = some x → cs ≠ [] → x.block ≠ X) => batch_any h hB hc N cs a cap hcs' hA hX
  obtain ⟨nc, hnc⟩ : ∃ nc, cs.length = nc := ⟨_, rfl⟩
  rw [hnc] at i4 Jb ⊢
  clear hn hm hq hE hp1' hp3' hp4' hp1 hp3 hp4 hA hw hcs hcs' hnc
  go_enter Tryd.func7, Tryd.ntmps7
  go_wp2_with (first
    | (go_at_call 9; refine i0.mono ?_; rintro r w1 ⟨rfl, b1⟩; have B1 := hid b1; clear i0 b1)
    | (go_at_call 10; with_reducible refine (k1 _).mono ?_; rintro r w' ⟨rfl, h0⟩; have h0 := h0.symm; subst h0)
    | (go_at_call 18; fail))
  have hXB : w.heap.size ≤ w1.heap.size := B1.out.size
  have hbB : Below w1.heap.size w1 (w1.alloc (.cells #[.slice none 0 0, .slice none 0 0, .slice none 0 0, .slice none 0 0, .slice none 0 0, .slice none 0 0] 33)) := (Below.refl _ w1).alloc (Nat.le_refl _) _
  have hAB := HA.out.below (B1.out.trans (hbB.mono hXB)) (Nat.le_refl _)
  refine (i4 _ hAB).mono ?_
  rintro r w3 ⟨a', cap', L, rfl, hA1, hok, b3⟩
  have rX := (b3.block w1.heap.size (by rw [size_alloc]; omega)).trans (heap_alloc_new w1 _)
  have A0 := hid (hAB.below b3 (Nat.le_refl _))
  have A1 := hid hA1
  have B3 := hid (B1.out.trans ((hbB.trans (b3.mono (by rw [size_alloc]; omega))).mono hXB))
  have hB : w.heap.size ≤ w3.heap.size := B3.out.size
  have X0 := hid (ne_book rX A0.out)
  have X1 := hid (ne_book rX A1.out)
  have H0 := hid (Bh.new hXB rX)
  have hl1 := hok.l1
  have hl2 := hok.l2
  obtain ⟨nL, hnL⟩ : ∃ nL, L.length = nL := ⟨_, rfl⟩
  have y1 := Jb _ _ _ _ _ _ _ _ _ H0.out hB (by decide) size A0.out X0.out
  have Jr := fun (w' : World) (ρ : Nat → Nat) (vh vw : Value) (hv wv : List Value) (Ws : List (List (Nat × Nat))) (h : Bh w.heap.size w1.heap.size w3 ρ w' vh vw hv wv Ws) (hc : Ws.length + 3 ≤ 1000) (N : Int) => batch_any h hB hc N L a' cap' (by omega) A1.out X1.out
  rw [hnL] at Jr ⊢
  clear hAB hA1 b3 hbB rX H0 A1 X1 hok hl1 hl2 hnL i4 B1 k1
  generalize w1.heap.size = X at *
  go_wp2_with (go_at_call 29; fail)
  refine y1.mono ?_
  rintro r w4 ⟨rfl, ρ4, vh4, vw4, hv4, wv4, h4⟩
  have H4 := hid h4
  clear y1 h4
  have y2 := Jr _ _ _ _ _ _ _ H4.out (by simp) (n : Int)
  go_wp2_with (go_at_call 29; fail)
  refine y2.mono ?_
  rintro r w5 ⟨rfl, ρ5, vh5, vw5, hv5, wv5, h5⟩
  have H5 := hid h5
  clear y2 h5 Jr H4
  have y3 := Jb _ _ _ _ _ _ _ _ _ H5.out hB (by simp) (n : Int) A0.out X0.out
  go_wp2_with (go_at_call 29; fail)
  refine y3.mono ?_
  rintro r w6 ⟨rfl, ρ6, vh6, vw6, hv6, wv6, h6⟩
  have H6 := hid h6
  clear y3 h6 Jb H5 A0 X0
  go_wp2_with (go_at_call 10; (first | (with_reducible refine (k3 _).mono ?_) | (with_reducible refine (k4 _).mono ?_)); rintro r w' ⟨rfl, h0⟩; have h0 := h0.symm; subst h0)
  obtain ⟨r1, r2', bS⟩ := start2 w6 (.cells #[.int .i64 bg, .int .i64 en, .int .i64 (p3 : Int), .int .i64 (E : Int), .int .i64 bg, .int .i64 en] 25) (.cells #[.int .i64 size, .int .i64 (n : Int), .int .i64 (n : Int)] 3)
  have hz : w6.heap.size < ((w6.alloc (.cells #[.int .i64 bg, .int .i64 en, .int .i64 (p3 : Int), .int .i64 (E : Int), .int .i64 bg, .int .i64 en] 25)).alloc (.cells #[.int .i64 size, .int .i64 (n : Int), .int .i64 (n : Int)] 3)).heap.size := lt_of_heap r1
  generalize (w6.alloc (.cells #[.int .i64 bg, .int .i64 en, .int .i64 (p3 : Int), .int .i64 (E : Int), .int .i64 bg, .int .i64 en] 25)).alloc (.cells #[.int .i64 size, .int .i64 (n : Int), .int .i64 (n : Int)] 3) = wS at *
  have H7 := hid (H6.out.below hB bS (rx ρ6 w6 0) (fun k hk => rx_old hk))
  have Q1 : Hid (Q6 wS w6.heap.size bg en (p3 : Int) (E : Int) bg en) := r1
  have Q2 : Hid (R3 wS (w6.heap.size + 1) size (n : Int) (n : Int)) := r2'
  have z1 : rx ρ6 w6 0 w6.heap.size = 0 := rx_new (Nat.le_refl _)
  have z2 : rx ρ6 w6 0 (w6.heap.size + 1) = 0 := rx_new (Nat.le_succ _)
  have F0 : Hid (∀ W ∈ [] ++ [batchL size cs] ++ [batchL size cs] ++ [batchL size (cs.map dec8)] ++ [batchL (n : Int) L] ++ [batchL (n : Int) L] ++ [batchL (n : Int) (L.map dec8)] ++ [batchL (n : Int) cs] ++ [batchL (n : Int) cs] ++ [batchL (n : Int) (cs.map dec8)], W.length ≤ 1099511627776) := fun W hW => by
    simp only [List.nil_append, List.cons_append, List.mem_cons, List.not_mem_nil, or_false] at hW
    rcases hW with rfl | rfl | rfl | rfl | rfl | rfl | rfl | rfl | rfl <;> exact batchL_few _ _
  have N0 : ([] ++ [batchL size cs] ++ [batchL size cs] ++ [batchL size (cs.map dec8)] ++ [batchL (n : Int) L] ++ [batchL (n : Int) L] ++ [batchL (n : Int) (L.map dec8)] ++ [batchL (n : Int) cs] ++ [batchL (n : Int) cs] ++ [batchL (n : Int) (cs.map dec8)]).length = 9 := rfl
  generalize ([] ++ [batchL size cs] ++ [batchL size cs] ++ [batchL size (cs.map dec8)] ++ [batchL (n : Int) L] ++ [batchL (n : Int) L] ++ [batchL (n : Int) (L.map dec8)] ++ [batchL (n : Int) cs] ++ [batchL (n : Int) cs] ++ [batchL (n : Int) (cs.map dec8)]) = W9 at *
  generalize rx ρ6 w6 0 = ρ7 at *
  generalize w6.heap.size = g1 at *
  obtain ⟨g2, hg2⟩ : ∃ g2, g1 + 1 = g2 := ⟨_, rfl⟩
  rw [hg2] at Q2 z2 ⊢
  clear hg2 H6 r1 r2' bS hz k3 k4
  go_loopw [19, 20, 21, 22, 23] (fun i _ _ _ _ w' => ∃ (J : Nat) (ρ : Nat → Nat) (vh vw : Value) (hv wv : List Value) (Ws : List (List (Nat × Nat))), J ≤ 3 ∧ i = .int .i64 (J : Int) ∧ Ws.length = 9 + J ∧ Hid (∀ W ∈ Ws, W.length ≤ 1099511627776) ∧ Hid (Bh w.heap.size X w3 ρ w' vh vw hv wv Ws) ∧ Hid (Q6 w' g1 bg en (p3 : Int) (E : Int) bg en) ∧ Hid (R3 w' g2 size (n : Int) (n : Int)) ∧ ρ g1 = 0 ∧ ρ g2 = 0) (fun i _ _ _ _ _ => 3 - (intOf i).toNat)
  case atStart => exact ⟨0, _, _, _, _, _, _, by omega, rfl, N0, F0, H7, Q1, Q2, z1, z2⟩
  case round =>
    clear H7 Q1 Q2 z1 z2 F0 N0
    obtain ⟨J, ρ, vh, vw, hv, wv, Ws, hJ, rfl, hWl, hWs, hH, hQ1, hQ2, z1, z2⟩ := hrel
    by_cases hJ3 : J < 3
    · have b0 : (J : Int) < 3 := by omega
      have j0 : (0 : Int) ≤ (J : Int) := by omega
      obtain ⟨c1, c2⟩ := hQ1.out.cell hJ3
      have c3 := hQ2.out.cell hJ3
      have l1 : g1 < wr.heap.size := lt_of_heap hQ1.out
      have l2 : g2 < wr.heap.size := lt_of_heap hQ2.out
      generalize t3 bg (p3 : Int) bg J = x at *
      generalize t3 en (E : Int) en J = y at *
      generalize t3 size (n : Int) (n : Int) J = N at *
      have i1 : Calls Tryd.prog 25 #[.int .i64 N, .agg #[.int .i64 x, .int .i64 y]] wr.drew (SpP wr.drew (runE N x y) (runL N x y)) := run8_any N x y wr.drew
      go_upto_region 14 with fail
      go_cut [20, 21] from 70 to 104 (fun v e w' => e = .int .i64 (runE N x y) ∧ Hid (OwnP w' v (runL N x y)) ∧ Hid (∀ k, v.ownBlock = some k → wr.heap.size ≤ k) ∧ Hid (Below wr.heap.size wr w'))
      case first =>
        go_region_held3 (fun w' => w'.cell? ⟨g2, J, none⟩ = some (.int .i64 N) ∧ w'.cell? ⟨g1, J * 2, none⟩ = some (.int .i64 x) ∧ w'.cell? ⟨g1, J * 2 + 1, none⟩ = some (.int .i64 y)) (first | exact e4 | exact ⟨c3, c1, c2⟩)
          (first | (go_at_call 25; (with_reducible refine i1.mono ?_); rintro r w2 ⟨b2', v2, rfl, O2, F2⟩; have b2 := drewBelow8 b2'; have e4 := And.intro ((b2.cell (p := ⟨g2, J, none⟩) l2).trans c3) (And.intro ((b2.cell (p := ⟨g1, J * 2, none⟩) l1).trans c1) ((b2.cell (p := ⟨g1, J * 2 + 1, none⟩) l1).trans c2))))
        all_goals
          have HO := hid O2
          have HF : Hid (∀ k, v2.ownBlock = some k → wr.heap.size ≤ k) := F2
          have HB2 := hid b2
          clear O2 F2 b2 b2' e4
          go_wp2_with fail
          go_meet
          exact ⟨rfl, HO, HF, HB2⟩
      case rest =>
        obtain ⟨rfl, O1, F1, B1⟩ := hcut
        obtain ⟨wA, rfl⟩ : ∃ w', w' = wc := ⟨_, rfl⟩
        have c1 := (B1.out.cell (p := ⟨g1, J * 2, none⟩) l1).trans c1
        have c2 := (B1.out.cell (p := ⟨g1, J * 2 + 1, none⟩) l1).trans c2
        have c3 := (B1.out.cell (p := ⟨g2, J, none⟩) l2).trans c3
        have l1' := l1
        have l2' := l2
        have l1 := block_lt_of_cell c1
        have l2 := block_lt_of_cell c3
        have i2 : Calls Tryd.prog 30 #[.int .i64 N, .agg #[.int .i64 x, .int .i64 y]] wA.drew (SpP wA.drew (runE N x y) (runL N x y)) := rRun8_any N x y wA.drew
        go_upto_region 15 with fail
        go_cut [22, 23] from 70 to 104 (fun v e w' => e = .int .i64 (runE N x y) ∧ Hid (OwnP w' v (runL N x y)) ∧ Hid (∀ k, v.ownBlock = some k → wA.heap.size ≤ k) ∧ Hid (Below wA.heap.size wA w'))
        case first =>
          go_region_held3 (fun w' => w'.cell? ⟨g2, J, none⟩ = some (.int .i64 N) ∧ w'.cell? ⟨g1, J * 2, none⟩ = some (.int .i64 x) ∧ w'.cell? ⟨g1, J * 2 + 1, none⟩ = some (.int .i64 y)) (first | exact e4 | exact ⟨c3, c1, c2⟩)
            (first | (go_at_call 30; (with_reducible refine i2.mono ?_); rintro r w2 ⟨b2', v2, rfl, O2, F2⟩; have b2 := drewBelow8 b2'; have e4 := And.intro ((b2.cell (p := ⟨g2, J, none⟩) l2).trans c3) (And.intro ((b2.cell (p := ⟨g1, J * 2, none⟩) l1).trans c1) ((b2.cell (p := ⟨g1, J * 2 + 1, none⟩) l1).trans c2))))
          all_goals
            have HO := hid O2
            have HF : Hid (∀ k, v2.ownBlock = some k → wA.heap.size ≤ k) := F2
            have HB2 := hid b2
            clear O2 F2 b2 b2' e4
            go_wp2_with fail
            go_meet
            exact ⟨rfl, HO, HF, HB2⟩
        case rest =>
          obtain ⟨rfl, O2, F2, B2⟩ := hcut
          obtain ⟨wB2, rfl⟩ : ∃ w', w' = wc := ⟨_, rfl⟩
          have l1 := l1'
          have l2 := l2'
          clear l1' l2'
          have s1 := B1.out.size
          have s2 := B2.out.size
          have b12 := B1.out.trans (B2.out.mono s1)
          have H5 := hH.out.below hB b12 (r2 ρ wr.heap.size wA.heap.size (9 + J)) (fun k hk => if_pos hk)
          have q1 := O1.out.below B2.out
          have t1 : ∀ k, u20.ownBlock = some k → r2 ρ wr.heap.size wA.heap.size (9 + J) k = 3 + Ws.length := fun k hk => by
            have := F1.out k hk; have := O1.out.lt k hk
            unfold r2; rw [if_neg (by omega), if_pos (by omega), hWl]
          have t2 : ∀ k, u22.ownBlock = some k → r2 ρ wr.heap.size wA.heap.size (9 + J) k = 0 := fun k hk => by
            have := F2.out k hk
            unfold r2; rw [if_neg (by omega), if_neg (by omega)]
          have e1 : r2 ρ wr.heap.size wA.heap.size (9 + J) g1 = 0 := (if_pos l1).trans z1
          have e2 : r2 ρ wr.heap.size wA.heap.size (9 + J) g2 = 0 := (if_pos l2).trans z2
          generalize r2 ρ wr.heap.size wA.heap.size (9 + J) = ρ5 at *
          have y1 := holds_any H5 hB (by omega) (runL N x y) u20 u22 q1 t1 O2.out t2
          have few1 := hid (runL_few N x y)
          have G1 := hid (show Q6 wB2 g1 bg en (p3 : Int) (E : Int) bg en from (b12.block g1 l1).trans hQ1.out)
          have G2 := hid (show R3 wB2 g2 size (n : Int) (n : Int) from (b12.block g2 l2).trans hQ2.out)
          generalize runL N x y = P1 at *
          generalize runE N x y = E1 at *
          clear H5 q1 t1 t2 O1 O2 F1 F2 B1 B2 b12 hH i1 i2 c1 c2 c3 l1 l2 hQ1 hQ2 z1 z2
          go_wp2_with (go_at_call 28; fail)
          refine y1.mono ?_
          rintro r w6 ⟨rfl, ρ6, vh6, vw6, H6, a6, z6, k6⟩
          have m1 := lt_of_heap G1.out
          have m2 := lt_of_heap G2.out
          have H6 := hid H6
          have V1 : Hid (Q6 w6 g1 bg en (p3 : Int) (E : Int) bg en) := (k6 g1 m1 (by omega) (by omega) (by omega)).trans G1.out
          have V2 : Hid (R3 w6 g2 size (n : Int) (n : Int)) := (k6 g2 m2 (by omega) (by omega) (by omega)).trans G2.out
          have v1 : ρ6 g1 = 0 := (a6 g1 m1).trans e1
          have v2 : ρ6 g2 = 0 := (a6 g2 m2).trans e2
          clear y1 a6 z6 k6 G1 G2 m1 m2 e1 e2
          have z1 : (E1 == E1) = true := by simp
          go_wp2
          exact ⟨⟨J + 1, _, _, _, _, _, _, by omega, by go_num, by rw [List.length_append, hWl]; rfl, hid (fun W hW => by
            rcases List.mem_append.1 hW with hW | hW
            · exact hWs.out W hW
            · rw [List.mem_singleton.1 hW]; exact few1.out), H6, V1, V2, v1, v2⟩, by simp [intOf]; omega⟩
    · obtain rfl : J = 3 := by omega
      have i9 := still_B hH.out hB (by omega) hWs.out
      have BB2 := B3
      clear hH hWs hQ1 hQ2
      go_wp2_with (go_at_call 17; refine i9.mono ?_; rintro r we ⟨rfl, be⟩; have BE := hid be; clear be)
      go_ret
      exact ⟨rfl, BB2.out.trans BE.out⟩
end Go.Proofs.YtejdecfpegpgcaaDoor

namespace Go.Proofs.YtejdecfpegpgcaaDoor
open Go.ChangeShapes Go.WideShapes Go.ChangeAt Go.RowKit
theorem gDB : Tryd.prog.globalNamed "math/bits.deBruijn64tab" = some 1 := by kernel_rfl
theorem gDBType : (Tryd.prog.globals[1]?).map (·.type) = some 142 := by kernel_rfl
theorem cells64b : Tryd.prog.cellsOf 142 = 64 := by kernel_rfl
theorem cells1b : Tryd.prog.cellsOf 5 = 1 := by kernel_rfl
def four : List (String × DataW Unit) := [("math/bits.deBruijn32tab", Rows.laid_math_bits_deBruijn32tab), ("math/bits.deBruijn64tab", Rows.laid_math_bits_deBruijn64tab), ("scrivener/digest.start", Rows.laid_scrivener_digest_start), ("scrivener/digest.rounds", Rows.laid_scrivener_digest_rounds)]
theorem tb_of {W : World} (h : laidMet Tryd.prog four W) : Tb W := by
  have h1 := laidMet.tail h
  have h2 : Lib.TabIs Tryd.prog W "math/bits.deBruijn64tab" .u8 (Lib.deBruijn64tab.map Int.ofNat) :=
    Lib.tabIs_of_head gDB gDBType Tryd.underlying142 Tryd.underlying5 cells1b cells64b (show laidMet Tryd.prog (("math/bits.deBruijn64tab", Lib.tabData .u8 (Lib.deBruijn64tab.map Int.ofNat)) :: _) W from h1)
  refine ⟨tabs_of (laidMet.tail h1), fun j hj => ?_⟩
  have := h2.cell gDB j (by rw [List.length_map]; exact hj)
  rw [this]
  simp [List.getD_eq_getElem?_getD]
  rw [List.getElem?_eq_getElem (show j < Lib.deBruijn64tab.length from hj)]; simp
/-- A WORLD FOR THE WITNESS: all four tables laid. -/
noncomputable def laidWorld5 (os : Os) : World :=
  { laidWorld os with
    heap := ((laidWorld os).heap.modify 0 (fillObj (Lib.deBruijn32tab.map fun n => Value.int .u8 (Int.ofNat n)).toArray)).modify 1 (fillObj (Lib.deBruijn64tab.map fun n => Value.int .u8 (Int.ofNat n)).toArray) }
end Go.Proofs.YtejdecfpegpgcaaDoor

namespace Go.Proofs.YtejdecfpegpgcaaDoor
open Go.ChangeShapes Go.WideShapes Go.ChangeAt Go.RowKit
theorem bytesS : Tryd.prog.bytesOf 9 = 16 := by kernel_rfl
set_option maxRecDepth 100000 in
/-- a slice of texts among the arguments, by its weight -/
theorem open_atF {H : Type} {enc : TypeId × Value → H} {W : World} {base : Nat} {v : Value} {d : DataW H} {p : List MemPlace}
    (hval : Value.okWide Tryd.prog W .any base 55 v) (hd : DataW.Trod enc Tryd.prog W 0 (fun _ => true) true 55 v d p) (hk : ∀ x ∈ DataW.weights Tryd.prog 55 d, x ≤ reachBytes) :
    ∃ a l cap, v = .slice a l.length cap ∧ At W a l ∧ l.length ≤ cap ∧ cap ≤ 9223372036854775807 ∧ l.length ≤ 8796093021952 := by
  obtain ⟨a0, len0, cap0, rfl⟩ := okWide_slice Tryd.underlying55 hval
  obtain ⟨fuel, hf⟩ := hd
  rcases open_strings Tryd.underlying55 Tryd.underlying9 cellsS hf with ⟨hcs, hx⟩ | ⟨a, len, cap, ss, hcs, _, hl, hm, hz, hx, hcell, hsz⟩
  · simp [Value.cells] at hcs
    obtain ⟨rfl, rfl, rfl⟩ := hcs
    exact ⟨none, [], 0, rfl, At.nil _ _, by simp, by omega, by simp⟩
  · simp [Value.cells] at hcs
    obtain ⟨rfl, rfl, rfl⟩ := hcs
    simp only [Prod.mk.injEq] at hx
    obtain ⟨rfl, _⟩ := hx
    simp only [if_true] at hz
    have hlen : ((ss.take len0).map (·.data.toList)).length = len0 := by simp; omega
    have hw : cap0 * 16 ≤ reachBytes := by
      refine hk _ ?_
      rw [DataW.weights, Tryd.underlying55]
      simp only [bytesS]
      have e : (strs (H := H) (ss.take len0)).length + (strs (H := H) (ss.drop len0)).length = cap0 := by simp [strs]; omega
      rw [e]
      exact List.mem_cons_self
    have hr : reachBytes = 140737488351232 := rfl
    refine ⟨some a, (ss.take len0).map (·.data.toList), cap0, by rw [hlen], fun j p hp => ?_, by omega, hm, by omega⟩
    rw [List.getElem?_map, Option.map_eq_some_iff] at hp
    obtain ⟨s, hs, rfl⟩ := hp
    rw [List.getElem?_take] at hs
    split at hs
    · have hj := (List.getElem?_eq_some_iff.1 hs).1
      have hc := hcell j hj
      rw [List.getD_eq_getElem?_getD, hs] at hc
      refine ⟨a, rfl, ?_, hc⟩
      have := block_lt_of_cell hc
      rwa [addr_block] at this
    · cases hs
theorem weights_head {H : Type} {P : Program} {t : TypeId} {ts : List TypeId} {d : DataW H} {r : List (DataW H)} (h : (DataW.weightsEach P (t :: ts) (d :: r)).all (· ≤ reachBytes) = true) : ∀ x ∈ DataW.weights P t d, x ≤ reachBytes := fun x hx => by
  have := List.all_eq_true.1 h x (by rw [DataW.weightsEach]; exact List.mem_append_left _ hx)
  simpa using this
theorem weights_mem {H : Type} {P : Program} {e : TypeId} {d : DataW H} {x : Nat} : ∀ {l : List (DataW H)}, d ∈ l → x ∈ DataW.weights P e d → x ∈ DataW.weightsAll P e l
  | [], h, _ => by cases h
  | f :: r, h, hx => by
    rw [DataW.weightsAll]
    rcases List.mem_cons.1 h with rfl | h
    · exact List.mem_append_left _ hx
    · exact List.mem_append_right _ (weights_mem h hx)
theorem weights_tail {H : Type} {P : Program} {t : TypeId} {ts : List TypeId} {d : DataW H} {r : List (DataW H)} (h : (DataW.weightsEach P (t :: ts) (d :: r)).all (· ≤ reachBytes) = true) : (DataW.weightsEach P ts r).all (· ≤ reachBytes) = true := by
  rw [List.all_eq_true] at h ⊢
  exact fun x hx => h x (by rw [DataW.weightsEach]; exact List.mem_append_right _ hx)
set_option maxRecDepth 100000 in
/-- a slice of texts among the arguments, by its weight, and by its texts' -/
theorem open_atG {H : Type} {enc : TypeId × Value → H} {W : World} {base : Nat} {v : Value} {d : DataW H} {p : List MemPlace}
    (hval : Value.okWide Tryd.prog W .any base 55 v) (hd : DataW.Trod enc Tryd.prog W 0 (fun _ => true) true 55 v d p) (hk : ∀ x ∈ DataW.weights Tryd.prog 55 d, x ≤ reachBytes) :
    ∃ a l cap, v = .slice a l.length cap ∧ At W a l ∧ l.length ≤ cap ∧ cap ≤ 9223372036854775807 ∧ l.length ≤ 8796093021952 ∧ ∀ q ∈ l, q.length ≤ 140737488351232 := by
  obtain ⟨a0, len0, cap0, rfl⟩ := okWide_slice Tryd.underlying55 hval
  obtain ⟨fuel, hf⟩ := hd
  rcases open_strings Tryd.underlying55 Tryd.underlying9 cellsS hf with ⟨hcs, hx⟩ | ⟨a, len, cap, ss, hcs, _, hl, hm, hz, hx, hcell, hsz⟩
  · simp [Value.cells] at hcs
    obtain ⟨rfl, rfl, rfl⟩ := hcs
    exact ⟨none, [], 0, rfl, At.nil _ _, by simp, by omega, by simp, by simp⟩
  · simp [Value.cells] at hcs
    obtain ⟨rfl, rfl, rfl⟩ := hcs
    simp only [Prod.mk.injEq] at hx
    obtain ⟨rfl, _⟩ := hx
    simp only [if_true] at hz
    have hlen : ((ss.take len0).map (·.data.toList)).length = len0 := by simp; omega
    have hr : reachBytes = 140737488351232 := rfl
    have hw : cap0 * 16 ≤ reachBytes := by
      refine hk _ ?_
      rw [DataW.weights, Tryd.underlying55]
      simp only [bytesS]
      have e : (strs (H := H) (ss.take len0)).length + (strs (H := H) (ss.drop len0)).length = cap0 := by simp [strs]; omega
      rw [e]
      exact List.mem_cons_self
    have hq : ∀ s ∈ ss.take len0, s.data.toList.length ≤ reachBytes := fun s hs => by
      refine hk _ ?_
      rw [DataW.weights, Tryd.underlying55]
      refine List.mem_cons_of_mem _ (List.mem_append_left _ (weights_mem (d := .lit (.string s.data.toList)) ?_ ?_))
      · unfold strs
        exact List.mem_map.2 ⟨s, hs, rfl⟩
      · simp [DataW.weights]
    refine ⟨some a, (ss.take len0).map (·.data.toList), cap0, by rw [hlen], fun j p hp => ?_, by omega, hm, by omega, fun q hq' => ?_⟩
    rotate_left
    · obtain ⟨s, hs, rfl⟩ := List.mem_map.1 hq'
      have := hq s hs
      omega
    rw [List.getElem?_map, Option.map_eq_some_iff] at hp
    obtain ⟨s, hs, rfl⟩ := hp
    rw [List.getElem?_take] at hs
    split at hs
    · have hj := (List.getElem?_eq_some_iff.1 hs).1
      have hc := hcell j hj
      rw [List.getD_eq_getElem?_getD, hs] at hc
      refine ⟨a, rfl, ?_, hc⟩
      have := block_lt_of_cell hc
      rwa [addr_block] at this
    · cases hs
set_option maxRecDepth 100000 in
/-- a text among the arguments, by its weight -/
theorem open_strG {H : Type} {enc : TypeId × Value → H} {W : World} {base : Nat} {v : Value} {d : DataW H} {p : List MemPlace}
    (hval : Value.okWide Tryd.prog W .any base 9 v) (hd : DataW.Trod enc Tryd.prog W 0 (fun _ => true) true 9 v d p) (hk : ∀ x ∈ DataW.weights Tryd.prog 9 d, x ≤ reachBytes) :
    ∃ s : List UInt8, v = sv s ∧ s.length ≤ 140737488351232 := by
  obtain ⟨s0, rfl, rfl, rfl, hs0⟩ := ChangeMaps.open_string Tryd.underlying9 hval hd
  have hr : reachBytes = 140737488351232 := rfl
  have := hk s0.data.toList.length (by simp [DataW.weights])
  exact ⟨s0.data.toList, sv_eta s0, by omega⟩
end Go.Proofs.YtejdecfpegpgcaaDoor

namespace Go.Proofs.YtejdecfpegpgcaaDoor
open Go.ChangeShapes Go.WideShapes Go.ChangeAt Go.RowKit
theorem bytesI : Tryd.prog.bytesOf 3 = 8 := by kernel_rfl
set_option maxRecDepth 100000 in
/-- a slice of whole numbers among the arguments, by its weight -/
theorem open_atIF {H : Type} {enc : TypeId × Value → H} {W : World} {base : Nat} {v : Value} {d : DataW H} {p : List MemPlace}
    (hval : Value.okWide Tryd.prog W .any base 41 v) (hd : DataW.Trod enc Tryd.prog W 0 (fun _ => true) true 41 v d p) (hk : ∀ x ∈ DataW.weights Tryd.prog 41 d, x ≤ reachBytes) :
    ∃ a l cap, v = .slice a l.length cap ∧ AtI W a l ∧ l.length ≤ cap ∧ cap ≤ 9223372036854775807 ∧ l.length ≤ 17592186043904 ∧ ∀ c ∈ l, -9223372036854775808 ≤ c ∧ c ≤ 9223372036854775807 := by
  obtain ⟨a0, len0, cap0, rfl⟩ := okWide_slice Tryd.underlying41 hval
  obtain ⟨fuel, hf⟩ := hd
  rcases open_ints Tryd.underlying41 Tryd.underlying3 cellsI hf with ⟨hcs, hx⟩ | ⟨a, len, cap, zs, hcs, _, hl, hm, hz, hx, hcell, hwf⟩
  · simp [Value.cells] at hcs
    obtain ⟨rfl, rfl, rfl⟩ := hcs
    exact ⟨none, [], 0, rfl, fun j p hp => by simp at hp, by simp, by omega, by simp, fun c hc => by simp at hc⟩
  · simp [Value.cells] at hcs
    obtain ⟨rfl, rfl, rfl⟩ := hcs
    simp only [Prod.mk.injEq] at hx
    obtain ⟨rfl, _⟩ := hx
    simp only [if_true] at hz
    have hlen : (zs.take len0).length = len0 := by simp; omega
    have hw : cap0 * 8 ≤ reachBytes := by
      refine hk _ ?_
      rw [DataW.weights, Tryd.underlying41]
      simp only [bytesI]
      have e : (lits (H := H) .i64 (zs.take len0)).length + (lits (H := H) .i64 (zs.drop len0)).length = cap0 := by simp [lits]; omega
      rw [e]
      exact List.mem_cons_self
    have hr : reachBytes = 140737488351232 := rfl
    refine ⟨some a, zs.take len0, cap0, by rw [hlen], fun j c hc => ?_, by omega, hm, by omega, fun c hc => wf_i64 (hwf c (List.mem_of_mem_take hc))⟩
    rw [List.getElem?_take] at hc
    split at hc
    · have hj := (List.getElem?_eq_some_iff.1 hc).1
      have hc' := hcell j hj
      rw [List.getD_eq_getElem?_getD, hc] at hc'
      refine ⟨a, rfl, ?_, hc'⟩
      have := block_lt_of_cell hc'
      rwa [addr_block] at this
    · cases hc
end Go.Proofs.YtejdecfpegpgcaaDoor
