import Derived.Test.YtbkppdkebcdcoaaDoorCSK6
import Derived.Test.YtbkppdkebcdcoaaDoorCSQ3
import Derived.Test.YtbkppdkebcdcoaaDoorCSL7
namespace Go.Proofs.YtbkppdkebcdcoaaDoor
open Go.RowKit Go.Shelf
theorem Tree.prf_le : ∀ (f b n m : Nat), n ≤ f → b < m → m ≤ b + n → (Tree.prfF f b n m).length ≤ (Tree.pthF f b n (m - 1)).length + 1
  | 0, b, n, m, h, h1, h2 => by omega
  | f + 1, b, n, m, h, h1, h2 => by
    rw [Tree.prfF, Tree.pthF]
    by_cases e : b + n = m
    · rw [if_pos e]; split <;> simp
    · have hn : 2 ≤ n := by omega
      have s1 := Tree.sp_lt hn
      have s2 := Tree.sp_pos hn
      rw [if_neg e, if_neg (show ¬ n < 2 by omega)]
      by_cases hm : m ≤ b + Tree.sp n
      · rw [if_pos hm, if_pos (by omega), List.length_append, List.length_append]
        have := Tree.prf_le f b (Tree.sp n) m (by omega) h1 hm
        simp; omega
      · rw [if_neg hm, if_neg (by omega), List.length_append, List.length_append]
        have := Tree.prf_le f (b + Tree.sp n) (n - Tree.sp n) m (by omega) (by omega) (by omega)
        simp; omega
theorem pathL_few (n i : Int) : (pathL n i).length ≤ 1000000 := by
  unfold pathL
  split
  · next h =>
    unfold pathE at h
    split at h
    · split at h
      · next h1 h2 =>
        rw [Tree.pthF_len _ 0 _ _ (Nat.le_refl _) (Nat.zero_le _), Nat.sub_zero]
        exact Nat.le_trans (D_le _ _ (by omega) (by omega)) (by decide)
      · cases h
    · cases h
  · simp
theorem proofL_few (m n : Int) : (proofL m n).length ≤ 1000000 := by
  unfold proofL
  split
  · next h =>
    unfold proofE at h
    split at h
    · next h1 =>
      refine Nat.le_trans (Tree.prf_le _ 0 _ _ (Nat.le_refl _) (by omega) (by omega)) ?_
      rw [Tree.pthF_len _ 0 _ _ (Nat.le_refl _) (Nat.zero_le _), Nat.sub_zero]
      have := D_le n.toNat (m.toNat - 1) (by omega) (by omega)
      omega
    · cases h
  · simp
/-- three numbers in a row -/
def R3 (w : World) (g : Nat) (x y z : Int) : Prop := w.heap[g]? = some (.cells #[.int .i64 x, .int .i64 y, .int .i64 z] 3 (0, 0))
def t3 (x y z : Int) (J : Nat) : Int := if J = 0 then x else if J = 1 then y else z
theorem R3.cell {w : World} {g : Nat} {x y z : Int} (h : R3 w g x y z) {J : Nat} (hJ : J < 3) : w.cell? ⟨g, J, none⟩ = some (.int .i64 (t3 x y z J)) := by
  rw [cell_of_row _ _ _ _ _ _ h]
  rcases J with _ | _ | _ | J
  · rfl
  · rfl
  · rfl
  · omega
theorem Bh.new {B0 X : Nat} {w : World} (hX : B0 ≤ X) (h : w.heap[X]? = some (.cells #[.slice none 0 0, .slice none 0 0, .slice none 0 0, .slice none 0 0, .slice none 0 0, .slice none 0 0] 33 (0, 0))) :
    Bh B0 X w (fun k => if k = X then 1 else 0) w (.slice none 0 0) (.slice none 0 0) [] [] [] where
  bel := Below.refl _ _
  low := fun k hk => if_neg (by omega)
  row := h
  rX := if_pos rfl
  oh := OwnM.nil 1 _
  rh := fun k hk => by cases hk
  ow := OwnM.nil 1 _
  rw_ := fun k hk => by cases hk
  lh := rfl
  lw := rfl
  le := Nat.zero_le _
  own := fun j W e => by cases e
  want := fun j W e => by cases e
  fr := fun _ _ _ => rfl
  nh := fun k hk => by cases hk
  nw := fun k hk => by cases hk
theorem start5 (w : World) (o0 o1 o2 o3 o4 : Obj) : (((((w.alloc o0).alloc o1).alloc o2).alloc o3).alloc o4).heap[w.heap.size]? = some o0 ∧ (((((w.alloc o0).alloc o1).alloc o2).alloc o3).alloc o4).heap[w.heap.size + 1]? = some o1 ∧ (((((w.alloc o0).alloc o1).alloc o2).alloc o3).alloc o4).heap[w.heap.size + 1 + 1]? = some o2 ∧ (((((w.alloc o0).alloc o1).alloc o2).alloc o3).alloc o4).heap[w.heap.size + 1 + 1 + 1]? = some o3 ∧ (((((w.alloc o0).alloc o1).alloc o2).alloc o3).alloc o4).heap[w.heap.size + 1 + 1 + 1 + 1]? = some o4 ∧ Below w.heap.size w (((((w.alloc o0).alloc o1).alloc o2).alloc o3).alloc o4) := by
  have up : ∀ (w : World) (o x : Obj) (k : Nat), w.heap[k]? = some x → (w.alloc o).heap[k]? = some x := fun w o x k h => (((Below.refl w.heap.size w).alloc (Nat.le_refl _) o).block k (lt_of_heap h)).trans h
  have nw : ∀ (w : World) (o : Obj) (k : Nat), w.heap.size = k → (w.alloc o).heap[k]? = some o := fun w o k h => by subst h; exact heap_alloc_new w o
  have s0 := size_alloc w o0
  have s1 := size_alloc (w.alloc o0) o1
  have s2 := size_alloc ((w.alloc o0).alloc o1) o2
  have s3 := size_alloc (((w.alloc o0).alloc o1).alloc o2) o3
  refine ⟨up _ _ _ _ (up _ _ _ _ (up _ _ _ _ (up _ _ _ _ (nw _ _ _ rfl)))), up _ _ _ _ (up _ _ _ _ (up _ _ _ _ (nw _ _ _ s0))), up _ _ _ _ (up _ _ _ _ (nw _ _ _ (by omega))), up _ _ _ _ (nw _ _ _ (by omega)), nw _ _ _ (by omega), ?_⟩
  exact (((((Below.refl _ w).alloc (Nat.le_refl _) _).alloc (by omega) _).alloc (by omega) _).alloc (by omega) _).alloc (by omega) _
/-- four lists came out, one behind the other: roles for their blocks -/
def r4 (ρ : Nat → Nat) (s1 s2 s3 s4 c : Nat) : Nat → Nat := fun k => if k < s1 then ρ k else if k < s2 then 3 + c else if k < s3 then 0 else if k < s4 then 3 + (c + 1) else 0
set_option maxRecDepth 100000 in
set_option maxHeartbeats 4000000 in
theorem paths8_law (size index first second : Int) (hs1 : -9223372036854775808 ≤ size) (hs2 : size ≤ 9223372036854775807) (hi1 : -9223372036854775808 ≤ index) (hi2 : index ≤ 9223372036854775807) (hf1 : -9223372036854775808 ≤ first) (hf2 : first ≤ 9223372036854775807) (hc1 : -9223372036854775808 ≤ second) (hc2 : second ≤ 9223372036854775807) (w : World) (Z : Tb w) :
    Calls Tryd.prog 6 #[.int .i64 size, .int .i64 index, .int .i64 first, .int .i64 second] w fun r w' => r = .returned (.bool true) ∧ Below w.heap.size w w' := by
  have i0 := known8_any w Z
  obtain ⟨p1, hp1, hp1'⟩ := pk_nat size 1099511627776 (by omega)
  have k1 : ∀ w', Calls Tryd.prog 10 #[.int .i64 size, .int .i64 1099511627776] w' fun e w'' => e = .returned (.int .i64 (p1 : Int)) ∧ w'' = w' := fun w' => by
    have := pick_any size 1099511627776 hs1 hs2 (by omega) (by omega) w'
    rw [show pk size 1099511627776 = (p1 : Int) from hp1.out] at this
    exact this
  obtain ⟨n, hn⟩ : ∃ n : Nat, n = p1 + 1 := ⟨_, rfl⟩
  have hnw : IntKind.i64.wrap (1 + (p1 : Int)) = (n : Int) := by rw [IntKind.wrap_i64]; omega
  obtain ⟨p2, hp2, hp2'⟩ := pk_nat second 1099511627776 (by omega)
  have k2 : ∀ w', Calls Tryd.prog 10 #[.int .i64 second, .int .i64 1099511627776] w' fun e w'' => e = .returned (.int .i64 (p2 : Int)) ∧ w'' = w' := fun w' => by
    have := pick_any second 1099511627776 hc1 hc2 (by omega) (by omega) w'
    rw [show pk second 1099511627776 = (p2 : Int) from hp2.out] at this
    exact this
  obtain ⟨m, hm⟩ : ∃ m : Nat, m = p2 + 1 := ⟨_, rfl⟩
  have hmw : IntKind.i64.wrap (1 + (p2 : Int)) = (m : Int) := by rw [IntKind.wrap_i64]; omega
  obtain ⟨p3, hp3, hp3'⟩ := pk_nat index n (by omega)
  have k3 := fun w' => pick_any index (n : Int) hi1 hi2 (by omega) (by omega) w'
  rw [hp3.out] at k3
  obtain ⟨p4, hp4, hp4'⟩ := pk_nat first m (by omega)
  have k4 := fun w' => pick_any first (m : Int) hf1 hf2 (by omega) (by omega) w'
  rw [hp4.out] at k4
  obtain ⟨q, hq⟩ : ∃ q : Nat, q = p4 + 1 := ⟨_, rfl⟩
  have hqw : IntKind.i64.wrap (1 + (p4 : Int)) = (q : Int) := by rw [IntKind.wrap_i64]; omega
  clear hn hm hq hp1' hp2' hp3' hp4' hp1 hp2 hp3 hp4
  go_enter Tryd.func6, Tryd.ntmps6
  go_wp2_with (first
    | (go_at_call 9; refine i0.mono ?_; rintro r w1 ⟨rfl, b1⟩; have B1 := hid b1; clear i0 b1)
    | (go_at_call 10; (first | (with_reducible refine (k1 _).mono ?_) | (with_reducible refine (k2 _).mono ?_) | (with_reducible refine (k3 _).mono ?_) | (with_reducible refine (k4 _).mono ?_)); rintro r w' ⟨rfl, h0⟩; have h0 := h0.symm; subst h0))
  obtain ⟨rX, r1, r2, r3, r4, bB⟩ := start5 w1 (.cells #[.slice none 0 0, .slice none 0 0, .slice none 0 0, .slice none 0 0, .slice none 0 0, .slice none 0 0] 33) (.cells #[.int .i64 index, .int .i64 (p3 : Int), .int .i64 index] 3) (.cells #[.int .i64 size, .int .i64 (n : Int), .int .i64 size] 3) (.cells #[.int .i64 first, .int .i64 (q : Int), .int .i64 first] 3) (.cells #[.int .i64 second, .int .i64 (m : Int), .int .i64 second] 3)
  generalize hwB : ((((w1.alloc (.cells #[.slice none 0 0, .slice none 0 0, .slice none 0 0, .slice none 0 0, .slice none 0 0, .slice none 0 0] 33)).alloc (.cells #[.int .i64 index, .int .i64 (p3 : Int), .int .i64 index] 3)).alloc (.cells #[.int .i64 size, .int .i64 (n : Int), .int .i64 size] 3)).alloc (.cells #[.int .i64 first, .int .i64 (q : Int), .int .i64 first] 3)).alloc (.cells #[.int .i64 second, .int .i64 (m : Int), .int .i64 second] 3) = wB at *
  clear hwB
  have hXB : w.heap.size ≤ w1.heap.size := B1.out.size
  have BB := hid (B1.out.trans (bB.mono hXB))
  have hBs : w.heap.size ≤ wB.heap.size := BB.out.size
  have L1 := hid (lt_of_heap r1)
  have L2 := hid (lt_of_heap r2)
  have L3 := hid (lt_of_heap r3)
  have L4 := hid (lt_of_heap r4)
  have H0 := hid (Bh.new hXB rX)
  have Q1 : Hid (R3 wB (w1.heap.size + 1) index (p3 : Int) index) := r1
  have Q2 : Hid (R3 wB (w1.heap.size + 1 + 1) size (n : Int) size) := r2
  have Q3 : Hid (R3 wB (w1.heap.size + 1 + 1 + 1) first (q : Int) first) := r3
  have Q4 : Hid (R3 wB (w1.heap.size + 1 + 1 + 1 + 1) second (m : Int) second) := r4
  clear rX r1 r2 r3 r4 bB B1 k1 k2 k3 k4
  obtain ⟨X, hX⟩ : ∃ X, w1.heap.size = X := ⟨_, rfl⟩
  rw [hX] at H0 Q1 Q2 Q3 Q4 L1 L2 L3 L4 hXB ⊢
  obtain ⟨g1, hg1⟩ : ∃ g1, X + 1 = g1 := ⟨_, rfl⟩
  obtain ⟨g2, hg2⟩ : ∃ g2, X + 1 + 1 = g2 := ⟨_, rfl⟩
  obtain ⟨g3, hg3⟩ : ∃ g3, X + 1 + 1 + 1 = g3 := ⟨_, rfl⟩
  obtain ⟨g4, hg4⟩ : ∃ g4, X + 1 + 1 + 1 + 1 = g4 := ⟨_, rfl⟩
  rw [hg4] at Q4 L4 ⊢
  rw [hg3] at Q3 L3 ⊢
  rw [hg2] at Q2 L2 ⊢
  rw [hg1] at Q1 L1 ⊢
  have HG := hid (show g1 ≠ X ∧ g2 ≠ X ∧ g3 ≠ X ∧ g4 ≠ X by omega)
  clear hg1 hg2 hg3 hg4 hX
  go_loopw [17, 18, 19, 20, 21, 22, 23, 24, 25] (fun i _ _ _ _ _ _ _ _ w' => ∃ (J : Nat) (ρ : Nat → Nat) (vh vw : Value) (hv wv : List Value) (Ws : List (List (Nat × Nat))), J ≤ 3 ∧ i = .int .i64 (J : Int) ∧ Ws.length = 2 * J ∧ Hid (∀ W ∈ Ws, W.length ≤ 1000000) ∧ Hid (Bh w.heap.size X wB ρ w' vh vw hv wv Ws)) (fun i _ _ _ _ _ _ _ _ _ => 3 - (intOf i).toNat)
  case atStart => exact ⟨0, _, _, _, _, _, [], by omega, rfl, rfl, hid (fun W h => by cases h), H0⟩
  case round =>
    clear H0
    obtain ⟨J, ρ, vh, vw, hv, wv, Ws, hJ, rfl, hWl, hWs, hH⟩ := hrel
    by_cases hJ3 : J < 3
    · have b0 : (J : Int) < 3 := by omega
      have j0 : (0 : Int) ≤ (J : Int) := by omega
      have c1 : wr.cell? ⟨g1, J, none⟩ = _ := R3.cell (show R3 wr g1 _ _ _ from (hH.out.fr g1 L1.out HG.out.1).trans Q1.out) hJ3
      have c2 : wr.cell? ⟨g2, J, none⟩ = _ := R3.cell (show R3 wr g2 _ _ _ from (hH.out.fr g2 L2.out HG.out.2.1).trans Q2.out) hJ3
      have c3 : wr.cell? ⟨g3, J, none⟩ = _ := R3.cell (show R3 wr g3 _ _ _ from (hH.out.fr g3 L3.out HG.out.2.2.1).trans Q3.out) hJ3
      have c4 : wr.cell? ⟨g4, J, none⟩ = _ := R3.cell (show R3 wr g4 _ _ _ from (hH.out.fr g4 L4.out HG.out.2.2.2).trans Q4.out) hJ3
      have l1 := block_lt_of_cell c1
      have l2 := block_lt_of_cell c2
      have l3 := block_lt_of_cell c3
      have l4 := block_lt_of_cell c4
      generalize t3 index (p3 : Int) index J = I at *
      generalize t3 size (n : Int) size J = N at *
      generalize t3 first (q : Int) first J = F at *
      generalize t3 second (m : Int) second J = M at *
      have i1 := path8_any N I wr.drew
      go_upto_region 12 with fail
      go_cut [18, 19] from 57 to 124 (fun v e w' => e = .int .i64 (pathE N I) ∧ Hid (OwnP w' v (pathL N I)) ∧ Hid (∀ k, v.ownBlock = some k → wr.heap.size ≤ k) ∧ Hid (Below wr.heap.size wr w'))
      case first =>
        go_region_held3 (fun w' => w'.cell? ⟨g2, J, none⟩ = some (.int .i64 N) ∧ w'.cell? ⟨g1, J, none⟩ = some (.int .i64 I)) (first | exact e4 | exact ⟨c2, c1⟩)
          (first | (go_at_call 19; (with_reducible refine i1.mono ?_); rintro r w2 ⟨b2', v2, rfl, O2, F2⟩; have b2 := drewBelow8 b2'; have e4 := And.intro ((b2.cell (p := ⟨g2, J, none⟩) l2).trans c2) ((b2.cell (p := ⟨g1, J, none⟩) l1).trans c1)))
        all_goals
          have HO := hid O2
          have HF : Hid (∀ k, v2.ownBlock = some k → wr.heap.size ≤ k) := F2
          have HB2 := hid b2
          clear O2 F2 b2 b2' e4
          go_wp2_with fail
          go_meet
          exact ⟨rfl, HO, HF, HB2⟩
      case rest =>
        obtain ⟨rfl, O1, F1, B1⟩ := hcut
        obtain ⟨wA, rfl⟩ : ∃ w', w' = wc := ⟨_, rfl⟩
        have c1 := (B1.out.cell (p := ⟨g1, J, none⟩) l1).trans c1
        have c2 := (B1.out.cell (p := ⟨g2, J, none⟩) l2).trans c2
        have c3 := (B1.out.cell (p := ⟨g3, J, none⟩) l3).trans c3
        have c4 := (B1.out.cell (p := ⟨g4, J, none⟩) l4).trans c4
        have l1 := block_lt_of_cell c1
        have l2 := block_lt_of_cell c2
        have l3 := block_lt_of_cell c3
        have l4 := block_lt_of_cell c4
        have i2 := rPath8_any N I wA.drew
        go_upto_region 13 with fail
        go_cut [20, 21] from 57 to 124 (fun v e w' => e = .int .i64 (pathE N I) ∧ Hid (OwnP w' v (pathL N I)) ∧ Hid (∀ k, v.ownBlock = some k → wA.heap.size ≤ k) ∧ Hid (Below wA.heap.size wA w'))
        case first =>
          go_region_held3 (fun w' => w'.cell? ⟨g2, J, none⟩ = some (.int .i64 N) ∧ w'.cell? ⟨g1, J, none⟩ = some (.int .i64 I)) (first | exact e4 | exact ⟨c2, c1⟩)
            (first | (go_at_call 26; (with_reducible refine i2.mono ?_); rintro r w2 ⟨b2', v2, rfl, O2, F2⟩; have b2 := drewBelow8 b2'; have e4 := And.intro ((b2.cell (p := ⟨g2, J, none⟩) l2).trans c2) ((b2.cell (p := ⟨g1, J, none⟩) l1).trans c1)))
          all_goals
            have HO := hid O2
            have HF : Hid (∀ k, v2.ownBlock = some k → wA.heap.size ≤ k) := F2
            have HB2 := hid b2
            clear O2 F2 b2 b2' e4
            go_wp2_with fail
            go_meet
            exact ⟨rfl, HO, HF, HB2⟩
        case rest =>
          obtain ⟨rfl, O2, F2, B2⟩ := hcut
          obtain ⟨wB2, rfl⟩ : ∃ w', w' = wc := ⟨_, rfl⟩
          have c3 := (B2.out.cell (p := ⟨g3, J, none⟩) l3).trans c3
          have c4 := (B2.out.cell (p := ⟨g4, J, none⟩) l4).trans c4
          have l3 := block_lt_of_cell c3
          have l4 := block_lt_of_cell c4
          have i3 := proof8_any F M wB2.drew
          go_upto_region 14 with fail
          go_cut [22, 23] from 57 to 124 (fun v e w' => e = .int .i64 (proofE F M) ∧ Hid (OwnP w' v (proofL F M)) ∧ Hid (∀ k, v.ownBlock = some k → wB2.heap.size ≤ k) ∧ Hid (Below wB2.heap.size wB2 w'))
          case first =>
            go_region_held3 (fun w' => w'.cell? ⟨g3, J, none⟩ = some (.int .i64 F) ∧ w'.cell? ⟨g4, J, none⟩ = some (.int .i64 M)) (first | exact e4 | exact ⟨c3, c4⟩)
              (first | (go_at_call 20; (with_reducible refine i3.mono ?_); rintro r w2 ⟨b2', v2, rfl, O2, F2⟩; have b2 := drewBelow8 b2'; have e4 := And.intro ((b2.cell (p := ⟨g3, J, none⟩) l3).trans c3) ((b2.cell (p := ⟨g4, J, none⟩) l4).trans c4)))
            all_goals
              have HO := hid O2
              have HF : Hid (∀ k, v2.ownBlock = some k → wB2.heap.size ≤ k) := F2
              have HB2 := hid b2
              clear O2 F2 b2 b2' e4
              go_wp2_with fail
              go_meet
              exact ⟨rfl, HO, HF, HB2⟩
          case rest =>
            obtain ⟨rfl, O3, F3, B3⟩ := hcut
            obtain ⟨wC, rfl⟩ : ∃ w', w' = wc := ⟨_, rfl⟩
            have c3 := (B3.out.cell (p := ⟨g3, J, none⟩) l3).trans c3
            have c4 := (B3.out.cell (p := ⟨g4, J, none⟩) l4).trans c4
            have l3 := block_lt_of_cell c3
            have l4 := block_lt_of_cell c4
            have i4 := rProof8_any F M wC.drew
            go_upto_region 15 with fail
            go_cut [24, 25] from 57 to 124 (fun v e w' => e = .int .i64 (proofE F M) ∧ Hid (OwnP w' v (proofL F M)) ∧ Hid (∀ k, v.ownBlock = some k → wC.heap.size ≤ k) ∧ Hid (Below wC.heap.size wC w'))
            case first =>
              go_region_held3 (fun w' => w'.cell? ⟨g3, J, none⟩ = some (.int .i64 F) ∧ w'.cell? ⟨g4, J, none⟩ = some (.int .i64 M)) (first | exact e4 | exact ⟨c3, c4⟩)
                (first | (go_at_call 27; (with_reducible refine i4.mono ?_); rintro r w2 ⟨b2', v2, rfl, O2, F2⟩; have b2 := drewBelow8 b2'; have e4 := And.intro ((b2.cell (p := ⟨g3, J, none⟩) l3).trans c3) ((b2.cell (p := ⟨g4, J, none⟩) l4).trans c4)))
              all_goals
                have HO := hid O2
                have HF : Hid (∀ k, v2.ownBlock = some k → wC.heap.size ≤ k) := F2
                have HB2 := hid b2
                clear O2 F2 b2 b2' e4
                go_wp2_with fail
                go_meet
                exact ⟨rfl, HO, HF, HB2⟩
            case rest =>
              obtain ⟨rfl, O4, F4, B4⟩ := hcut
              obtain ⟨wD, rfl⟩ : ∃ w', w' = wc := ⟨_, rfl⟩
              have s1 := B1.out.size
              have s2 := B2.out.size
              have s3 := B3.out.size
              have s4 := B4.out.size
              have b34 := B3.out.trans (B4.out.mono s3)
              have b24 := B2.out.trans (b34.mono s2)
              have b14 := B1.out.trans (b24.mono s1)
              have H5 := hH.out.below hBs b14 (r4 ρ wr.heap.size wA.heap.size wB2.heap.size wC.heap.size (2 * J)) (fun k hk => if_pos hk)
              have q1 := O1.out.below b24
              have q2 := O2.out.below b34
              have q3 := O3.out.below B4.out
              have t1 : ∀ k, u18.ownBlock = some k → r4 ρ wr.heap.size wA.heap.size wB2.heap.size wC.heap.size (2 * J) k = 3 + Ws.length := fun k hk => by
                have := F1.out k hk; have := O1.out.lt k hk
                unfold r4; rw [if_neg (by omega), if_pos (by omega), hWl]
              have t2 : ∀ k, u20.ownBlock = some k → r4 ρ wr.heap.size wA.heap.size wB2.heap.size wC.heap.size (2 * J) k = 0 := fun k hk => by
                have := F2.out k hk; have := O2.out.lt k hk
                unfold r4; rw [if_neg (by omega), if_neg (by omega), if_pos (by omega)]
              have t3' : ∀ k, u22.ownBlock = some k → r4 ρ wr.heap.size wA.heap.size wB2.heap.size wC.heap.size (2 * J) k = 3 + (2 * J + 1) := fun k hk => by
                have := F3.out k hk; have := O3.out.lt k hk
                unfold r4; rw [if_neg (by omega), if_neg (by omega), if_neg (by omega), if_pos (by omega)]
              have t4 : ∀ k, u24.ownBlock = some k → r4 ρ wr.heap.size wA.heap.size wB2.heap.size wC.heap.size (2 * J) k = 0 := fun k hk => by
                have := F4.out k hk
                unfold r4; rw [if_neg (by omega), if_neg (by omega), if_neg (by omega), if_neg (by omega)]
              generalize r4 ρ wr.heap.size wA.heap.size wB2.heap.size wC.heap.size (2 * J) = ρ5 at *
              have y1 := holds_any H5 hBs (by omega) (pathL N I) u18 u20 q1 t1 q2 t2
              have HQ3 := hid q3
              have HQ4 := O4
              have HT3 := hid t3'
              have HT4 := hid t4
              have few1 := hid (pathL_few N I)
              have few2 := hid (proofL_few F M)
              generalize pathL N I = P1 at *
              generalize proofL F M = P2 at *
              generalize pathE N I = E1 at *
              generalize proofE F M = E2 at *
              clear H5 q1 q2 q3 t1 t2 t3' t4 O1 O2 O3 O4 F1 F2 F3 F4 B1 B2 B3 B4 b34 b24 b14 hH i1 i2 i3 i4 c1 c2 c3 c4 l1 l2 l3 l4
              go_wp2_with (go_at_call 28; fail)
              refine y1.mono ?_
              rintro r w6 ⟨rfl, ρ6, vh6, vw6, H6, a6, z6, k6⟩
              have q5 : OwnP w6 u22 P2 := HQ3.out.kept z6 (fun k hk => k6 k (HQ3.out.lt k hk) (by rw [HT3.out k hk]; omega) (by rw [HT3.out k hk]; omega) (by rw [HT3.out k hk]; omega))
              have q6 : OwnP w6 u24 P2 := HQ4.out.kept z6 (fun k hk => k6 k (HQ4.out.lt k hk) (by rw [HT4.out k hk]; omega) (by rw [HT4.out k hk]; omega) (by rw [HT4.out k hk]; omega))
              have y2 := holds_any H6 hBs (by rw [List.length_append]; simp; omega) P2 u22 u24 q5 (fun k hk => by rw [a6 k (HQ3.out.lt k hk), HT3.out k hk, List.length_append, hWl]; rfl) q6 (fun k hk => by rw [a6 k (HQ4.out.lt k hk)]; exact HT4.out k hk)
              clear y1 H6 a6 z6 k6 q5 q6 HQ3 HQ4 HT3 HT4
              go_wp2_with (go_at_call 28; fail)
              refine y2.mono ?_
              rintro r w7 ⟨rfl, ρ7, vh7, vw7, H7, _, _, _⟩
              have H7 := hid H7
              clear y2
              have z1 : (E1 == E1) = true := by simp
              have z2 : (E2 == E2) = true := by simp
              go_wp2
              exact ⟨⟨J + 1, _, _, _, _, _, _, by omega, by go_num, by rw [List.length_append, List.length_append, hWl]; simp; omega, hid (fun W hW => by
                rcases List.mem_append.1 hW with hW | hW
                · rcases List.mem_append.1 hW with hW | hW
                  · exact hWs.out W hW
                  · rw [List.mem_singleton.1 hW]; exact few1.out
                · rw [List.mem_singleton.1 hW]; exact few2.out), H7⟩, by simp [intOf]; omega⟩
    · obtain rfl : J = 3 := by omega
      have i9 := still_B hH.out hBs (by omega) hWs.out
      have BB2 := BB
      clear hH hWs
      go_wp2_with (go_at_call 17; refine i9.mono ?_; rintro r we ⟨rfl, be⟩; have BE := hid be; clear be)
      go_ret
      exact ⟨rfl, BB2.out.trans BE.out⟩
end Go.Proofs.YtbkppdkebcdcoaaDoor
