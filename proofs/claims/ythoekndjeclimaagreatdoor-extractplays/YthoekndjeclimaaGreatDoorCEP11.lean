import Derived.Test.YthoekndjeclimaaGreatDoorCEP10
namespace Go.Proofs.YthoekndjeclimaaGreatDoor
open Go.RowKit
theorem fst2_drop {X Y : List (List UInt8)} {i : Nat} {p q : List UInt8} (h : Tree.fst2 (X.drop i) (Y.drop i) = some (p, q)) : ∃ x y, X[i]? = some x ∧ Y[i]? = some y ∧ ((x = y ∧ Tree.fst2 (X.drop (i + 1)) (Y.drop (i + 1)) = some (p, q)) ∨ (x ≠ y ∧ x = p ∧ y = q)) := by
  by_cases h1 : i < X.length
  · by_cases h2 : i < Y.length
    · rw [List.drop_eq_getElem_cons h1, List.drop_eq_getElem_cons h2, Tree.fst2] at h
      refine ⟨X[i], Y[i], List.getElem?_eq_getElem h1, List.getElem?_eq_getElem h2, ?_⟩
      split at h
      · rename_i e; exact .inl ⟨e, h⟩
      · rename_i e
        injection h with h
        injection h with h3 h4
        exact .inr ⟨e, h3, h4⟩
    · have e : Y.drop i = [] := List.drop_eq_nil_of_le (by omega)
      rw [e, List.drop_eq_getElem_cons h1] at h
      cases h
  · have e : X.drop i = [] := List.drop_eq_nil_of_le (by omega)
    rw [e] at h
    cases h
set_option maxRecDepth 100000 in
set_option maxHeartbeats 2000000 in
theorem partPaths_any (fk : List Tree.Fork) (leaf other : List UInt8) (path way : List (List UInt8)) (vf vp vw : Value) (B : Nat) (w : World) (p q : List UInt8) (F : Fks w B vf fk) (hp : Lv w vp path) (hw : Lv w vw way) (l1 : path.length = fk.length) (l2 : way.length = fk.length) (h1 : leaf.length = 32) (h2 : other.length = 32) (H1 : Tree.Hs path) (H2 : Tree.Hs way) (hn : fk.length ≤ 1000) (T : Tabs w)
    (hf : Tree.fst2 (Tree.txs leaf (fk.map Tree.fkR).reverse path).reverse (Tree.txs other (fk.map Tree.fkR).reverse way).reverse = some (p, q)) :
    Calls Tryz.prog 23 #[vf, sv leaf, vp, sv other, vw] w fun e w' => e = .panicked [{ v := prI p q, recovered := false }] ∧ Below w.heap.size w w' := by
  have i1 := climb_any fk other way vf vw B w F hw l2 h2 H2 hn T
  have i2 := fun w' (hb : Below w.heap.size w w') => climb_any fk leaf path vf vp B w' (F.below hb) (hp.below hb) l1 h1 H1 hn (T.below hb T.lt)
  have ly : (Tree.txs other (fk.map Tree.fkR).reverse way).reverse.length = (Tree.txs leaf (fk.map Tree.fkR).reverse path).reverse.length := by
    rw [List.length_reverse, List.length_reverse, Tree.txs_length _ _ _ (by simp [l2]), Tree.txs_length _ _ _ (by simp [l1])]
  obtain ⟨X, hX⟩ : ∃ X, (Tree.txs leaf (fk.map Tree.fkR).reverse path).reverse = X := ⟨_, rfl⟩
  obtain ⟨Y, hY⟩ : ∃ Y, (Tree.txs other (fk.map Tree.fkR).reverse way).reverse = Y := ⟨_, rfl⟩
  have lx : Hid (X.length ≤ 1000) := by unfold Hid; rw [← hX, List.length_reverse, Tree.txs_length _ _ _ (by simp [l1])]; simp; exact hn
  rw [hX] at i2 hf ly
  rw [hY] at i1 hf ly
  have HF := hid hf
  have HLY := hid ly
  obtain ⟨af, cf, rfl, _, _⟩ := F.1.shape
  obtain ⟨ap, cp, rfl, _⟩ := hp
  obtain ⟨aw, cw, rfl, _⟩ := hw
  clear hX hY hf ly l1 l2 h1 h2 H1 H2 F T
  rw [svS leaf] at i2 ⊢
  rw [svS other] at i1 ⊢
  generalize fk.length = nf at *
  generalize path.length = np at *
  generalize way.length = nw at *
  go_enter Tryz.func23, Tryz.ntmps23
  go_wp2_with (go_at_call 50; fail)
  refine i1.mono ?_
  rintro e w1 ⟨v1, rfl, V1, b1⟩
  have i2 := i2 w1 b1
  clear i1
  go_wp2_with (go_at_call 50; fail)
  refine i2.mono ?_
  rintro e w2 ⟨v2, rfl, V2, b2⟩
  obtain ⟨ax, cx, rfl, _, _, AX⟩ := V2
  obtain ⟨ay, cy, rfl, _, _, AY⟩ := V1.below b2
  have HX := hid AX
  have HY := hid AY
  have HB := hid (b1.trans (b2.mono b1.size))
  clear i2 b1 b2 V1 AX AY
  have ly2 := HLY.out
  obtain ⟨n, hn⟩ : ∃ n, Hid (X.length = n) := ⟨_, rfl⟩
  have hn1 : n ≤ 1000 := by rw [← hn.out]; exact lx.out
  rw [hn.out] at ly2 ⊢
  rw [ly2]
  clear ly2
  go_wp2
  go_loopw [22] (fun i w' => ∃ k : Nat, i = .int .i64 (k : Int) ∧ k ≤ n ∧ Hid (Tree.fst2 (X.drop k) (Y.drop k) = some (p, q)) ∧ Hid (Below w2.heap.size w2 w')) (fun i _ => n - (intOf i).toNat)
  case atStart => exact ⟨0, rfl, by omega, HF, hid (Below.refl _ _)⟩
  case round =>
    clear HF
    obtain ⟨k, rfl, hk, hf, hb⟩ := hrel
    obtain ⟨x, y, hx, hy, hor⟩ := fst2_drop hf.out
    have hkn : k < n := by have := (List.getElem?_eq_some_iff.1 hx).1; have := hn.out; omega
    have c0 : (k : Int) < (n : Int) := by omega
    obtain ⟨zx, rfl, _, cx'⟩ := (HX.out.below hb.out (Nat.le_refl _)) k x hx
    obtain ⟨zy, rfl, _, cy'⟩ := (HY.out.below hb.out (Nat.le_refl _)) k y hy
    rw [svS] at cx' cy'
    have HB1 := hid (HB.out.trans (hb.out.mono HB.out.size))
    rcases hor with ⟨rfl, hnx⟩ | ⟨hne, rfl, rfl⟩
    · have i4 := compare_same x wr
      rw [svS] at i4
      have hf' := hid hnx
      clear hnx hf hx hy
      go_wp2_with (go_at_call 51; fail)
      refine i4.mono ?_
      rintro e w4 ⟨rfl, rfl⟩
      go_wp2
      exact ⟨⟨k + 1, by go_num, by omega, hf', hb⟩, by simp [intOf]; omega⟩
    · have i4 := compare_diff hne wr
      rw [svS, svS] at i4
      clear hf hx hy hne
      go_wp2_with (go_at_call 51; fail)
      refine i4.mono ?_
      rintro e w4 ⟨rfl, rfl⟩
      go_wp2
      exact ⟨rfl, rfl, HB1.out⟩
end Go.Proofs.YthoekndjeclimaaGreatDoor

namespace Go.Proofs.YthoekndjeclimaaGreatDoor
open Go.RowKit
theorem D_len {n m : Nat} (hn : n ≤ 1099511627776) (hm : m < n) : (Tree.D n m).length ≤ 1000 := by
  rw [Tree.D_U n n m (Nat.le_refl _) hm]
  have := Tree.U_len 41 m (n - 1) (by omega)
  omega
/-- what is accepted -/
structure Inc (N M : Nat) (leaf : List UInt8) (path : List (List UInt8)) (root : List UInt8) : Prop where
  lt : M < N
  le : N ≤ 1099511627776
  l32 : leaf.length = 32
  hs : Tree.Hs path
  len : path.length = (Tree.D N M).length
  up : Tree.upd leaf (Tree.D N M) path = root
theorem Inc.of {n m : Int} {leaf : List UInt8} {path : List (List UInt8)} {root : List UInt8} (h : incOf4 n m leaf path root = 0) : ∃ N M : Nat, n = N ∧ m = M ∧ Inc N M leaf path root := by
  unfold incOf4 at h
  by_cases h1 : (rootOf4 n m leaf path).2 = 0
  · rw [if_pos h1] at h
    split at h
    · split at h
      · rename_i _ h3
        unfold rootOf4 at h1 h3
        by_cases h4 : (lenOf n m).2 = 0
        · rw [if_pos h4] at h1 h3
          obtain ⟨a1, a2, a3, a4, a5⟩ := lenOf_ok h4
          by_cases h5 : chk leaf path (lenOf n m).1 = 0
          · rw [if_pos h5] at h3
            obtain ⟨c1, c2, c3⟩ := chk_len h5
            rw [a5] at c1
            refine ⟨n.toNat, m.toNat, by omega, by omega, by omega, by omega, c2, ?_, ?_, h3⟩
            · rw [List.all_eq_true] at c3
              exact fun x hx => by simpa using c3 x hx
            · have c4 : (path.length : Int) = (((Tree.D n.toNat m.toNat).length : Nat) : Int) := c1
              omega
          · rw [if_neg h5] at h1
            exact absurd h1 h5
        · rw [if_neg h4] at h1
          exact absurd h1 h4
      · cases h
    · cases h
  · rw [if_neg h1] at h
    exact absurd h h1
theorem fks_rev {N M : Nat} : ((Tree.fks N 0 N M).map Tree.fkR).reverse = Tree.D N M := by
  rw [Tree.fks_D N 0 N M (Nat.le_refl _) (Nat.zero_le _), List.reverse_reverse, Nat.sub_zero]
theorem fks_length {N M : Nat} : (Tree.fks N 0 N M).length = (Tree.D N M).length := by
  have := congrArg List.length (fks_rev (N := N) (M := M))
  rwa [List.length_reverse, List.length_map] at this
/-- X3 -/
def incO (n m : Int) (root leaf : List UInt8) (path : List (List UInt8)) (other : List UInt8) (way : List (List UInt8)) : (List UInt8 × List UInt8) × Int :=
  if incOf4 n m leaf path root = 0 ∧ incOf4 n m other way root = 0 then (if leaf = other ∧ path = way then (([], []), 60) else match Tree.hi (Tree.txs leaf (Tree.D n.toNat m.toNat) path) (Tree.txs other (Tree.D n.toNat m.toNat) way) with | some p => (p, 0) | none => (([], []), 60)) else (([], []), 61)
theorem inc_some {N M : Nat} {leaf other root : List UInt8} {path way : List (List UInt8)} (a : Inc N M leaf path root) (b : Inc N M other way root) (hne : ¬ (leaf = other ∧ path = way)) : ∃ p q, Tree.hi (Tree.txs leaf (Tree.D N M) path) (Tree.txs other (Tree.D N M) way) = some (p, q) ∧ p ≠ q ∧ Sha.sha p = Sha.sha q :=
  Tree.hi_some _ _ _ _ _ a.len b.len a.hs b.hs a.l32 b.l32 (a.up.trans b.up.symm) hne
set_option maxRecDepth 100000 in
set_option maxHeartbeats 2000000 in
theorem incl1_any (N M : Nat) (leaf other root p q : List UInt8) (path way : List (List UInt8)) (vp vw : Value) (w : World) (g0 g1 g2 g3 g4 g5 : Nat)
    (h0 : w.heap[g0]? = some (.cells #[.int .i64 (N : Int)] 3 (0, 0))) (h1 : w.heap[g1]? = some (.cells #[.int .i64 (M : Int)] 3 (0, 0))) (h2 : w.heap[g2]? = some (.cells #[sv leaf] 9 (0, 0))) (h3 : w.heap[g3]? = some (.cells #[vp] 22 (0, 0))) (h4 : w.heap[g4]? = some (.cells #[sv other] 9 (0, 0))) (h5 : w.heap[g5]? = some (.cells #[vw] 22 (0, 0)))
    (a : Inc N M leaf path root) (b : Inc N M other way root) (hp : Lv w vp path) (hw : Lv w vw way) (hf : Tree.hi (Tree.txs leaf (Tree.D N M) path) (Tree.txs other (Tree.D N M) way) = some (p, q)) (T : Tabs w) :
    Calls Tryz.prog 22 #[.pointer (some ⟨g0, 0, none⟩), .pointer (some ⟨g1, 0, none⟩), .pointer (some ⟨g2, 0, none⟩), .pointer (some ⟨g3, 0, none⟩), .pointer (some ⟨g4, 0, none⟩), .pointer (some ⟨g5, 0, none⟩)] w fun e w' => e = .panicked [{ v := prI p q, recovered := false }] ∧ Below w.heap.size w w' := by
  have i1 := fun w' => pathForks_any N M a.le a.lt (by rw [fks_length]; exact D_len a.le a.lt) w'
  have i2 := fun w' v (B : Nat) (hb : Below w.heap.size w w') (F : Fks w' B v (Tree.fks N 0 N M)) => partPaths_any (Tree.fks N 0 N M) leaf other path way v vp vw B w' p q F (hp.below hb) (hw.below hb) (by rw [fks_length]; exact a.len) (by rw [fks_length]; exact b.len) a.l32 b.l32 a.hs b.hs (by rw [fks_length]; exact D_len a.le a.lt) (T.below hb T.lt) (by rw [fks_rev, Tree.fst2_rev _ _ (by rw [Tree.txs_length _ _ _ a.len.symm, Tree.txs_length _ _ _ b.len.symm])]; exact hf)
  obtain ⟨ap, cp, rfl, _⟩ := hp
  obtain ⟨aw, cw, rfl, _⟩ := hw
  have H0 : ∀ w', Below w.heap.size w w' → w'.cell? ⟨g0, 0, none⟩ = some (.int .i64 (N : Int)) ∧ w'.cell? ⟨g1, 0, none⟩ = some (.int .i64 (M : Int)) ∧ w'.cell? ⟨g2, 0, none⟩ = some (.string ⟨leaf.toArray⟩) ∧ w'.cell? ⟨g3, 0, none⟩ = some (.slice ap path.length cp) ∧ w'.cell? ⟨g4, 0, none⟩ = some (.string ⟨other.toArray⟩) ∧ w'.cell? ⟨g5, 0, none⟩ = some (.slice aw way.length cw) := fun w' hb => by
    refine ⟨?_, ?_, ?_, ?_, ?_, ?_⟩
    · rw [cell_of_row _ _ _ _ _ _ ((hb.block _ (lt_of_heap h0)).trans h0)]; rfl
    · rw [cell_of_row _ _ _ _ _ _ ((hb.block _ (lt_of_heap h1)).trans h1)]; rfl
    · rw [cell_of_row _ _ _ _ _ _ ((hb.block _ (lt_of_heap h2)).trans h2)]; rfl
    · rw [cell_of_row _ _ _ _ _ _ ((hb.block _ (lt_of_heap h3)).trans h3)]; rfl
    · rw [cell_of_row _ _ _ _ _ _ ((hb.block _ (lt_of_heap h4)).trans h4)]; rfl
    · rw [cell_of_row _ _ _ _ _ _ ((hb.block _ (lt_of_heap h5)).trans h5)]; rfl
  have x0 := H0 w.drew (Below.refl _ _).drew
  have i1d := i1 w.drew
  clear h0 h1 h2 h3 h4 h5 hf T a b i1
  rw [svS leaf, svS other] at i2
  generalize path.length = np at *
  generalize way.length = nw at *
  go_enter Tryz.func22, Tryz.ntmps22
  refine wp_region_held_drew (S := (fun w' => w'.cell? ⟨g0, 0, none⟩ = some (.int .i64 (N : Int)) ∧ w'.cell? ⟨g1, 0, none⟩ = some (.int .i64 (M : Int)) ∧ w'.cell? ⟨g2, 0, none⟩ = some (.string ⟨leaf.toArray⟩) ∧ w'.cell? ⟨g3, 0, none⟩ = some (.slice ap np cp) ∧ w'.cell? ⟨g4, 0, none⟩ = some (.string ⟨other.toArray⟩) ∧ w'.cell? ⟨g5, 0, none⟩ = some (.slice aw nw cw))) (by kernel_rfl) x0 (fun hHeld => ?_)
  refine wpAnyH_take (i := 0) (v := .int .i64 (N : Int)) rfl (by kernel_rfl) (by kernel_rfl) (by kernel_rfl) (fun _ _ _ h => h) (Or.inl ⟨by rfl, ?_⟩) hHeld ?_
  · intro w' hw'
    obtain ⟨y, _, _, _, _, _⟩ := hw'
    simp [go_sem, y]
  dsimp only [Act.put]
  refine wpAnyH_take (i := 1) (v := .int .i64 (M : Int)) rfl (by kernel_rfl) (by kernel_rfl) (by kernel_rfl) (fun _ _ _ h => h) (Or.inl ⟨by rfl, ?_⟩) hHeld ?_
  · intro w' hw'
    obtain ⟨_, y, _, _, _, _⟩ := hw'
    simp [go_sem, y]
  dsimp only [Act.put]
  refine wpAnyH_take (i := 3) (v := .string ⟨leaf.toArray⟩) rfl (by kernel_rfl) (by kernel_rfl) (by kernel_rfl) (fun _ _ _ h => h) (Or.inl ⟨by rfl, ?_⟩) hHeld ?_
  · intro w' hw'
    obtain ⟨_, _, y, _, _, _⟩ := hw'
    simp [go_sem, y]
  dsimp only [Act.put]
  refine wpAnyH_take (i := 4) (v := .slice ap np cp) rfl (by kernel_rfl) (by kernel_rfl) (by kernel_rfl) (fun _ _ _ h => h) (Or.inl ⟨by rfl, ?_⟩) hHeld ?_
  · intro w' hw'
    obtain ⟨_, _, _, y, _, _⟩ := hw'
    simp [go_sem, y]
  dsimp only [Act.put]
  refine wpAnyH_take (i := 5) (v := .string ⟨other.toArray⟩) rfl (by kernel_rfl) (by kernel_rfl) (by kernel_rfl) (fun _ _ _ h => h) (Or.inl ⟨by rfl, ?_⟩) hHeld ?_
  · intro w' hw'
    obtain ⟨_, _, _, _, y, _⟩ := hw'
    simp [go_sem, y]
  dsimp only [Act.put]
  refine wpAnyH_take (i := 6) (v := .slice aw nw cw) rfl (by kernel_rfl) (by kernel_rfl) (by kernel_rfl) (fun _ _ _ h => h) (Or.inl ⟨by rfl, ?_⟩) hHeld ?_
  · intro w' hw'
    obtain ⟨_, _, _, _, _, y⟩ := hw'
    simp [go_sem, y]
  dsimp only [Act.put]
  refine wpAnyH_ready (rs := [2]) (by kernel_rfl) (by decide) (AllReadyH.cons rfl (fun K' hK => ?_) AllReadyH.nil)
  rw [if_pos (by rfl)]
  go_wp2_with (go_at_call 24; fail)
  refine i1d.mono ?_
  rintro e w5 ⟨v5, rfl, F5, c5⟩
  have b5 := drewBelow6 c5
  have x2 := H0 w5 b5
  have i2d := i2 w5 v5 _ b5 F5
  obtain ⟨a5, c5', rfl, _, _⟩ := F5.1.shape
  clear c5 i1d i2
  generalize (Tree.fks N 0 N M).length = nf at *
  go_wp2
  refine hK.out _ _ x2 (fun _ => ?_)
  refine wpAnyH_ready (rs := [7]) (by kernel_rfl) (by decide) (AllReadyH.cons rfl (fun K2 hK2 => ?_) AllReadyH.nil)
  rw [if_pos (by rfl)]
  go_wp2_with (go_at_call 23; fail)
  refine i2d.mono ?_
  rintro e w6 ⟨rfl, b6⟩
  exact ⟨rfl, rfl, b5.trans (b6.mono b5.size)⟩
end Go.Proofs.YthoekndjeclimaaGreatDoor
