import Derived.Test.YtblmaokonhdjaaaGreatDoorPkPR1
import Derived.Test.YtblmaokonhdjaaaGreatDoorPkPP1
/- Layer 14, the document: a Walk's hash -/
namespace Go.Proofs.YtblmaokonhdjaaaGreatDoor
open Go.RowKit Go.Shelf
namespace Spn
/-- what is left of told hashes and leaves: the document's Walk -/
structure Wk (w0 w : World) (g : Nat) (H L : List (List UInt8)) : Prop where
  ex : ∃ aH cH aL cL, w.heap[g]? = some (.cells #[.slice aH H.length cH, .slice aL L.length cL] 122 (0, 0)) ∧ H.length ≤ cH ∧ cH ≤ 9223372036854775807 ∧ L.length ≤ cL ∧ cL ≤ 9223372036854775807 ∧ At w0 aH H ∧ At w0 aL L
theorem Wk.lt {w0 w : World} {g : Nat} {H L : List (List UInt8)} (h : Wk w0 w g H L) : g < w.heap.size := by
  obtain ⟨_, _, _, _, h, _⟩ := h
  exact lt_of_heap h
theorem Wk.below {w0 w w' : World} {g : Nat} {H L : List (List UInt8)} (h : Wk w0 w g H L) (hb : Below w.heap.size w w') : Wk w0 w' g H L := by
  have := h.lt
  obtain ⟨aH, cH, aL, cL, h, r⟩ := h
  exact ⟨aH, cH, aL, cL, (hb.block g this).trans h, r⟩
theorem run_two {f b m x y : Nat} (h : ¬ (b + m ≤ x ∨ y ≤ b)) (h2 : 2 ≤ m) (hf : m ≤ f + 1) : Tree.runF (f + 1) b m x y = Tree.runF f b (Tree.sp m) x y ++ Tree.runF f (b + Tree.sp m) (m - Tree.sp m) x y := by
  have s1 := Tree.sp_lt h2
  have s2 := Tree.sp_pos h2
  rw [Tree.runF, if_neg h]
  by_cases hi : x ≤ b ∧ b + m ≤ y
  · obtain ⟨g, rfl⟩ : ∃ g, f = g + 1 := ⟨f - 1, by omega⟩
    rw [if_pos hi, run_nil (by omega) (by omega) (by omega), run_nil (by omega) (by omega) (by omega)]
    rfl
  · rw [if_neg hi]
/-- the leaves of a run in [b, b + m) -/
def lwi (x y b m : Nat) : List Nat := List.range' (max b x) (min (b + m) y - max b x)
theorem lwi_no {x y b m : Nat} (h : b + m ≤ x ∨ y ≤ b) : lwi x y b m = [] := by
  unfold lwi
  rw [show min (b + m) y - max b x = 0 by omega]
  rfl
theorem lwi_one {x y b : Nat} (h : ¬ (b + 1 ≤ x ∨ y ≤ b)) : lwi x y b 1 = [b] := by
  unfold lwi
  rw [show min (b + 1) y - max b x = 1 by omega, show max b x = b by omega]
  rfl
theorem lwi_two {x y b m k : Nat} (hk : k ≤ m) : lwi x y b m = lwi x y b k ++ lwi x y (b + k) (m - k) := by
  unfold lwi
  rw [show b + k + (m - k) = b + m by omega]
  by_cases h1 : y ≤ b + k
  · rw [show min (b + m) y - max (b + k) x = 0 by omega, show min (b + m) y - max b x = min (b + k) y - max b x by omega]
    simp
  · by_cases h2 : b + k ≤ x
    · rw [show min (b + k) y - max b x = 0 by omega]
      by_cases h3 : max b x = max (b + k) x
      · rw [h3]; simp
      · rw [show min (b + m) y - max b x = min (b + m) y - max (b + k) x by omega, show max b x = max (b + k) x by omega]; simp
    · rw [show max (b + k) x = max b x + (min (b + k) y - max b x) by omega, List.range'_append_1]
      congr 1
      omega
theorem lwi_all {x y n : Nat} (h : y ≤ n) : lwi x y 0 n = rix x y := by
  unfold lwi rix
  rw [show max 0 x = x by omega, show min (0 + n) y = y by omega]
set_option maxRecDepth 100000 in
set_option maxHeartbeats 4000000 in
theorem rhash14_any (w0 : World) (g : Nat) (hg : w0.heap.size ≤ g) (val : Nat × Nat → List UInt8) (x y : Nat) (hv : ∀ b m, 2 ≤ m → ¬ (b + m ≤ x ∨ y ≤ b) → val (b, b + m) = Tree.nd (val (b, b + Tree.sp m)) (val (b + Tree.sp m, b + m))) : ∀ (f b m : Nat) (w : World) (H L : List (List UInt8)), 1 ≤ m → m ≤ f → b + m ≤ 1099511627776 →
    Below w0.heap.size w0 w → Wk w0 w g ((Tree.runF f b m x y).map val ++ H) ((lwi x y b m).map (fun i => val (i, i + 1)) ++ L) →
    Calls Tryz.prog 62 #[.pointer (some ⟨g, 0, none⟩), sg (x : Int) (y : Int), .int .i64 (b : Int), .int .i64 ((b + m : Nat) : Int)] w fun r w' => r = .returned (sv (val (b, b + m))) ∧ Wk w0 w' g H L ∧ Keep (fun k => k = g) w w' := by
  intro f
  induction f with
  | zero => intro b m w H L h1 h2; omega
  | succ f ih =>
    intro b m w H L h1 h2 h3 hB hW
    have S0 := SpI.new w (x : Int) (y : Int)
    have hb0 := (Below.refl _ w).alloc (Nat.le_refl _) (.cells #[.int .i64 (x : Int), .int .i64 (y : Int)] 50)
    have c0 := S0.c0
    have c1 := S0.c1
    by_cases hd : b + m ≤ x ∨ y ≤ b
    · rw [lwi_no hd, show Tree.runF (f + 1) b m x y = [(b, b + m)] from by rw [Tree.runF, if_pos hd]] at hW
      have hW := hW.below hb0
      have hB := hB.trans (hb0.mono hB.size)
      have hK0 := hid (Keep.ofBelow (S := fun k => k = g) hb0)
      obtain ⟨e, he⟩ : ∃ e, b + m = e := ⟨_, rfl⟩
      rw [he] at hW hd ⊢
      have hgl := hW.lt
      obtain ⟨aH, cH, aL, cL, hr, q1, q2, q3, q4, q5, q6⟩ := hW
      simp only [List.map_cons, List.map_nil, List.cons_append, List.nil_append] at hr q1 q3 q5 q6
      generalize val (b, e) = t at *
      obtain ⟨z, rfl⟩ := q5.pos (by simp)
      obtain ⟨z', hz', xb, xc⟩ := q5 0 t rfl
      obtain rfl := Option.some.inj hz'
      have Q5 := hid (q5.drop 1)
      rw [List.drop_succ_cons, List.drop_zero] at Q5
      rw [List.length_cons] at hr q1
      rw [show sv t = Value.string ⟨t.toArray⟩ from rfl] at xc ⊢
      have HR := hid hr
      have HB := hid hB
      have Q6 := hid q6
      obtain ⟨nH, hnH⟩ : ∃ n, H.length = n := ⟨_, rfl⟩
      obtain ⟨nL, hnL⟩ : ∃ n, L.length = n := ⟨_, rfl⟩
      have EH := hid hnH
      have EL := hid hnL
      rw [hnH] at HR q1
      rw [hnL] at HR q3
      have k0 : (w.alloc (.cells #[.int .i64 (x : Int), .int .i64 (y : Int)] 50)).cell? ⟨g, 0, none⟩ = some (.slice (some z) (nH + 1) cH) := by rw [cell_of_row _ _ _ _ _ _ HR.out]; rfl
      have k1 : (w.alloc (.cells #[.int .i64 (x : Int), .int .i64 (y : Int)] 50)).frozen? ⟨g, 0, none⟩ = false := frozen_of_row _ _ _ _ _ HR.out
      have k2 : (w.alloc (.cells #[.int .i64 (x : Int), .int .i64 (y : Int)] 50)).cell? (z.add 0) = some (.string ⟨t.toArray⟩) := (HB.out.cell (by rw [addr_block]; exact xb)).trans xc
      have k3 : (w.alloc (.cells #[.int .i64 (x : Int), .int .i64 (y : Int)] 50)).cell? z = some (.string ⟨t.toArray⟩) := k2
      have l0 : (0 : Int) < (nH : Int) + 1 := by omega
      have l1 : (1 : Int) ≤ (nH : Int) + 1 := by omega
      have HF : Hid (∀ (v : Value), ((w.alloc (.cells #[.int .i64 (x : Int), .int .i64 (y : Int)] 50)).setCell ⟨g, 0, none⟩ v).heap[g]? = some (.cells #[v, .slice aL nL cL] 122 (0, 0))) := fun v => heap_setCell_same _ g 0 _ _ v HR.out
      have KK : ∀ v, Hid (Keep (fun k => k = g) w ((w.alloc (.cells #[.int .i64 (x : Int), .int .i64 (y : Int)] 50)).setCell ⟨g, 0, none⟩ v)) := fun v => hK0.out.trans (Keep.ofSet (S := fun k => k = g) _ g 0 _ rfl) (fun _ _ e => e)
      have hdI : (y : Int) ≤ (b : Int) ∨ (¬ (y : Int) ≤ (b : Int) ∧ (e : Int) ≤ (x : Int)) := by omega
      clear ih hr hB q5 q6 hz' hv hnH hnL he hd h1 h2 h3 S0 hb0
      go_enter Tryz.func62, Tryz.ntmps62
      rcases hdI with t1 | ⟨t1, t2⟩
      all_goals
        by_cases hc : cH - 1 = 0
        · have hH0 : Hid (H = []) := List.eq_nil_of_length_eq_zero (by rw [EH.out]; omega)
          go_wp2
          go_ret
          exact ⟨rfl, ⟨some z, 0, aL, cL, by rw [EH.out, EL.out]; exact HF.out _, by rw [EH.out]; omega, by omega, by rw [EL.out]; exact q3, q4, by rw [hH0.out]; exact At.nil _ _, Q6.out⟩, (KK _).out⟩
        · go_wp2
          go_ret
          exact ⟨rfl, ⟨some (z.add 1), cH - 1, aL, cL, by rw [EH.out, EL.out]; exact HF.out _, by rw [EH.out]; omega, by omega, by rw [EL.out]; exact q3, q4, Q5.out, Q6.out⟩, (KK _).out⟩
    · by_cases hm : m < 2
      · obtain rfl : m = 1 := by omega
        rw [lwi_one hd, run_nil (f := f) (b := b) (n := 1) (x := x) (y := y) (by omega) (by omega) (by omega)] at hW
        have hW := hW.below hb0
        have hB := hB.trans (hb0.mono hB.size)
        have hK0 := hid (Keep.ofBelow (S := fun k => k = g) hb0)
        have t1 : ¬ (y : Int) ≤ (b : Int) := by omega
        have t2 : ¬ ((b + 1 : Nat) : Int) ≤ (x : Int) := by omega
        have hsb : ((b + 1 : Nat) : Int) - (b : Int) = 1 := by omega
        have hsw : IntKind.i64.wrap (((b + 1 : Nat) : Int) - (b : Int)) = 1 := by rw [hsb, IntKind.wrap_i64]; omega
        simp only [List.map_cons, List.map_nil, List.cons_append, List.nil_append] at hW
        obtain ⟨e, he⟩ : ∃ e, b + 1 = e := ⟨_, rfl⟩
        rw [he] at hW hsb hsw t2 ⊢
        have hgl := hW.lt
        obtain ⟨aH, cH, aL, cL, hr, q1, q2, q3, q4, q5, q6⟩ := hW
        generalize val (b, e) = t at *
        obtain ⟨z, rfl⟩ := q6.pos (by simp)
        obtain ⟨z', hz', xb, xc⟩ := q6 0 t rfl
        obtain rfl := Option.some.inj hz'
        have Q6 := hid (q6.drop 1)
        rw [List.drop_succ_cons, List.drop_zero] at Q6
        rw [List.length_cons] at hr q3
        rw [show sv t = Value.string ⟨t.toArray⟩ from rfl] at xc ⊢
        have HR := hid hr
        have HB := hid hB
        have Q5 := hid q5
        obtain ⟨nH, hnH⟩ : ∃ n, H.length = n := ⟨_, rfl⟩
        obtain ⟨nL, hnL⟩ : ∃ n, L.length = n := ⟨_, rfl⟩
        have EH := hid hnH
        have EL := hid hnL
        rw [hnH] at HR q1
        rw [hnL] at HR q3
        have k0 : (w.alloc (.cells #[.int .i64 (x : Int), .int .i64 (y : Int)] 50)).cell? ⟨g, 1, none⟩ = some (.slice (some z) (nL + 1) cL) := by rw [cell_of_row _ _ _ _ _ _ HR.out]; rfl
        have k1 : (w.alloc (.cells #[.int .i64 (x : Int), .int .i64 (y : Int)] 50)).frozen? ⟨g, 1, none⟩ = false := frozen_of_row _ _ _ _ _ HR.out
        have k2 : (w.alloc (.cells #[.int .i64 (x : Int), .int .i64 (y : Int)] 50)).cell? (z.add 0) = some (.string ⟨t.toArray⟩) := (HB.out.cell (by rw [addr_block]; exact xb)).trans xc
        have k3 : (w.alloc (.cells #[.int .i64 (x : Int), .int .i64 (y : Int)] 50)).cell? z = some (.string ⟨t.toArray⟩) := k2
        have l0 : (0 : Int) < (nL : Int) + 1 := by omega
        have l1 : (1 : Int) ≤ (nL : Int) + 1 := by omega
        have HF : Hid (∀ (v : Value), ((w.alloc (.cells #[.int .i64 (x : Int), .int .i64 (y : Int)] 50)).setCell ⟨g, 1, none⟩ v).heap[g]? = some (.cells #[.slice aH nH cH, v] 122 (0, 0))) := fun v => heap_setCell_same _ g 1 _ _ v HR.out
        have KK : ∀ v, Hid (Keep (fun k => k = g) w ((w.alloc (.cells #[.int .i64 (x : Int), .int .i64 (y : Int)] 50)).setCell ⟨g, 1, none⟩ v)) := fun v => hK0.out.trans (Keep.ofSet (S := fun k => k = g) _ g 1 _ rfl) (fun _ _ e => e)
        clear ih hr hB q5 q6 hz' hv hnH hnL he hd h1 h2 h3 S0 hb0 hm
        go_enter Tryz.func62, Tryz.ntmps62
        by_cases hc : cL - 1 = 0
        · have hH0 : Hid (L = []) := List.eq_nil_of_length_eq_zero (by rw [EL.out]; omega)
          go_wp2
          go_ret
          exact ⟨rfl, ⟨aH, cH, some z, 0, by rw [EH.out, EL.out]; exact HF.out _, by rw [EH.out]; exact q1, q2, by rw [EL.out]; omega, by omega, Q5.out, by rw [hH0.out]; exact At.nil _ _⟩, (KK _).out⟩
        · go_wp2
          go_ret
          exact ⟨rfl, ⟨aH, cH, some (z.add 1), cL - 1, by rw [EH.out, EL.out]; exact HF.out _, by rw [EH.out]; exact q1, q2, by rw [EL.out]; omega, by omega, Q5.out, Q6.out⟩, (KK _).out⟩
      · have s1 := Tree.sp_lt (n := m) (by omega)
        have s2 := Tree.sp_pos (n := m) (by omega)
        have hsb : IntKind.i64.wrap (((b + m : Nat) : Int) - (b : Int)) = (m : Int) := by rw [IntKind.wrap_i64]; omega
        have hsb' : ((b + m : Nat) : Int) - (b : Int) = (m : Int) := by omega
        have hwn : IntKind.i64.wrap (m : Int) = (m : Int) := by rw [IntKind.wrap_i64]; omega
        have hm40 : m ≤ 1099511627776 := by omega
        have hm1 : ((m : Int) == 1) = false := by simp; omega
        have t1 : ¬ (y : Int) ≤ (b : Int) := by omega
        have t2 : ¬ ((b + m : Nat) : Int) ≤ (x : Int) := by omega
        have iS := fun w' => rsplit_any (m : Int) (by omega) (by omega) w'
        rw [show spI (m : Int) = ((Tree.sp m : Nat) : Int) from rfl] at iS
        rw [run_two hd (by omega) h2, lwi_two (x := x) (y := y) (b := b) (m := m) (k := Tree.sp m) (by omega), List.map_append, List.map_append, List.append_assoc, List.append_assoc] at hW
        have i1 := fun w' H' L' => ih b (Tree.sp m) w' H' L' (by omega) (by omega) (by omega)
        have i2 := fun w' H' L' => ih (b + Tree.sp m) (m - Tree.sp m) w' H' L' (by omega) (by omega) (by omega)
        rw [show b + Tree.sp m + (m - Tree.sp m) = b + m by omega] at i2
        have hval := hv b m (by omega) hd
        obtain ⟨cN, hN⟩ : ∃ c, Hid (nodeOf (val (b, b + Tree.sp m)) (val (b + Tree.sp m, b + m)) = (val (b, b + m), c)) := ⟨(nodeOf (val (b, b + Tree.sp m)) (val (b + Tree.sp m, b + m))).2, Prod.ext (by rw [hval]; exact nodeOf_nd _ _) rfl⟩
        have iN := fun w' => rnode_at hN w'
        have hkw : IntKind.i64.wrap ((b : Int) + ((Tree.sp m : Nat) : Int)) = ((b + Tree.sp m : Nat) : Int) := by rw [IntKind.wrap_i64]; omega
        have hgl := hW.lt
        have hW := hid (hW.below hb0)
        have hB := hid (hB.trans (hb0.mono hB.size))
        have hK0 := hid (Keep.ofBelow (S := fun k => k = g) hb0)
        have HS := hid S0
        generalize (Tree.runF f b (Tree.sp m) x y).map val = X at *
        generalize (Tree.runF f (b + Tree.sp m) (m - Tree.sp m) x y).map val = Y at *
        generalize (lwi x y b (Tree.sp m)).map (fun i => val (i, i + 1)) = U at *
        generalize (lwi x y (b + Tree.sp m) (m - Tree.sp m)).map (fun i => val (i, i + 1)) = V at *
        generalize hS : b + Tree.sp m = kk at *
        generalize Tree.sp m = sm at *
        obtain ⟨e, he⟩ : ∃ e, b + m = e := ⟨_, rfl⟩
        rw [he] at i2 hsb hsb' t2 iN ⊢
        generalize val (b, e) = v0 at *
        generalize val (b, kk) = v1' at *
        generalize val (kk, e) = v2' at *
        have hkk : (b : Int) + (sm : Int) = (kk : Int) := by omega
        have hwk : IntKind.i64.wrap (kk : Int) = (kk : Int) := by rw [IntKind.wrap_i64]; omega
        have hk40 : kk ≤ 1099511627776 := by omega
        clear ih he hS hv hval hN hd h1 h2 h3 S0 hb0 hm s1 s2
        go_enter Tryz.func62, Tryz.ntmps62
        go_wp2_with (first
          | (go_at_call 63; (with_reducible refine (iS _).mono ?_); rintro r w2 ⟨rfl, h0⟩; have h0 := h0.symm; subst h0)
          | (go_at_call 62; fail))
        with_reducible refine (i1 _ (Y ++ H) (V ++ L) hB.out hW.out).mono ?_
        rintro r w3 ⟨rfl, W3, K3⟩
        have BB3 := hid (hB.out.trans (keep_below14 K3 hB.out.size (fun k e => by omega)))
        have HK3 := hid (hK0.out.trans K3 (fun _ _ e => e))
        have hgs : ¬ w.heap.size = g := by omega
        have S3 : SpI w3 w.heap.size (x : Int) (y : Int) := (K3.block w.heap.size (lt_of_heap HS.out) hgs).trans HS.out
        have d0 := S3.c0
        have d1 := S3.c1
        have HW3 := hid W3
        clear W3 K3 i1 S3 c0 c1
        go_wp2_with (go_at_call 62; fail)
        with_reducible refine (i2 _ H L BB3.out HW3.out).mono ?_
        rintro r w4 ⟨rfl, W4, K4⟩
        have HW4 := hid W4
        have HK4 := hid (HK3.out.trans K4 (fun _ _ e => e))
        have iN4 := iN w4
        clear W4 K4 i2 iN d0 d1
        go_wp2_with (go_at_call 105; fail)
        with_reducible refine iN4.mono ?_
        rintro r w5 ⟨rfl, b5⟩
        have HW5 := hid (HW4.out.below b5)
        have HK5 := hid (HK4.out.trans (Keep.ofBelow (S := fun k => k = g) b5) (fun _ _ e => e))
        go_wp2
        go_ret
        exact ⟨rfl, HW5.out, HK5.out⟩
end Spn
end Go.Proofs.YtblmaokonhdjaaaGreatDoor

/- Layer 14, the program: complete -/
namespace Go.Proofs.YtblmaokonhdjaaaGreatDoor
open Go.RowKit Go.Shelf
namespace Spn
/-- a row of spans -/
def RowS (w : World) (g : Nat) (l : List (Nat × Nat)) : Prop := w.heap[g]? = some (.cells (prs l).toArray 50 (0, 0))
theorem RowS.lt {w : World} {g : Nat} {l : List (Nat × Nat)} (h : RowS w g l) : g < w.heap.size := lt_of_heap h
theorem RowS.below {w w' : World} {g B : Nat} {l : List (Nat × Nat)} (h : RowS w g l) (hb : Below B w w') (hB : g < B) : RowS w' g l := (hb.block g hB).trans h
theorem RowS.cell {w : World} {g : Nat} {l : List (Nat × Nat)} (h : RowS w g l) {j : Nat} {q : Nat × Nat} (hq : l[j]? = some q) : w.cell? ⟨g, j * 2, none⟩ = some (.int .i64 (q.1 : Int)) ∧ w.cell? ⟨g, j * 2 + 1, none⟩ = some (.int .i64 (q.2 : Int)) := by
  have := prs_get hq
  rw [cell_of_row _ _ _ _ _ _ h, cell_of_row _ _ _ _ _ _ h]
  simpa using this
theorem RowS.free {w : World} {g : Nat} {l : List (Nat × Nat)} (h : RowS w g l) (j : Nat) : w.frozen? ⟨g, j, none⟩ = false := frozen_of_row _ _ _ _ _ h
theorem prs_set2 : ∀ (l : List (Nat × Nat)) (k x y : Nat), k < l.length → ((prs l).set (k * 2) (.int .i64 (x : Int))).set (k * 2 + 1) (.int .i64 (y : Int)) = prs (l.set k (x, y))
  | [], k, x, y, h => by simp at h
  | q :: l, 0, x, y, h => rfl
  | q :: l, k + 1, x, y, h => by
    have ih := prs_set2 l k x y (by simpa using h)
    have e1 : prs (q :: l) = .int .i64 (q.1 : Int) :: .int .i64 (q.2 : Int) :: prs l := rfl
    have e2 : prs ((q :: l).set (k + 1) (x, y)) = .int .i64 (q.1 : Int) :: .int .i64 (q.2 : Int) :: prs (l.set k (x, y)) := rfl
    rw [e1, e2, show (k + 1) * 2 = k * 2 + 1 + 1 by omega]
    simp only [List.set_cons_succ]
    rw [ih]
theorem RowS.set {w : World} {g : Nat} {l : List (Nat × Nat)} (h : RowS w g l) {k : Nat} (hk : k < l.length) (x y : Nat) : RowS ((w.setCell ⟨g, k * 2, none⟩ (.int .i64 (x : Int))).setCell ⟨g, k * 2 + 1, none⟩ (.int .i64 (y : Int))) g (l.set k (x, y)) := by
  have e1 := heap_setCell_same w g (k * 2) _ _ (.int .i64 (x : Int)) h
  have e2 := heap_setCell_same _ g (k * 2 + 1) _ _ (.int .i64 (y : Int)) e1
  unfold RowS
  rw [e2, ← prs_set2 l k x y hk]
  simp
theorem RowS.own {w : World} {g : Nat} {l : List (Nat × Nat)} (h : RowS w g l) (hl : l.length ≤ 1099511627776) : OwnP w (.slice (some ⟨g, 0, none⟩) l.length l.length) l := by
  refine .inr ⟨g, l.length, rfl, Nat.le_refl _, by rw [maxLen]; omega, prs_len l, fun j v hv => ?_, there_of_row h 0 _ (by simp [prs_len]), h.lt⟩
  rw [cell_of_row _ _ _ _ _ _ h, Nat.zero_add]
  simpa using hv
theorem prs_rep (c : Nat) : prs (List.replicate c (0, 0)) = List.replicate (c * 2) (.int .i64 0) := by
  induction c with
  | zero => rfl
  | succ c ih =>
    have e1 : prs (List.replicate (c + 1) (0, 0)) = .int .i64 0 :: .int .i64 0 :: prs (List.replicate c (0, 0)) := rfl
    rw [e1, ih, show (c + 1) * 2 = c * 2 + 1 + 1 by omega, List.replicate_succ, List.replicate_succ]
theorem made_two (z : Value) (n : Nat) : (madeCells #[z, z] n).toList = List.replicate n z := by
  apply List.ext_getElem?
  intro j
  by_cases hj : j < n
  · have : j % 2 = 0 ∨ j % 2 = 1 := by omega
    rcases this with h | h <;> simp [madeCells, hj, h]
  · simp [madeCells, hj]
/-- make([]api.Span, c) -/
theorem make_spans14 (w : World) (c : Nat) (hc : c ≤ 8796093022000) :
    (Instr.makeSlice 75 (.int .i64 (c : Int)) (.int .i64 (c : Int))).run Tryz.prog w = .ok (.slice (some ⟨w.heap.size, 0, none⟩) c c) (w.alloc (.cells (prs (List.replicate c (0, 0))).toArray 50)) := by
  obtain ⟨i0, hi, hz0, hz1, hz2⟩ := info_parts infoSp8
  have h := run_make (P := Tryz.prog) w 75 50 i0 (.agg #[.int .i64 0, .int .i64 0]) Tryz.underlying75 hi hz0 .i64 .i64 (c : Int) (c : Int) (by omega) (by omega) (by rw [hz2]; omega) (by omega)
  rw [Int.toNat_natCast, hz1] at h
  have e : madeCells (Value.agg #[.int .i64 0, .int .i64 0]).cells (c * 2) = (prs (List.replicate c (0, 0))).toArray := by
    apply Array.ext'
    rw [show (madeCells (Value.agg #[.int .i64 0, .int .i64 0]).cells (c * 2)).toList = List.replicate (c * 2) (.int .i64 0) from made_two _ _, prs_rep]
  rw [e] at h
  exact h
/-- the first k of S, the rest nothing -/
def spre (S : List (Nat × Nat)) (k : Nat) : List (Nat × Nat) := S.take k ++ List.replicate (S.length - k) (0, 0)
theorem spre_zero (S : List (Nat × Nat)) : spre S 0 = List.replicate S.length (0, 0) := by simp [spre]
theorem spre_all (S : List (Nat × Nat)) : spre S S.length = S := by simp [spre]
theorem spre_len (S : List (Nat × Nat)) {k : Nat} (hk : k ≤ S.length) : (spre S k).length = S.length := by simp [spre]; omega
theorem spre_set (S : List (Nat × Nat)) {k : Nat} (hk : k < S.length) : (spre S k).set k S[k] = spre S (k + 1) := by
  unfold spre
  obtain ⟨m, hm⟩ : ∃ m, S.length - k = m + 1 := ⟨S.length - k - 1, by omega⟩
  have h1 : (S.take k).length = k := by simp; omega
  rw [hm, show S.length - (k + 1) = m by omega, List.replicate_succ, List.set_append, if_neg (by omega), h1, Nat.sub_self, List.set_cons_zero, List.take_add_one, List.getElem?_eq_getElem hk, List.append_assoc]
  rfl
/-- the blocks of a cut, as nodes and as spans -/
theorem cov_at {b e : Nat} (h0 : e ≤ 1099511627776) (h : b ≤ e) {j : Nat} (hj : j < (csp b e).length) : ∃ lv ix P : Nat, (covL b e)[j]? = some (lv, ix) ∧ (csp b e)[j] = (ix * P, (ix + 1) * P) ∧ P = 2 ^ lv ∧ lv ≤ 40 ∧ (ix + 1) * P ≤ 1099511627776 := by
  have hl : j < (Cut.cut b e).length := by rw [csp, List.length_map] at hj; exact hj
  have hc := Cut.cut_cov h0 h
  obtain ⟨k, hk1, hk2⟩ := cov_pow hc _ (List.getElem_mem hl)
  have hw := hc.within _ (List.getElem_mem hl)
  refine ⟨k, (Cut.cut b e)[j].1 / 2 ^ k, 2 ^ k, ?_, ?_, rfl, ?_, ?_⟩
  · unfold covL
    rw [List.getElem?_map, List.getElem?_eq_getElem hl, Option.map_some, hk1, Nat.log2_two_pow]
  · have e1 : (Cut.cut b e)[j].1 / 2 ^ k * 2 ^ k = (Cut.cut b e)[j].1 := Nat.div_mul_cancel (Nat.dvd_of_mod_eq_zero hk2)
    rw [Nat.add_mul, e1, Nat.one_mul, ← hk1]
    simp [csp]
  · rcases Nat.lt_or_ge 40 k with c | c
    · have := Nat.pow_le_pow_right (n := 2) (by omega) c
      have : (2 : Nat) ^ (40 + 1) = 2199023255552 := by decide
      omega
    · exact c
  · have e1 : (Cut.cut b e)[j].1 / 2 ^ k * 2 ^ k = (Cut.cut b e)[j].1 := Nat.div_mul_cancel (Nat.dvd_of_mod_eq_zero hk2)
    rw [Nat.add_mul, e1, Nat.one_mul]
    omega
theorem cov_len (b e : Nat) : (covL b e).length = (csp b e).length := by simp [covL, csp]
set_option maxRecDepth 100000 in
set_option maxHeartbeats 4000000 in
theorem complete14_any (s e : Nat) (h1 : s ≤ e) (h2 : e ≤ 1099511627776) (w : World) (Z : Tb w) : Calls Tryz.prog 57 #[sg (s : Int) (e : Int)] w fun r w' => ∃ v, r = .returned v ∧ OwnP w' v (csp s e) ∧ (∀ k, v.ownBlock = some k → w.heap.size ≤ k) ∧ Below w.heap.size w w' := by
  have S0 := SpI.new w s e
  have hb := hid ((Below.refl _ w).alloc (Nat.le_refl _) (.cells #[.int .i64 (s : Int), .int .i64 (e : Int)] 50))
  have c0 := S0.c0
  have c1 := S0.c1
  have i1 := cover_ok s e (w.alloc (.cells #[.int .i64 (s : Int), .int .i64 (e : Int)] 50)) h1 h2 (Z.below hb.out Z.lt)
  obtain ⟨m, hm⟩ : ∃ m, (csp s e).length = m := ⟨_, rfl⟩
  have hm81 : m ≤ 81 := by rw [← hm]; exact csp_len h2 h1
  have hcl : (covL s e).length = m := by rw [cov_len]; exact hm
  have HC := hid (fun (j : Nat) (hj : j < (csp s e).length) => cov_at h2 h1 hj)
  have Hm := hid hm
  have Hcl := hid hcl
  generalize csp s e = S at *
  generalize covL s e = C at *
  clear S0 h1 h2 Z hm hcl
  go_enter Tryz.func57, Tryz.ntmps57
  go_wp2_with (go_at_call 97; fail)
  refine i1.mono ?_
  rintro r w1 ⟨b1, v1, rfl, o1, f1⟩
  obtain ⟨a1, k1, rfl, q1, q2⟩ := OwnM.shape o1
  have B1 := hid (hb.out.trans (b1.mono hb.out.size))
  have O1 := hid o1
  have mk := make_spans14 w1 m (by omega)
  rw [Hcl.out]
  have R0 : Hid (RowS (w1.alloc (.cells (prs (List.replicate m (0, 0))).toArray 50)) w1.heap.size (spre S 0)) := by
    have := heap_alloc_new w1 (.cells (prs (List.replicate m (0, 0))).toArray 50)
    unfold Hid RowS
    rw [spre_zero, Hm.out]
    exact this
  have BA := hid ((Below.refl w1.heap.size w1).alloc (Nat.le_refl _) (.cells (prs (List.replicate m (0, 0))).toArray 50))
  have z1 := B1.out.size
  clear i1 b1 o1 f1 hb
  go_wp2
  clear mk
  go_loopw [6, 7, 18] (fun _ _ i w' => ∃ j : Nat, j ≤ m ∧ i = .int .i64 (j : Int) ∧ Hid (RowS w' w1.heap.size (spre S j)) ∧ Hid (Below w1.heap.size w1 w')) (fun _ _ i _ => m - (intOf i).toNat)
  case atStart => exact ⟨0, by omega, rfl, R0, BA⟩
  case round =>
    clear R0 BA
    obtain ⟨j, hj, rfl, hR, hB⟩ := hrel
    by_cases hjm : j < m
    · have b0 : (j : Int) < (m : Int) := by omega
      have j0 : (0 : Int) ≤ (j : Int) := by omega
      have hjS : j < S.length := by rw [Hm.out]; exact hjm
      obtain ⟨lv, ix, P, g0, g1, g2, g3, g4⟩ := HC.out j hjS
      obtain ⟨g, rfl, hg, d0, d1⟩ := ownP_at (O1.out.below hB.out) g0
      have hset := hid (spre_set S hjS)
      have hlen := spre_len S (Nat.le_of_lt hjS)
      unfold Hid at hset
      rw [g1] at hset
      have hset := hid hset
      have n0 := NdI.new wr (lv : Int) (ix : Int)
      have bn := (Below.refl wr.heap.size wr).alloc (Nat.le_refl _) (.cells #[.int .i64 (lv : Int), .int .i64 (ix : Int)] 172)
      have e0 := n0.c0
      have e1 := n0.c1
      have R1 := hR.out.below bn hR.out.lt
      have B2 := hid (hB.out.trans (bn.mono hB.out.size))
      have hjl : j < (spre S j).length := by rw [hlen]; exact hjS
      have r0 := (R1.cell (List.getElem?_eq_getElem hjl)).1
      have r1 := (R1.cell (List.getElem?_eq_getElem hjl)).2
      have f0 := R1.free (j * 2)
      have f1 := R1.free (j * 2 + 1)
      have HR1 := hid R1
      have hgr := hR.out.lt
      obtain ⟨A, hA⟩ : ∃ A, ix * P = A := ⟨_, rfl⟩
      obtain ⟨B, hB'⟩ : ∃ B, (ix + 1) * P = B := ⟨_, rfl⟩
      obtain ⟨i1, hi1⟩ : ∃ i1, ix + 1 = i1 := ⟨_, rfl⟩
      have hP1 : 1 ≤ P := by rw [g2]; exact Nat.two_pow_pos lv
      have hAB : A ≤ B := by rw [← hA, ← hB']; exact Nat.mul_le_mul_right _ (by omega)
      have hiB : i1 ≤ B := by rw [← hB', hi1]; exact Nat.le_mul_of_pos_right _ hP1
      have hx0 : (ix : Int) * 2 ^ lv = (A : Int) := by
        have : ((ix * P : Nat) : Int) = (ix : Int) * 2 ^ lv := by rw [g2]; push_cast; rfl
        rw [← this, hA]
      have hx1 : IntKind.i64.wrap ((ix : Int) * 2 ^ lv) = (A : Int) := by rw [hx0, IntKind.wrap_i64]; omega
      have hx2 : IntKind.i64.wrap ((ix : Int) + 1) = (i1 : Int) := by rw [IntKind.wrap_i64]; omega
      have hx4 : (i1 : Int) * 2 ^ lv = (B : Int) := by
        have : ((i1 * P : Nat) : Int) = (i1 : Int) * 2 ^ lv := by rw [g2]; push_cast; rfl
        rw [← this, ← hB', hi1]
      have hx3 : IntKind.i64.wrap ((i1 : Int) * 2 ^ lv) = (B : Int) := by rw [hx4, IntKind.wrap_i64]; omega
      have hlv : (lv : Int) ≤ 64 := by omega
      rw [hA, hB'] at hset
      clear HC hR hB hA hB' hi1 hP1 hAB hiB g0 g1 g2 g3 g4 hx0 hx4
      go_upto_region 6 with fail
      clear d0 d1
      generalize wr.alloc (.cells #[.int .i64 (lv : Int), .int .i64 (ix : Int)] 172) = WA at *
      have y0 : WA.drew.cell? ⟨wr.heap.size, 0, none⟩ = some (.int .i64 (lv : Int)) := e0
      have y1 : WA.drew.cell? ⟨wr.heap.size, 1, none⟩ = some (.int .i64 (ix : Int)) := e1
      have y2 : WA.drew.cell? ⟨w1.heap.size, j * 2, none⟩ = _ := r0
      have y3 : WA.drew.cell? ⟨w1.heap.size, j * 2 + 1, none⟩ = _ := r1
      have y4 : WA.drew.frozen? ⟨w1.heap.size, j * 2, none⟩ = false := f0
      have y5 : WA.drew.frozen? ⟨w1.heap.size, j * 2 + 1, none⟩ = false := f1
      have R3 := hid (HR1.out.set hjl A B)
      unfold Hid at R3
      rw [hset.out] at R3
      have R3 := hid R3
      have hne : ¬ wr.heap.size = w1.heap.size := by have := B2.out.size; have := hgr; omega
      have n3 := NdI.keep n0 ((Keep.ofSet (S := fun k => k = w1.heap.size) WA w1.heap.size (j * 2) (.int .i64 (A : Int)) rfl).trans (Keep.ofSet (S := fun k => k = w1.heap.size) _ w1.heap.size (j * 2 + 1) (.int .i64 (B : Int)) rfl) (fun _ _ e => e)) hne
      have z0 := n3.c0
      have z1 := n3.c1
      clear HR1 hset n3
      go_region_held3 (fun w' => w'.cell? ⟨wr.heap.size, 0, none⟩ = some (.int .i64 (lv : Int)) ∧ w'.cell? ⟨wr.heap.size, 1, none⟩ = some (.int .i64 (ix : Int))) (first | exact ⟨z0, z1⟩ | exact ⟨e0, e1⟩ | exact ⟨y0, y1⟩) (fail)
      have B4 : Hid (Below w1.heap.size w1 (((WA.setCell ⟨w1.heap.size, j * 2, none⟩ (.int .i64 (A : Int))).setCell ⟨w1.heap.size, j * 2 + 1, none⟩ (.int .i64 (B : Int))).drew)) := (Below.setCell (p := ⟨w1.heap.size, j * 2 + 1, none⟩) (Below.setCell (p := ⟨w1.heap.size, j * 2, none⟩) B2.out (Nat.le_refl _) _) (Nat.le_refl _) _).drew
      go_wp2
      exact ⟨⟨j + 1, by omega, by go_num, R3, B4⟩, by simp [intOf]; omega⟩
    · obtain rfl : j = m := by omega
      have b0 : ¬ (j : Int) < (j : Int) := by omega
      have hRR := hR.out
      rw [← Hm.out, spre_all] at hRR
      have HRR := hid hRR
      have BW := hid (B1.out.trans (hB.out.mono z1))
      go_wp2
      go_ret
      have := HRR.out.own (by rw [Hm.out]; omega)
      rw [Hm.out] at this
      exact ⟨_, rfl, this, (fun k hk => by cases hk; exact z1), BW.out⟩
end Spn
end Go.Proofs.YtblmaokonhdjaaaGreatDoor
