import Derived.Test.YthoekndjeclimaaGreatDoorCI11
import Derived.Test.YthoekndjeclimaaGreatDoorCXP1
namespace Go.Proofs.YthoekndjeclimaaGreatDoor
open Go.RowKit
def bhd : List UInt8 := [98, 101, 104, 105, 110, 100]
theorem bhd_sv : sv bhd = .string ⟨#[98, 101, 104, 105, 110, 100]⟩ := rfl
def bhds (j : Nat) : List (List UInt8) := List.replicate j bhd ++ List.replicate (8 - j) []
theorem bhds_len (j : Nat) (h : j ≤ 8) : (bhds j).length = 8 := by simp [bhds]; omega
theorem bhds_set : ∀ j : Fin 8, (bhds j.val).set j.val bhd = bhds (j.val + 1) := by decide
theorem bhds_get : ∀ j : Fin 8, (bhds 8)[j.val]? = some bhd := by decide
theorem bhds_step (ps : List (List UInt8)) (j : Nat) (h : j < 8) : (ps ++ bhds j).set (ps.length + j) bhd = ps ++ bhds (j + 1) := by
  rw [List.set_append_right _ _ (by omega), show ps.length + j - ps.length = j from by omega, bhds_set ⟨j, h⟩]
/-- append(l, s), whatever came in -/
theorem append_textG (w : World) (base : Nat) (v : Value) (L : List (List UInt8)) (p : List UInt8) (hown : Own w base v (svs L)) (hlen : L.length + 1 ≤ 8796093022208) (hbase : base ≤ w.heap.size) :
    ∃ v' w', (Builtin.append_ #[22, 22] 22 #[v, .slice (some ⟨w.heap.size, 0, none⟩) 1 1]).run Tryz.prog (w.alloc (.cells #[sv p] 9)) = .ok v' w' ∧ Own w' base v' (svs (L ++ [p])) ∧ Below base w w' := by
  obtain ⟨i0, hi, hz0, hz1, hz2⟩ := info_parts infoS
  have hsrc : Src Tryz.prog 1 22 (.slice (some ⟨w.heap.size, 0, none⟩) 1 1) 1 [sv p] (w.alloc (.cells #[sv p] 9)) :=
    Src.ofSlice _ Tryz.underlying22 ⟨w.heap.size, 0, none⟩ 1 1 [sv p] (by simp) (fun j u hj => by
      rw [Addr.add_mid, cell_of_row _ _ _ _ _ _ (heap_alloc_new w _), Nat.zero_add]; simpa using hj) (fun u hu => by simp at hu; subst hu; rfl)
  obtain ⟨v', w', h1, h2, h3, h4⟩ := run_append_O (P := Tryz.prog) (w.alloc (.cells #[sv p] 9)) base 22 22 22 9 i0 (.string ⟨#[]⟩) Tryz.underlying22 hi hz0 hz1 rfl v (svs L) (hown.alloc _) _ 1 [sv p] hsrc
    (by rw [svs_length, hz2]; omega) (by rw [svs_length, maxLen]; omega) (by rw [size_alloc]; omega) (fun _ => by omega)
  refine ⟨v', w', h1, by simpa [svs] using h2, ?_⟩
  exact ((Below.refl base w).alloc hbase _).trans (Below.ofGrown h3 hown.ge (by rw [size_alloc]; omega))
/-- as many texts come out -/
def TuOut (w : World) (M : Nat) (e : Ending) (w' : World) : Prop := ∃ v X, e = .returned v ∧ X.length = M ∧ Own w' w.heap.size v (svs X) ∧ Below w.heap.size w w'
theorem Own.block4 {w : World} {base : Nat} {v : Value} {x : List UInt8} {L : List (List UInt8)} (h : Own w base v (svs (x :: L))) : ∃ g cap, v = .slice (some ⟨g, 0, none⟩) (L.length + 1) cap ∧ base ≤ g ∧ g < w.heap.size ∧ w.cell? ⟨g, 0, none⟩ = some (sv x) ∧ w.frozen? ⟨g, 0, none⟩ = false := by
  rcases h with ⟨_, h⟩ | ⟨g, cap, rfl, h1, h2, h3, h4, h5, h6⟩
  · simp [svs] at h
  · refine ⟨g, cap, by simp [svs], h1, h6, h4 0 (sv x) rfl, ?_⟩
    have := h5 0 (by simp [svs] at h2; omega)
    rw [Nat.zero_add] at this
    exact this.2
theorem Own.set5 {w : World} {base g cap : Nat} {cs : List Value} (h : Own w base (.slice (some ⟨g, 0, none⟩) cs.length cap) cs) (k : Nat) (hk : k < cs.length) (x : Value) :
    Own (w.setCell ⟨g, k, none⟩ x) base (.slice (some ⟨g, 0, none⟩) (cs.set k x).length cap) (cs.set k x) := by
  rcases h with ⟨h, _⟩ | ⟨g', cap', h, h1, h2, h3, h4, h5, h6⟩
  · cases h
  · injection h with e1 e2 e3
    injection e1 with e1
    injection e1 with e1
    subst e1 e3
    refine .inr ⟨g, cap, rfl, h1, by rw [List.length_set]; exact h2, h3, fun j v hv => ?_, fun j hj => ?_, by simpa [World.setCell] using h6⟩
    · rw [Nat.zero_add]
      rw [List.getElem?_set] at hv
      split at hv
      · rename_i e
        subst e
        cases hv
        have := (h5 k (by omega)).1
        rw [Nat.zero_add] at this
        exact World.cell?_setCell_same' _ _ _ this
      · rename_i e
        have := h4 j v hv
        rw [Nat.zero_add] at this
        exact (World.cell?_setCell_other _ _ _ _ (by intro h; injection h; omega)).trans this
    · have := h5 j hj
      rw [Nat.zero_add] at this ⊢
      refine ⟨?_, by rw [World.frozen?_setCell]; exact this.2⟩
      by_cases e : j = k
      · subst e
        rw [World.cell?_setCell_same' _ _ _ this.1]; rfl
      · rw [World.cell?_setCell_other _ _ _ _ (by intro h; injection h; omega)]
        exact this.1
/-- copy(own, l), over what lay there -/
theorem copy_textsG (w : World) (H : Nat) (a : Option Addr) (cap' : Nat) (ps old rest : List (List UInt8)) (ho : old.length = ps.length) (hs : At w a ps) (hR : Row w H (old ++ rest)) (cap : Nat) :
    ∃ w', (Builtin.copy_ #[22, 22] 3 #[.slice (some ⟨H, 0, none⟩) ps.length cap, .slice a ps.length cap']).run Tryz.prog w = .ok (goInt ps.length) w' ∧ Row w' H (ps ++ rest) ∧ But H w w' := by
  by_cases h0 : ps.length = 0
  · obtain rfl : ps = [] := List.length_eq_zero_iff.1 h0
    obtain rfl : old = [] := List.length_eq_zero_iff.1 ho
    exact ⟨w, run_copy_none (P := Tryz.prog) w _ _ _ 9 _ _ _ _ _ _ Tryz.underlying22 infoS1 (by simp), by simpa using hR, But.refl _ _⟩
  · obtain ⟨x, rfl, hx, _⟩ := hs 0 _ (List.getElem?_eq_getElem (by omega))
    have h := run_copy_row (P := Tryz.prog) w 22 22 3 9 H 0 ps.length cap x ps.length cap' _ 9 (svs ps) Tryz.underlying22 infoS1 hR
      (by rw [svs_length]; exact (Nat.min_eq_left (Nat.le_refl _)).symm) (fun j u hu => by
        simp only [svs, List.getElem?_map, Option.map_eq_some_iff] at hu
        obtain ⟨p, hp, rfl⟩ := hu
        obtain ⟨y, hy, _, hc⟩ := hs j p hp
        cases hy
        exact hc) (by simp [svs]; omega) (fun u hu => svs_one' hu)
    refine ⟨_, h.trans (by rw [svs_length]), ?_, (But.refl _ _).setRow _⟩
    unfold Row
    rw [setRow_heap _ _ _ _ _ _ hR]
    refine congrArg (fun A => some (Obj.cells A 9 (0, 0))) ?_
    simp [svs, ← ho]
theorem Own.at5 {w : World} {base : Nat} {v : Value} {L : List (List UInt8)} (h : Own w base v (svs L)) : ∃ a cap, v = .slice a L.length cap ∧ At w a L ∧ L.length ≤ cap ∧ cap ≤ 9223372036854775807 ∧ ∀ y, a = some y → base ≤ y.block := by
  rcases h with ⟨rfl, h⟩ | ⟨g, cap, rfl, h1, h2, h3, h4, h5, h6⟩
  · obtain rfl : L = [] := by simpa [svs] using h
    exact ⟨none, 0, rfl, At.nil _ _, by simp, by omega, fun y hy => by cases hy⟩
  · rw [svs_length] at h2
    refine ⟨some ⟨g, 0, none⟩, cap, by rw [svs_length], fun j p hp => ⟨_, rfl, h6, ?_⟩, h2, h3, fun y hy => ?_⟩
    · rw [Addr.add_mid]
      exact h4 j (sv p) (by simp [svs, hp])
    · obtain rfl := Option.some.inj hy
      exact h1
theorem At.but {w w' : World} {a : Option Addr} {l : List (List UInt8)} {b : Nat} (h : At w a l) (hb : But b w w') (hs : w.heap.size ≤ w'.heap.size) (hne : ∀ x, a = some x → x.block ≠ b) : At w' a l := fun j p hp => by
  obtain ⟨x, rfl, hx, hc⟩ := h j p hp
  refine ⟨x, rfl, Nat.lt_of_lt_of_le hx hs, ?_⟩
  rw [← hc]
  exact World.cell?_of_block (w := w) (by rw [addr_block]; exact hb.block _ hx (hne x rfl))
theorem X_q {X : List (List UInt8)} (h : X.all (·.length == 32) = true) : ∀ q ∈ X, q.length ≤ 140737488351232 := fun q hq => by
  have := List.all_eq_true.1 h q hq
  have : q.length = 32 := by simpa using this
  omega
theorem Own.cell5 {w : World} {base g cap : Nat} {cs : List Value} (h : Own w base (.slice (some ⟨g, 0, none⟩) cs.length cap) cs) {k : Nat} {x : Value} (hk : cs[k]? = some x) : w.cell? ⟨g, k, none⟩ = some x ∧ w.frozen? ⟨g, k, none⟩ = false ∧ base ≤ g ∧ g < w.heap.size := by
  rcases h with ⟨h, _⟩ | ⟨g', cap', h, h1, h2, h3, h4, h5, h6⟩
  · cases h
  · injection h with e1 e2 e3
    injection e1 with e1
    injection e1 with e1
    subst e1 e3
    have h7 := h4 k x hk
    rw [Nat.zero_add] at h7
    have hkl : k < cs.length := by
      rcases Nat.lt_or_ge k cs.length with h | h
      · exact h
      · rw [List.getElem?_eq_none h] at hk; cases hk
    have h8 := (h5 k (by omega)).2
    rw [Nat.zero_add] at h8
    exact ⟨h7, h8, h1, h6⟩
end Go.Proofs.YthoekndjeclimaaGreatDoor

namespace Go.Proofs.YthoekndjeclimaaGreatDoor
open Go.RowKit
theorem Tree.bth_len1 {P : List (List UInt8)} (h : P.length = 1) : ∃ x, P = [x] := by
  obtain ⟨x, hx⟩ := List.length_eq_one_iff.1 h
  exact ⟨x, hx⟩
set_option maxRecDepth 100000 in
set_option maxHeartbeats 600000 in
theorem rboth_any : ∀ (f m n : Nat) (whole : Bool) (old : List UInt8) (P : List (List UInt8)) (a : Option Addr) (cap : Nat) (w : World), n ≤ f → n ≤ 1099511627776 → 1 ≤ m → m ≤ n → P.length = Tree.pl m n whole → P.length ≤ cap → cap ≤ 9223372036854775807 → At w a P →
    Calls Tryz.prog 88 #[.int .i64 m, .int .i64 n, .bool whole, sv old, .slice a P.length cap] w fun e w' => e = .returned (.tuple #[sv (Tree.bth m n whole old P).1, sv (Tree.bth m n whole old P).2]) ∧ Below w.heap.size w w' := by
  intro f
  induction f with
  | zero => intro m n whole old P a cap w hf _ h1 h2; omega
  | succ f ih =>
    intro m n whole old P a cap w hf hn h1 h2 hlen hcap hc hA
    by_cases he : m = n
    · subst he
      rw [Tree.bth_same]
      rw [Tree.pl_same] at hlen
      have b0 : ((m : Int) == (m : Int)) = true := by simp
      clear ih
      cases whole
      · obtain ⟨x, rfl⟩ := Tree.bth_len1 hlen
        obtain ⟨y, rfl, hyb, hcell⟩ := hA 0 x rfl
        rw [addr_zero] at hcell
        show Calls _ _ #[_, _, _, _, .slice (some y) 1 cap] _ fun e w' => e = .returned (.tuple #[sv x, sv x]) ∧ _
        go_enter Tryz.func88, Tryz.ntmps88
        go_wp2
        go_quiet (fail)
        go_wp2
        go_ret2
        exact ⟨rfl, below_drewN (Below.refl _ _) _⟩
      · show Calls _ _ _ _ fun e w' => e = .returned (.tuple #[sv old, sv old]) ∧ _
        generalize P.length = pl at *
        clear hA
        go_enter Tryz.func88, Tryz.ntmps88
        go_wp2
        go_ret2
        exact ⟨rfl, Below.refl _ _⟩
    · have b0 : ((m : Int) == (n : Int)) = false := by simp; omega
      have k1 := Tree.sp_lt (n := n) (by omega)
      have k2 := Tree.sp_pos (n := n) (by omega)
      have hs := rsplit4_any n (by omega) (by omega)
      have pL := @Tree.pl_left m n h1 (by omega)
      have pR := @Tree.pl_right m n h1 (by omega)
      have bL := @Tree.bth_left m n h1 (by omega)
      have bR := @Tree.bth_right m n h1 (by omega)
      generalize Tree.sp n = k at *
      obtain ⟨kk, hkk⟩ : ∃ kk, P.length = kk := ⟨_, rfl⟩
      by_cases hmk : m ≤ k
      · have hpl := pL hmk whole
        obtain ⟨q, h, hq, hP, htl, hget⟩ := split_last hkk (by omega)
        have hq' : (P.take q).length = Tree.pl m k whole := by omega
        have i1 := fun w' (hA' : At w' a (P.take q)) => ih m k whole old (P.take q) a cap w' (by omega) (by omega) h1 hmk hq' (by omega) hc hA'
        rw [htl] at i1
        have e1 : Hid (Tree.bth m n whole old P = ((Tree.bth m k whole old (P.take q)).1, Tree.nd (Tree.bth m k whole old (P.take q)).2 h)) := by
          unfold Hid
          conv => lhs; rw [hP]
          exact bL hmk whole old (P.take q) h hq'
        generalize Tree.bth m n whole old P = X at *
        generalize Tree.bth m k whole old (P.take q) = Y at *
        obtain ⟨x, rfl, hxb, hcell⟩ := hA q h hget
        have A0 := hid (hA.take q)
        obtain ⟨N, hN⟩ : ∃ N, Hid (Tree.nd Y.2 h = N) := ⟨_, rfl⟩
        have e2 := hid (show X = (Y.1, N) by rw [e1.out, hN.out])
        have b1 : (m : Int) ≤ (k : Int) := by omega
        have f1 : (kk : Int) - 1 = (q : Int) := by omega
        have f2 : (q : Int) ≤ (cap : Int) := by omega
        have f3 : IntKind.i64.wrap (q : Int) = (q : Int) := wrap_small _ (by omega) (by omega)
        have f4 : (q : Int) < (kk : Int) := by omega
        have f5 : q ≤ cap := by omega
        rw [hkk] at hcap ⊢
        clear ih pL pR bL bR hpl hlen hget hP htl hA hkk hq hq' e1
        go_enter Tryz.func88, Tryz.ntmps88
        go_wp2_with (first
          | (go_at_call 100; refine (hs _).mono ?_; rintro e w1 ⟨rfl, rfl⟩)
          | (go_at_call 88; (with_reducible refine (i1 _ A0.out).mono ?_); rintro e w2 ⟨rfl, hw2⟩; have hcell2 := (hw2.cell (p := x.add q) (by rw [addr_block]; exact hxb)).trans hcell)
          | (go_at_call 101; (with_reducible refine (r4node_any hN _).mono ?_); rintro e w3 ⟨rfl, hw3⟩))
        go_ret2
        exact ⟨by rw [e2.out]; rfl, hw2.trans (hw3.mono hw2.size)⟩
      · have hpl := pR hmk whole
        obtain ⟨q, h, hq, hP, htl, hget⟩ := split_last hkk (by omega)
        have hq' : (P.take q).length = Tree.pl (m - k) (n - k) false := by omega
        have i1 := fun w' (hA' : At w' a (P.take q)) => ih (m - k) (n - k) false old (P.take q) a cap w' (by omega) (by omega) (by omega) (by omega) hq' (by omega) hc hA'
        rw [htl, show ((m - k : Nat) : Int) = (m : Int) - (k : Int) from by omega, show ((n - k : Nat) : Int) = (n : Int) - (k : Int) from by omega] at i1
        have e1 : Hid (Tree.bth m n whole old P = (Tree.nd h (Tree.bth (m - k) (n - k) false old (P.take q)).1, Tree.nd h (Tree.bth (m - k) (n - k) false old (P.take q)).2)) := by
          unfold Hid
          conv => lhs; rw [hP]
          exact bR hmk whole old (P.take q) h hq'
        generalize Tree.bth m n whole old P = X at *
        generalize Tree.bth (m - k) (n - k) false old (P.take q) = Y at *
        obtain ⟨x, rfl, hxb, hcell⟩ := hA q h hget
        have A0 := hid (hA.take q)
        obtain ⟨Y1, hY1⟩ : ∃ Y1, Y.1 = Y1 := ⟨_, rfl⟩
        obtain ⟨Y2, hY2⟩ : ∃ Y2, Y.2 = Y2 := ⟨_, rfl⟩
        rw [hY1, hY2] at e1 i1
        obtain ⟨N1, hN1⟩ : ∃ N, Hid (Tree.nd h Y1 = N) := ⟨_, rfl⟩
        obtain ⟨N2, hN2⟩ : ∃ N, Hid (Tree.nd h Y2 = N) := ⟨_, rfl⟩
        have e2 := hid (show X = (N1, N2) by rw [e1.out, hN1.out, hN2.out])
        have b1 : ¬ (m : Int) ≤ (k : Int) := by omega
        have g1 : IntKind.i64.wrap ((n : Int) - (k : Int)) = (n : Int) - (k : Int) := wrap_small _ (by omega) (by omega)
        have g2 : IntKind.i64.wrap ((m : Int) - (k : Int)) = (m : Int) - (k : Int) := wrap_small _ (by omega) (by omega)
        have f1 : (kk : Int) - 1 = (q : Int) := by omega
        have f2 : (q : Int) ≤ (cap : Int) := by omega
        have f3 : IntKind.i64.wrap (q : Int) = (q : Int) := wrap_small _ (by omega) (by omega)
        have f4 : (q : Int) < (kk : Int) := by omega
        have f5 : q ≤ cap := by omega
        rw [hkk] at hcap ⊢
        clear ih pL pR bL bR hpl hlen hget hP htl hA hkk hq hq' e1 hY1 hY2
        go_enter Tryz.func88, Tryz.ntmps88
        go_wp2_with (first
          | (go_at_call 100; refine (hs _).mono ?_; rintro e w1 ⟨rfl, rfl⟩)
          | (go_at_call 88; (with_reducible refine (i1 _ A0.out).mono ?_); rintro e w2 ⟨rfl, hw2⟩; have hcell2 := (hw2.cell (p := x.add q) (by rw [addr_block]; exact hxb)).trans hcell; have hxb2 := Nat.lt_of_lt_of_le hxb hw2.size))
        go_region_held3 (fun w' => w'.cell? (x.add q) = some (sv h)) (first | exact hcell4 | exact hcell3 | exact hcell2) (first
          | (go_at_call 101; (with_reducible refine (r4node_any hN1 w2.drew).mono ?_); rintro e w3 ⟨rfl, hw3'⟩; have hw3 := drewBelow hw3'; have hcell3 := (hw3.cell (p := x.add q) (by rw [addr_block]; exact hxb2)).trans hcell2)
          | (go_at_call 101; (with_reducible refine (r4node_any hN2 _).mono ?_); rintro e w4 ⟨rfl, hw4'⟩; have hw4 := hw3.trans (hw4'.mono hw3.size); have hcell4 := (hw4.cell (p := x.add q) (by rw [addr_block]; exact hxb2)).trans hcell2))
        go_wp2
        go_ret2
        exact ⟨by rw [e2.out]; rfl, hw2.trans (hw4.mono hw2.size)⟩
end Go.Proofs.YthoekndjeclimaaGreatDoor
