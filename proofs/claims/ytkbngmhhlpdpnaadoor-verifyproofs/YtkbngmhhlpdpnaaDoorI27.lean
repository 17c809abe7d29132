import Derived.Test.YtkbngmhhlpdpnaaDoorI16
import Derived.Test.YtkbngmhhlpdpnaaDoorI21
import Derived.Test.YtkbngmhhlpdpnaaDoorI23
namespace Go.Proofs.YtkbngmhhlpdpnaaDoor
open Go.RowKit
theorem Tree.bth_len1 {P : List (List UInt8)} (h : P.length = 1) : ∃ x, P = [x] := by
  obtain ⟨x, hx⟩ := List.length_eq_one_iff.1 h
  exact ⟨x, hx⟩
set_option maxRecDepth 100000 in
set_option maxHeartbeats 600000 in
theorem rboth_any : ∀ (f m n : Nat) (whole : Bool) (old : List UInt8) (P : List (List UInt8)) (a : Option Addr) (cap : Nat) (w : World), n ≤ f → n ≤ 1099511627776 → 1 ≤ m → m ≤ n → P.length = Tree.pl m n whole → P.length ≤ cap → cap ≤ 9223372036854775807 → At w a P →
    Calls Tryd.prog 100 #[.int .i64 m, .int .i64 n, .bool whole, sv old, .slice a P.length cap] w fun e w' => e = .returned (.tuple #[sv (Tree.bth m n whole old P).1, sv (Tree.bth m n whole old P).2]) ∧ Below w.heap.size w w' := by
  intro f
  induction f with
  | zero => intro m n whole old P a cap w hf _ h1 h2; omega
  | succ f ih =>
    intro m n whole old P a cap w hf hn h1 h2 hlen hcap hc hA
    by_cases he : m = n
    · subst he
      rw [Tree.bth_same]
      rw [Tree.pl_same] at hlen
      have b0 : ((m : Int) == (m : Int)) = true := by simp
      clear ih
      cases whole
      · obtain ⟨x, rfl⟩ := Tree.bth_len1 hlen
        obtain ⟨y, rfl, hyb, hcell⟩ := hA 0 x rfl
        rw [addr_zero] at hcell
        show Calls _ _ #[_, _, _, _, .slice (some y) 1 cap] _ fun e w' => e = .returned (.tuple #[sv x, sv x]) ∧ _
        go_enter Tryd.func100, Tryd.ntmps100
        go_wp2
        go_quiet (fail)
        go_wp2
        go_ret2
        exact ⟨rfl, below_drewN (Below.refl _ _) _⟩
      · show Calls _ _ _ _ fun e w' => e = .returned (.tuple #[sv old, sv old]) ∧ _
        generalize P.length = pl at *
        clear hA
        go_enter Tryd.func100, Tryd.ntmps100
        go_wp2
        go_ret2
        exact ⟨rfl, Below.refl _ _⟩
    · have b0 : ((m : Int) == (n : Int)) = false := by simp; omega
      have k1 := Tree.sp_lt (n := n) (by omega)
      have k2 := Tree.sp_pos (n := n) (by omega)
      have hs := rsplit4_any n (by omega) (by omega)
      have pL := @Tree.pl_left m n h1 (by omega)
      have pR := @Tree.pl_right m n h1 (by omega)
      have bL := @Tree.bth_left m n h1 (by omega)
      have bR := @Tree.bth_right m n h1 (by omega)
      generalize Tree.sp n = k at *
      obtain ⟨kk, hkk⟩ : ∃ kk, P.length = kk := ⟨_, rfl⟩
      by_cases hmk : m ≤ k
      · have hpl := pL hmk whole
        obtain ⟨q, h, hq, hP, htl, hget⟩ := split_last hkk (by omega)
        have hq' : (P.take q).length = Tree.pl m k whole := by omega
        have i1 := fun w' (hA' : At w' a (P.take q)) => ih m k whole old (P.take q) a cap w' (by omega) (by omega) h1 hmk hq' (by omega) hc hA'
        rw [htl] at i1
        have e1 : Hid (Tree.bth m n whole old P = ((Tree.bth m k whole old (P.take q)).1, Tree.nd (Tree.bth m k whole old (P.take q)).2 h)) := by
          unfold Hid
          conv => lhs; rw [hP]
          exact bL hmk whole old (P.take q) h hq'
        generalize Tree.bth m n whole old P = X at *
        generalize Tree.bth m k whole old (P.take q) = Y at *
        obtain ⟨x, rfl, hxb, hcell⟩ := hA q h hget
        have A0 := hid (hA.take q)
        obtain ⟨N, hN⟩ : ∃ N, Hid (Tree.nd Y.2 h = N) := ⟨_, rfl⟩
        have e2 := hid (show X = (Y.1, N) by rw [e1.out, hN.out])
        have b1 : (m : Int) ≤ (k : Int) := by omega
        have f1 : (kk : Int) - 1 = (q : Int) := by omega
        have f2 : (q : Int) ≤ (cap : Int) := by omega
        have f3 : IntKind.i64.wrap (q : Int) = (q : Int) := wrap_small _ (by omega) (by omega)
        have f4 : (q : Int) < (kk : Int) := by omega
        have f5 : q ≤ cap := by omega
        rw [hkk] at hcap ⊢
        clear ih pL pR bL bR hpl hlen hget hP htl hA hkk hq hq' e1
        go_enter Tryd.func100, Tryd.ntmps100
        go_wp2_with (first
          | (go_at_call 94; refine (hs _).mono ?_; rintro e w1 ⟨rfl, rfl⟩)
          | (go_at_call 100; (with_reducible refine (i1 _ A0.out).mono ?_); rintro e w2 ⟨rfl, hw2⟩; have hcell2 := (hw2.cell (p := x.add q) (by rw [addr_block]; exact hxb)).trans hcell)
          | (go_at_call 107; (with_reducible refine (r4node_any hN _).mono ?_); rintro e w3 ⟨rfl, hw3⟩))
        go_ret2
        exact ⟨by rw [e2.out]; rfl, hw2.trans (hw3.mono hw2.size)⟩
      · have hpl := pR hmk whole
        obtain ⟨q, h, hq, hP, htl, hget⟩ := split_last hkk (by omega)
        have hq' : (P.take q).length = Tree.pl (m - k) (n - k) false := by omega
        have i1 := fun w' (hA' : At w' a (P.take q)) => ih (m - k) (n - k) false old (P.take q) a cap w' (by omega) (by omega) (by omega) (by omega) hq' (by omega) hc hA'
        rw [htl, show ((m - k : Nat) : Int) = (m : Int) - (k : Int) from by omega, show ((n - k : Nat) : Int) = (n : Int) - (k : Int) from by omega] at i1
        have e1 : Hid (Tree.bth m n whole old P = (Tree.nd h (Tree.bth (m - k) (n - k) false old (P.take q)).1, Tree.nd h (Tree.bth (m - k) (n - k) false old (P.take q)).2)) := by
          unfold Hid
          conv => lhs; rw [hP]
          exact bR hmk whole old (P.take q) h hq'
        generalize Tree.bth m n whole old P = X at *
        generalize Tree.bth (m - k) (n - k) false old (P.take q) = Y at *
        obtain ⟨x, rfl, hxb, hcell⟩ := hA q h hget
        have A0 := hid (hA.take q)
        obtain ⟨Y1, hY1⟩ : ∃ Y1, Y.1 = Y1 := ⟨_, rfl⟩
        obtain ⟨Y2, hY2⟩ : ∃ Y2, Y.2 = Y2 := ⟨_, rfl⟩
        rw [hY1, hY2] at e1 i1
        obtain ⟨N1, hN1⟩ : ∃ N, Hid (Tree.nd h Y1 = N) := ⟨_, rfl⟩
        obtain ⟨N2, hN2⟩ : ∃ N, Hid (Tree.nd h Y2 = N) := ⟨_, rfl⟩
        have e2 := hid (show X = (N1, N2) by rw [e1.out, hN1.out, hN2.out])
        have b1 : ¬ (m : Int) ≤ (k : Int) := by omega
        have g1 : IntKind.i64.wrap ((n : Int) - (k : Int)) = (n : Int) - (k : Int) := wrap_small _ (by omega) (by omega)
        have g2 : IntKind.i64.wrap ((m : Int) - (k : Int)) = (m : Int) - (k : Int) := wrap_small _ (by omega) (by omega)
        have f1 : (kk : Int) - 1 = (q : Int) := by omega
        have f2 : (q : Int) ≤ (cap : Int) := by omega
        have f3 : IntKind.i64.wrap (q : Int) = (q : Int) := wrap_small _ (by omega) (by omega)
        have f4 : (q : Int) < (kk : Int) := by omega
        have f5 : q ≤ cap := by omega
        rw [hkk] at hcap ⊢
        clear ih pL pR bL bR hpl hlen hget hP htl hA hkk hq hq' e1 hY1 hY2
        go_enter Tryd.func100, Tryd.ntmps100
        go_wp2_with (first
          | (go_at_call 94; refine (hs _).mono ?_; rintro e w1 ⟨rfl, rfl⟩)
          | (go_at_call 100; (with_reducible refine (i1 _ A0.out).mono ?_); rintro e w2 ⟨rfl, hw2⟩; have hcell2 := (hw2.cell (p := x.add q) (by rw [addr_block]; exact hxb)).trans hcell; have hxb2 := Nat.lt_of_lt_of_le hxb hw2.size))
        go_region_held3 (fun w' => w'.cell? (x.add q) = some (sv h)) (first | exact hcell4 | exact hcell3 | exact hcell2) (first
          | (go_at_call 107; (with_reducible refine (r4node_any hN1 w2.drew).mono ?_); rintro e w3 ⟨rfl, hw3'⟩; have hw3 := drewBelow hw3'; have hcell3 := (hw3.cell (p := x.add q) (by rw [addr_block]; exact hxb2)).trans hcell2)
          | (go_at_call 107; (with_reducible refine (r4node_any hN2 _).mono ?_); rintro e w4 ⟨rfl, hw4'⟩; have hw4 := hw3.trans (hw4'.mono hw3.size); have hcell4 := (hw4.cell (p := x.add q) (by rw [addr_block]; exact hxb2)).trans hcell2))
        go_wp2
        go_ret2
        exact ⟨by rw [e2.out]; rfl, hw2.trans (hw4.mono hw2.size)⟩
end Go.Proofs.YtkbngmhhlpdpnaaDoor
