import Derived.Test.YtkbngmhhlpdpnaaDoorO26
namespace Go.Proofs.YtkbngmhhlpdpnaaDoor.Tree
/-- the wanted among the leaves from b on -/
def fi (all : List Nat) (b len : Nat) : List Nat := all.filter (fun i => decide (b ≤ i) && decide (i < b + len))
theorem fi_left (all : List Nat) (b k len : Nat) (h : k ≤ len) : (fi all b len).filter (· < b + k) = fi all b k := by
  rw [fi, fi, List.filter_filter]
  refine List.filter_congr fun x _ => ?_
  rw [Bool.eq_iff_iff]
  simp only [Bool.and_eq_true, decide_eq_true_eq]
  omega
theorem fi_right (all : List Nat) (b k len : Nat) (h : k ≤ len) : (fi all b len).filter (b + k ≤ ·) = fi all (b + k) (len - k) := by
  rw [fi, fi, List.filter_filter]
  refine List.filter_congr fun x _ => ?_
  rw [Bool.eq_iff_iff]
  simp only [Bool.and_eq_true, decide_eq_true_eq]
  omega
theorem fi_all (all : List Nat) (n : Nat) (h : ∀ i ∈ all, i < n) : fi all 0 n = all := by
  rw [fi, List.filter_eq_self]
  intro x hx
  have := h x hx
  simp; exact this
theorem fi_take (all : List Nat) (b len k : Nat) (hk : k < all.length) : fi (all.take (k + 1)) b len = fi (all.take k) b len ++ (if b ≤ all[k] ∧ all[k] < b + len then [all[k]] else []) := by
  rw [fi, fi, List.take_succ_eq_append_getElem hk, List.filter_append]
  congr 1
  by_cases h1 : b ≤ all[k] <;> by_cases h2 : all[k] < b + len <;> simp [h1, h2]
end Go.Proofs.YtkbngmhhlpdpnaaDoor.Tree
namespace Go.Proofs.YtkbngmhhlpdpnaaDoor
open Go.RowKit
set_option maxRecDepth 100000 in
set_option maxHeartbeats 2000000 in
theorem rmany_any (all : List Nat) (hal : all.length ≤ 1000000) (hab : ∀ i ∈ all, i ≤ 1000000) (ai : Option Addr) (capi : Nat) : ∀ (f : Nat) (l : List (List UInt8)) (b : Nat) (a : Option Addr) (cap : Nat) (w : World), l.length ≤ f → l.length ≤ 1000000 → 1 ≤ l.length → b + l.length ≤ 1000000 → l.length ≤ cap → cap ≤ 9223372036854775807 → At w a l → AtI w ai (ix all) →
    Calls Tryd.prog 50 #[.int .i64 b, .slice a l.length cap, .slice ai all.length capi] w (Out w (Tree.many (Tree.fi all b l.length) b l)) := by
  intro f
  induction f with
  | zero => intro l b a cap w hf _ h1; omega
  | succ f ih =>
    intro l b a cap w hf hM h1 hbl hl hc hA hI
    obtain ⟨n, hn⟩ : ∃ n, l.length = n := ⟨_, rfl⟩
    obtain ⟨m, hm⟩ : ∃ m, all.length = m := ⟨_, rfl⟩
    have HA := hid hA
    have HI := hid hI
    clear hA hI
    have ebl : (b : Int) + (n : Int) = ((b + n : Nat) : Int) := by omega
    obtain ⟨E, hE⟩ : ∃ E, b + n = E := ⟨_, rfl⟩
    rw [hE] at ebl
    have ewr : IntKind.i64.wrap (E : Int) = (E : Int) := wrap_small _ (by omega) (by omega)
    rw [hm]
    have hnn := hid hn
    have hRoot := fun w' (h : At w' a l) => R_any _ l a cap w' (Nat.le_refl _) hl hc h
    rw [hn] at hf hM h1 hbl hl hRoot ⊢
    go_enter Tryd.func50, Tryd.ntmps50
    go_wp2
    go_loopw [7, 8] (fun v i w' => ∃ k : Nat, k ≤ m ∧ i = .int .i64 (k : Int) ∧ (∃ c : Bool, v = .bool c ∧ Hid (c = true ↔ Tree.fi (all.take k) b n ≠ [])) ∧ w' = w) (fun _ i _ => m - (intOf i).toNat)
    case atStart => exact ⟨0, by omega, rfl, ⟨false, rfl, by simp [Tree.fi, Hid]⟩, rfl⟩
    case round =>
      obtain ⟨k, hk, rfl, ⟨c, rfl, hcc⟩, rfl⟩ := hrel
      by_cases hkm : k < m
      · have q0 : (k : Int) < (m : Int) := by omega
        have hkl : k < all.length := by omega
        have hst := Tree.fi_take all b n k hkl
        have hi := hab all[k] (List.getElem_mem hkl)
        obtain ⟨x, rfl, _, hcell⟩ := HI.out k ((all[k] : Nat) : Int) (by simp [ix, hkl])
        generalize all[k] = i at *
        cases c
        · have h0 : Tree.fi (all.take k) b n = [] := Classical.byContradiction (fun h => by have := hcc.out.2 h; cases this)
          rw [h0, List.nil_append] at hst
          by_cases hb1 : b ≤ i
          · have p1 : (b : Int) ≤ (i : Int) := by omega
            by_cases hb2 : i < b + n
            · have p2 : (i : Int) < (E : Int) := by omega
              rw [if_pos ⟨hb1, hb2⟩] at hst
              have hc' : Hid (true = true ↔ Tree.fi (all.take (k + 1)) b n ≠ []) := by unfold Hid; rw [hst]; simp
              go_wp2
              exact ⟨⟨k + 1, by omega, by go_num, ⟨true, rfl, hc'⟩, trivial⟩, by simp [intOf]; omega⟩
            · have p2 : ¬ (i : Int) < (E : Int) := by omega
              rw [if_neg (fun h => hb2 h.2)] at hst
              have hc' : Hid (false = true ↔ Tree.fi (all.take (k + 1)) b n ≠ []) := by unfold Hid; rw [hst]; simp
              go_wp2
              exact ⟨⟨k + 1, by omega, by go_num, ⟨false, rfl, hc'⟩, trivial⟩, by simp [intOf]; omega⟩
          · have p1 : ¬ (b : Int) ≤ (i : Int) := by omega
            rw [if_neg (fun h => hb1 h.1)] at hst
            have hc' : Hid (false = true ↔ Tree.fi (all.take (k + 1)) b n ≠ []) := by unfold Hid; rw [hst]; simp
            go_wp2
            exact ⟨⟨k + 1, by omega, by go_num, ⟨false, rfl, hc'⟩, trivial⟩, by simp [intOf]; omega⟩
        · have hne := hcc.out.1 rfl
          have hc' : Hid (true = true ↔ Tree.fi (all.take (k + 1)) b n ≠ []) := by
            unfold Hid; rw [hst]; simp [hne]
          go_wp2
          exact ⟨⟨k + 1, by omega, by go_num, ⟨true, rfl, hc'⟩, trivial⟩, by simp [intOf]; omega⟩
      · obtain rfl : k = m := by omega
        have q0 : ¬ (k : Int) < (k : Int) := by omega
        rw [show all.take k = all from List.take_of_length_le (by omega)] at hcc
        cases c
        · have h0 : Tree.fi all b n = [] := Classical.byContradiction (fun h => by have := hcc.out.2 h; cases this)
          have e0 := Tree.many_none (b := b) (l := l) (by rw [hnn.out]; exact h1)
          rw [← h0] at e0
          have hr := hRoot wr HA.out
          generalize Tree.root l = r at *
          have e0 := hid e0
          clear ih hcc h0
          go_wp2_with (go_at_call 80; refine hr.mono ?_; rintro e w1 ⟨rfl, hw1⟩; rw [show sv r = Value.string ⟨r.toArray⟩ from rfl])
          go_ret
          exact ⟨_, rfl, by rw [e0.out]; exact own_one w1 wr.heap.size r hw1.size, hw1.alloc hw1.size _⟩
        · have hne := hcc.out.1 rfl
          by_cases h1' : n = 1
          · subst h1'
            have e0 := hid (Tree.many_one (b := b) hne hnn.out)
            clear ih hcc hne
            go_wp2
            go_ret
            exact ⟨_, rfl, by rw [e0.out]; exact Own.nil _ _, Below.refl _ _⟩
          · have h2 : 2 ≤ n := by omega
            obtain ⟨x, rfl⟩ := HA.out.pos (by rw [hnn.out]; omega)
            have e := Tree.many_cut (b := b) hne (l := l) (by rw [hnn.out]; exact h2)
            rw [hnn.out] at e
            have k1 := Tree.sp_lt h2
            have k2 := Tree.sp_pos h2
            have hs : spI (n : Int) = ((Tree.sp n : Nat) : Int) := rfl
            generalize Tree.sp n = s at *
            rw [Tree.fi_left all b s n (by omega), Tree.fi_right all b s n (by omega)] at e
            have l1 : (l.take s).length = s := by rw [List.length_take, hnn.out]; omega
            have l2 : (l.drop s).length = n - s := by rw [List.length_drop, hnn.out]
            have c1 := ih (l.take s) b (some x) cap wr (by omega) (by omega) (by omega) (by omega) (by omega) hc (HA.out.take s) HI.out
            have c2 := fun w' h g => ih (l.drop s) (b + s) (some (x.add s)) (cap - s) w' (by omega) (by omega) (by omega) (by omega) (by omega) (by omega) h g
            have m1 := Tree.many_length _ (Tree.fi all b s) b (l.take s) (Nat.le_refl _) (by omega)
            have m2 := Tree.many_length _ (Tree.fi all (b + s) (n - s)) (b + s) (l.drop s) (Nat.le_refl _) (by omega)
            rw [l1, hm] at c1
            rw [l2, hm] at c2
            rw [l1] at m1
            rw [l2] at m2
            have A2 := hid (HA.out.drop s)
            have e' := hid e
            generalize Tree.many (Tree.fi all b s) b (l.take s) = L1 at *
            generalize Tree.many (Tree.fi all (b + s) (n - s)) (b + s) (l.drop s) = L2 at *
            have n2 : ((n : Int) == 1) = false := by simp; omega
            have hne' : ¬ cap = s := by omega
            clear ih hcc hne e hRoot
            generalize hK : b + s = K at *
            have e3 : (b : Int) + (s : Int) = (K : Int) := by omega
            have e4 : IntKind.i64.wrap (K : Int) = (K : Int) := wrap_small _ (by omega) (by omega)
            have hK' := hid hK
            clear hK
            go_wp2_with (first
              | (go_at_call 79; refine (rsplit_any (n : Int) (by omega) (by omega) _).mono ?_; rintro e w0 ⟨rfl, rfl⟩; rw [hs])
              | (go_at_call 50; (with_reducible refine c1.mono ?_); rintro e w1 ⟨v1, rfl, hO1, hw1⟩)
              | (go_at_call 50; (with_reducible refine (c2 _ (A2.out.below hw1 (Nat.le_refl _)) (HI.out.below hw1 (Nat.le_refl _))).mono ?_); rintro e w2 ⟨v2, rfl, hO2, hw2⟩; obtain ⟨v3, w3, hap, hO3, hb3⟩ := append_list w2 w0.heap.size w1.heap.size v1 v2 L1 L2 (hO1.below hw2 (Nat.le_refl _)) hO2 (by omega) (Nat.le_trans hw1.size hw2.size))
              | (at_builtin; go_must (refine Lib.wpList_append_run _ rfl _ _ 22 22 rfl _ _ rfl rfl _ _ hap ?_)))
            go_ret
            exact ⟨_, rfl, by rw [e'.out]; exact hO3, (hw1.trans (hw2.mono hw1.size)).trans hb3⟩
end Go.Proofs.YtkbngmhhlpdpnaaDoor
