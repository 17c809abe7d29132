import Derived.Test.YtkbngmhhlpdpnaaDoorO8
namespace Go.Proofs.YtkbngmhhlpdpnaaDoor
open Go.RowKit

set_option maxRecDepth 100000 in
set_option maxHeartbeats 400000 in
theorem path1_one (m : Int) (a : Option Addr) (cap c : Nat) (w : World) :
    Calls Tryd.prog 77 #[.int .i64 m, .slice a 1 cap, .pointer (some ⟨c, 0, none⟩)] w (Out w []) := by
  go_enter Tryd.func77, Tryd.ntmps77
  go_wp2
  go_ret
  exact ⟨_, rfl, Own.nil _ _, Below.refl _ _⟩
set_option maxRecDepth 100000 in
set_option maxHeartbeats 2000000 in
/-- the program's -/
theorem path1_any : ∀ (f : Nat) (l : List (List UInt8)) (m : Nat) (a : Option Addr) (cap c : Nat) (w : World), l.length ≤ f → l.length ≤ 1000000 → m < l.length → l.length ≤ cap → cap ≤ 9223372036854775807 → At w a l → Tabs w →
    w.cell? ⟨c, 0, none⟩ = some (.func (.func 77) #[] #[.pointer (some ⟨c, 0, none⟩)]) →
    Calls Tryd.prog 77 #[.int .i64 m, .slice a l.length cap, .pointer (some ⟨c, 0, none⟩)] w (Out w (Tree.path m l)) := by
  intro f
  induction f with
  | zero => intro l m a cap c w hf _ hm; omega
  | succ f ih =>
    intro l m a cap c w hf hM hm hl hc hA T hcl
    by_cases h1 : l.length = 1
    · rw [h1, Tree.path_small (by omega)]
      exact path1_one m a cap c w
    · obtain ⟨n, hn⟩ : ∃ n, l.length = n := ⟨_, rfl⟩
      have h2 : 2 ≤ n := by omega
      obtain ⟨x, rfl⟩ := hA.pos (by rw [hn]; omega)
      have e := hid (Tree.path_cut (m := m) (l := l) (by rw [hn]; exact h2))
      rw [hn] at e hf hl hm h1 hM ⊢
      have k1 := Tree.sp_lt h2
      have k2 := Tree.sp_pos h2
      have hs : spI (n : Int) = ((Tree.sp n : Nat) : Int) := rfl
      generalize Tree.sp n = k at *
      have l1 : (l.take k).length = k := by rw [List.length_take, hn]; omega
      have l2 : (l.drop k).length = n - k := by rw [List.length_drop, hn]
      have n2 : ((n : Int) == 1) = false := by simp; omega
      have HT := hid T
      have A1 := hid (hA.take k)
      have A2 := hid (hA.drop k)
      by_cases hmk : m < k
      · have b0 : (m : Int) < (k : Int) := by omega
        have c1 := fun w' (h : At w' (some x) (l.take k)) => ih (l.take k) m (some x) k c w' (by omega) (by omega) (by omega) (by omega) (by omega) h
        have c2 := fun w' (h : At w' (some (x.add k)) (l.drop k)) => root_any (l.drop k) (some (x.add k)) (n - k) w' (by omega) (by omega) h
        rw [l1] at c1
        rw [l2] at c2
        have hpl := Tree.path_length _ m (l.take k) (Nat.le_refl _)
        rw [if_pos hmk] at e
        generalize Tree.path m (l.take k) = L at *
        generalize Tree.root (l.drop k) = r at *
        clear hA ih hn T
        go_enter Tryd.func77, Tryd.ntmps77
        go_wp2_with (first
          | (go_at_call 38; refine (split_any (n : Int) (by omega) (by omega) _).mono ?_; rintro e w0 ⟨rfl, rfl⟩; rw [hs])
          | (go_at_call 78; refine (cut_any x n cap k k1 hl _).mono ?_; rintro e wc ⟨rfl, hbc, hhc⟩; have hcl0 := cell_below hcl hbc)
          | (go_at_call 77; refine (c1 _ (A1.out.heap hhc) (HT.out.below hbc HT.out.lt) hcl0).mono ?_; rintro e w1 ⟨v1, rfl, hO1, hw1⟩)
          | (go_at_call 65; refine (c2 _ ((A2.out.heap hhc).below hw1 (Nat.le_refl _)) ((HT.out.below hbc HT.out.lt).below hw1 (HT.out.below hbc HT.out.lt).lt)).mono ?_; rintro e w2 ⟨rfl, hw2⟩; obtain ⟨v3, w3, hap, hO3, hb3⟩ := append_text w2 wc.heap.size v1 L r (hO1.below hw2 (Nat.le_refl _)) (by omega) (Nat.le_trans hw1.size hw2.size); rw [show sv r = Value.string ⟨r.toArray⟩ from rfl] at hap ⊢)
          | (at_builtin; go_must (refine Lib.wpList_append_run _ rfl _ _ 22 22 rfl _ _ rfl rfl _ _ hap ?_)))
        go_ret
        exact ⟨_, rfl, by rw [e.out]; exact hO3.mono hbc.size, hbc.trans (((hw1.trans (hw2.mono hw1.size)).trans hb3).mono hbc.size)⟩
      · have b0 : ¬ (m : Int) < (k : Int) := by omega
        have c1 := fun w' (h : At w' (some (x.add k)) (l.drop k)) => ih (l.drop k) (m - k) (some (x.add k)) (n - k) c w' (by omega) (by omega) (by omega) (by omega) (by omega) h
        have c2 := fun w' (h : At w' (some x) (l.take k)) => root_any (l.take k) (some x) k w' (by omega) (by omega) h
        rw [l2, show ((m - k : Nat) : Int) = (m : Int) - (k : Int) from by omega] at c1
        rw [l1] at c2
        have hpl := Tree.path_length _ (m - k) (l.drop k) (Nat.le_refl _)
        rw [if_neg hmk] at e
        generalize Tree.path (m - k) (l.drop k) = L at *
        generalize Tree.root (l.take k) = r at *
        clear hA ih hn T
        go_enter Tryd.func77, Tryd.ntmps77
        go_wp2_with (first
          | (go_at_call 38; refine (split_any (n : Int) (by omega) (by omega) _).mono ?_; rintro e w0 ⟨rfl, rfl⟩; rw [hs])
          | (go_at_call 78; refine (cut_any x n cap k k1 hl _).mono ?_; rintro e wc ⟨rfl, hbc, hhc⟩; have hcl0 := cell_below hcl hbc)
          | (go_at_call 77; refine (c1 _ (A2.out.heap hhc) (HT.out.below hbc HT.out.lt) hcl0).mono ?_; rintro e w1 ⟨v1, rfl, hO1, hw1⟩)
          | (go_at_call 65; refine (c2 _ ((A1.out.heap hhc).below hw1 (Nat.le_refl _)) ((HT.out.below hbc HT.out.lt).below hw1 (HT.out.below hbc HT.out.lt).lt)).mono ?_; rintro e w2 ⟨rfl, hw2⟩; obtain ⟨v3, w3, hap, hO3, hb3⟩ := append_text w2 wc.heap.size v1 L r (hO1.below hw2 (Nat.le_refl _)) (by omega) (Nat.le_trans hw1.size hw2.size); rw [show sv r = Value.string ⟨r.toArray⟩ from rfl] at hap ⊢)
          | (at_builtin; go_must (refine Lib.wpList_append_run _ rfl _ _ 22 22 rfl _ _ rfl rfl _ _ hap ?_)))
        go_ret
        exact ⟨_, rfl, by rw [e.out]; exact hO3.mono hbc.size, hbc.trans (((hw1.trans (hw2.mono hw1.size)).trans hb3).mono hbc.size)⟩
end Go.Proofs.YtkbngmhhlpdpnaaDoor
