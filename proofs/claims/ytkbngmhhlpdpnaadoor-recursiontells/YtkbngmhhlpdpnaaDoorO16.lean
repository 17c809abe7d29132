import Derived.Test.YtkbngmhhlpdpnaaDoorO10
namespace Go.Proofs.YtkbngmhhlpdpnaaDoor
open Go.RowKit

theorem own_one (w : World) (base : Nat) (r : List UInt8) (hb : base ≤ w.heap.size) : Own (w.alloc (.cells #[sv r] 9)) base (.slice (some ⟨w.heap.size, 0, none⟩) 1 1) (svs [r]) := by
  refine .inr ⟨w.heap.size, 1, rfl, hb, by simp [svs], by simp [maxLen], ?_, ?_, by rw [size_alloc]; omega⟩
  · intro j v hv
    rw [cell_of_row _ _ _ _ _ _ (heap_alloc_new w _), Nat.zero_add]
    simpa [svs] using hv
  · exact there_of_row (heap_alloc_new w _) 0 1 (by simp)
set_option maxRecDepth 100000 in
set_option maxHeartbeats 400000 in
theorem rproof_whole (n : Nat) (a : Option Addr) (cap : Nat) (w : World) :
    Calls Tryd.prog 47 #[.int .i64 n, .slice a n cap, .bool true] w (Out w []) := by
  go_enter Tryd.func47, Tryd.ntmps47
  go_wp2
  go_ret
  exact ⟨_, rfl, Own.nil _ _, Below.refl _ _⟩
set_option maxRecDepth 100000 in
set_option maxHeartbeats 400000 in
theorem rproof_part (l : List (List UInt8)) (a : Option Addr) (cap : Nat) (w : World) (hl : l.length ≤ cap) (hc : cap ≤ 9223372036854775807) (hA : At w a l) :
    Calls Tryd.prog 47 #[.int .i64 (l.length : Nat), .slice a l.length cap, .bool false] w (Out w [Tree.root l]) := by
  have h2 := R_any _ l a cap w (Nat.le_refl _) hl hc hA
  generalize Tree.root l = r at *
  generalize l.length = n at *
  go_enter Tryd.func47, Tryd.ntmps47
  go_wp2_with (go_at_call 80; refine h2.mono ?_; rintro e w1 ⟨rfl, hw1⟩; rw [show sv r = Value.string ⟨r.toArray⟩ from rfl])
  go_ret
  exact ⟨_, rfl, own_one w1 w.heap.size r hw1.size, hw1.alloc hw1.size _⟩
set_option maxRecDepth 100000 in
set_option maxHeartbeats 2000000 in
theorem rproof_any : ∀ (f : Nat) (l : List (List UInt8)) (m : Nat) (wh : Bool) (a : Option Addr) (cap : Nat) (w : World), l.length ≤ f → l.length ≤ 1000000 → 1 ≤ m → m ≤ l.length → l.length ≤ cap → cap ≤ 9223372036854775807 → At w a l →
    
    Calls Tryd.prog 47 #[.int .i64 m, .slice a l.length cap, .bool wh] w (Out w (Tree.proof m l wh)) := by
  intro f
  induction f with
  | zero => intro l m wh a cap w hf _ hm1 hm; omega
  | succ f ih =>
    intro l m wh a cap w hf hM hm1 hm hl hc hA
    by_cases h1 : m = l.length
    · subst h1
      cases wh
      · rw [Tree.proof_part hm1]; exact rproof_part l a cap w hl hc hA
      · rw [Tree.proof_whole hm1]; exact rproof_whole l.length a cap w
    · obtain ⟨n, hn⟩ : ∃ n, l.length = n := ⟨_, rfl⟩
      have h2 : 2 ≤ n := by omega
      obtain ⟨x, rfl⟩ := hA.pos (by rw [hn]; omega)
      have eL := fun h => Tree.proof_left (m := m) (l := l) (whole := wh) hm1 (by omega) h
      have eR := fun h => Tree.proof_right (m := m) (l := l) (whole := wh) hm1 (by omega) h
      rw [hn] at eL eR hf hl hm h1 hM ⊢
      have k1 := Tree.sp_lt h2
      have k2 := Tree.sp_pos h2
      have hs : spI (n : Int) = ((Tree.sp n : Nat) : Int) := rfl
      generalize Tree.sp n = k at *
      have l1 : (l.take k).length = k := by rw [List.length_take, hn]; omega
      have l2 : (l.drop k).length = n - k := by rw [List.length_drop, hn]
      have n2 : ((m : Int) == (n : Int)) = false := by simp; omega
      have hne : ¬ cap = k := by omega
      have A1 := hid (hA.take k)
      have A2 := hid (hA.drop k)
      by_cases hmk : m ≤ k
      · have b0 : (m : Int) ≤ (k : Int) := by omega
        have e := hid (eL hmk)
        have c1 := ih (l.take k) m wh (some x) cap w (by omega) (by omega) (by omega) (by omega) (by omega) hc A1.out
        have c2 := fun w' (h : At w' (some (x.add k)) (l.drop k)) => R_any _ (l.drop k) (some (x.add k)) (cap - k) w' (Nat.le_refl _) (by omega) (by omega) h
        rw [l1] at c1
        rw [l2] at c2
        have hpl := Tree.proof_length _ m (l.take k) wh (Nat.le_refl _) (by omega) (by omega)
        generalize Tree.proof m (l.take k) wh = L at *
        generalize Tree.root (l.drop k) = r at *
        clear hA ih hn eL eR
        go_enter Tryd.func47, Tryd.ntmps47
        go_wp2_with (first
          | (go_at_call 79; refine (rsplit_any (n : Int) (by omega) (by omega) _).mono ?_; rintro e w0 ⟨rfl, rfl⟩; rw [hs])
          | (go_at_call 47; refine c1.mono ?_; rintro e w1 ⟨v1, rfl, hO1, hw1⟩)
          | (go_at_call 80; refine (c2 _ (A2.out.below hw1 (Nat.le_refl _))).mono ?_; rintro e w2 ⟨rfl, hw2⟩; obtain ⟨v3, w3, hap, hO3, hb3⟩ := append_text w2 w0.heap.size v1 L r (hO1.below hw2 (Nat.le_refl _)) (by omega) (Nat.le_trans hw1.size hw2.size); rw [show sv r = Value.string ⟨r.toArray⟩ from rfl] at hap ⊢)
          | (at_builtin; go_must (refine Lib.wpList_append_run _ rfl _ _ 22 22 rfl _ _ rfl rfl _ _ hap ?_)))
        go_ret
        exact ⟨_, rfl, by rw [e.out]; exact hO3, (hw1.trans (hw2.mono hw1.size)).trans hb3⟩
      · have b0 : ¬ (m : Int) ≤ (k : Int) := by omega
        have e := hid (eR hmk)
        have c1 := ih (l.drop k) (m - k) false (some (x.add k)) (cap - k) w (by omega) (by omega) (by omega) (by omega) (by omega) (by omega) A2.out
        have c2 := fun w' (h : At w' (some x) (l.take k)) => R_any _ (l.take k) (some x) (cap) w' (Nat.le_refl _) (by omega) (by omega) h
        rw [l2, show ((m - k : Nat) : Int) = (m : Int) - (k : Int) from by omega] at c1
        rw [l1] at c2
        have hpl := Tree.proof_length _ (m - k) (l.drop k) false (Nat.le_refl _) (by omega) (by omega)
        generalize Tree.proof (m - k) (l.drop k) false = L at *
        generalize Tree.root (l.take k) = r at *
        clear hA ih hn eL eR
        go_enter Tryd.func47, Tryd.ntmps47
        go_wp2_with (first
          | (go_at_call 79; refine (rsplit_any (n : Int) (by omega) (by omega) _).mono ?_; rintro e w0 ⟨rfl, rfl⟩; rw [hs])
          | (go_at_call 47; refine c1.mono ?_; rintro e w1 ⟨v1, rfl, hO1, hw1⟩)
          | (go_at_call 80; refine (c2 _ (A1.out.below hw1 (Nat.le_refl _))).mono ?_; rintro e w2 ⟨rfl, hw2⟩; obtain ⟨v3, w3, hap, hO3, hb3⟩ := append_text w2 w0.heap.size v1 L r (hO1.below hw2 (Nat.le_refl _)) (by omega) (Nat.le_trans hw1.size hw2.size); rw [show sv r = Value.string ⟨r.toArray⟩ from rfl] at hap ⊢)
          | (at_builtin; go_must (refine Lib.wpList_append_run _ rfl _ _ 22 22 rfl _ _ rfl rfl _ _ hap ?_)))
        go_ret
        exact ⟨_, rfl, by rw [e.out]; exact hO3, (hw1.trans (hw2.mono hw1.size)).trans hb3⟩
set_option maxRecDepth 100000 in
set_option maxHeartbeats 400000 in
theorem proof1_whole (n : Nat) (a : Option Addr) (cap : Nat) (c : Nat) (w : World) :
    Calls Tryd.prog 81 #[.int .i64 n, .slice a n cap, .bool true, .pointer (some ⟨c, 0, none⟩)] w (Out w []) := by
  go_enter Tryd.func81, Tryd.ntmps81
  go_wp2
  go_ret
  exact ⟨_, rfl, Own.nil _ _, Below.refl _ _⟩
set_option maxRecDepth 100000 in
set_option maxHeartbeats 400000 in
theorem proof1_part (l : List (List UInt8)) (a : Option Addr) (cap : Nat) (c : Nat) (w : World) (hl : l.length ≤ cap) (hc : cap ≤ 9223372036854775807) (hA : At w a l) (T : Tabs w) :
    Calls Tryd.prog 81 #[.int .i64 (l.length : Nat), .slice a l.length cap, .bool false, .pointer (some ⟨c, 0, none⟩)] w (Out w [Tree.root l]) := by
  have h2 := root_any l a cap w hl hc hA T
  generalize Tree.root l = r at *
  generalize l.length = n at *
  go_enter Tryd.func81, Tryd.ntmps81
  go_wp2_with (go_at_call 65; refine h2.mono ?_; rintro e w1 ⟨rfl, hw1⟩; rw [show sv r = Value.string ⟨r.toArray⟩ from rfl])
  go_ret
  exact ⟨_, rfl, own_one w1 w.heap.size r hw1.size, hw1.alloc hw1.size _⟩
set_option maxRecDepth 100000 in
set_option maxHeartbeats 2000000 in
theorem proof1_any : ∀ (f : Nat) (l : List (List UInt8)) (m : Nat) (wh : Bool) (a : Option Addr) (cap c : Nat) (w : World), l.length ≤ f → l.length ≤ 1000000 → 1 ≤ m → m ≤ l.length → l.length ≤ cap → cap ≤ 9223372036854775807 → At w a l → Tabs w →
    w.cell? ⟨c, 0, none⟩ = some (.func (.func 81) #[] #[.pointer (some ⟨c, 0, none⟩)]) →
    Calls Tryd.prog 81 #[.int .i64 m, .slice a l.length cap, .bool wh, .pointer (some ⟨c, 0, none⟩)] w (Out w (Tree.proof m l wh)) := by
  intro f
  induction f with
  | zero => intro l m wh a cap c w hf _ hm1 hm; omega
  | succ f ih =>
    intro l m wh a cap c w hf hM hm1 hm hl hc hA T hcl
    by_cases h1 : m = l.length
    · subst h1
      cases wh
      · rw [Tree.proof_part hm1]; exact proof1_part l a cap c w hl hc hA T
      · rw [Tree.proof_whole hm1]; exact proof1_whole l.length a cap c w
    · obtain ⟨n, hn⟩ : ∃ n, l.length = n := ⟨_, rfl⟩
      have h2 : 2 ≤ n := by omega
      obtain ⟨x, rfl⟩ := hA.pos (by rw [hn]; omega)
      have eL := fun h => Tree.proof_left (m := m) (l := l) (whole := wh) hm1 (by omega) h
      have eR := fun h => Tree.proof_right (m := m) (l := l) (whole := wh) hm1 (by omega) h
      rw [hn] at eL eR hf hl hm h1 hM ⊢
      have k1 := Tree.sp_lt h2
      have k2 := Tree.sp_pos h2
      have hs : spI (n : Int) = ((Tree.sp n : Nat) : Int) := rfl
      generalize Tree.sp n = k at *
      have l1 : (l.take k).length = k := by rw [List.length_take, hn]; omega
      have l2 : (l.drop k).length = n - k := by rw [List.length_drop, hn]
      have n2 : ((m : Int) == (n : Int)) = false := by simp; omega
      have HT := hid T
      have A1 := hid (hA.take k)
      have A2 := hid (hA.drop k)
      by_cases hmk : m ≤ k
      · have b0 : (m : Int) ≤ (k : Int) := by omega
        have e := hid (eL hmk)
        have c1 := fun w' (h : At w' (some x) (l.take k)) => ih (l.take k) m wh (some x) k c w' (by omega) (by omega) (by omega) (by omega) (by omega) (by omega) h
        have c2 := fun w' (h : At w' (some (x.add k)) (l.drop k)) => root_any (l.drop k) (some (x.add k)) (n - k) w' (by omega) (by omega) h
        rw [l1] at c1
        rw [l2] at c2
        have hpl := Tree.proof_length _ m (l.take k) wh (Nat.le_refl _) (by omega) (by omega)
        generalize Tree.proof m (l.take k) wh = L at *
        generalize Tree.root (l.drop k) = r at *
        clear hA ih hn eL eR T
        go_enter Tryd.func81, Tryd.ntmps81
        go_wp2_with (first
          | (go_at_call 38; refine (split_any (n : Int) (by omega) (by omega) _).mono ?_; rintro e w0 ⟨rfl, rfl⟩; rw [hs])
          | (go_at_call 78; refine (cut_any x n cap k k1 hl _).mono ?_; rintro e wc ⟨rfl, hbc, hhc⟩; have hcl0 := cell_below hcl hbc)
          | (go_at_call 81; refine (c1 _ (A1.out.heap hhc) (HT.out.below hbc HT.out.lt) hcl0).mono ?_; rintro e w1 ⟨v1, rfl, hO1, hw1⟩)
          | (go_at_call 65; refine (c2 _ ((A2.out.heap hhc).below hw1 (Nat.le_refl _)) ((HT.out.below hbc HT.out.lt).below hw1 (HT.out.below hbc HT.out.lt).lt)).mono ?_; rintro e w2 ⟨rfl, hw2⟩; obtain ⟨v3, w3, hap, hO3, hb3⟩ := append_text w2 wc.heap.size v1 L r (hO1.below hw2 (Nat.le_refl _)) (by omega) (Nat.le_trans hw1.size hw2.size); rw [show sv r = Value.string ⟨r.toArray⟩ from rfl] at hap ⊢)
          | (at_builtin; go_must (refine Lib.wpList_append_run _ rfl _ _ 22 22 rfl _ _ rfl rfl _ _ hap ?_)))
        go_ret
        exact ⟨_, rfl, by rw [e.out]; exact hO3.mono hbc.size, hbc.trans (((hw1.trans (hw2.mono hw1.size)).trans hb3).mono hbc.size)⟩
      · have b0 : ¬ (m : Int) ≤ (k : Int) := by omega
        have e := hid (eR hmk)
        have c1 := fun w' (h : At w' (some (x.add k)) (l.drop k)) => ih (l.drop k) (m - k) false (some (x.add k)) (n - k) c w' (by omega) (by omega) (by omega) (by omega) (by omega) (by omega) h
        have c2 := fun w' (h : At w' (some x) (l.take k)) => root_any (l.take k) (some x) (k) w' (by omega) (by omega) h
        rw [l2, show ((m - k : Nat) : Int) = (m : Int) - (k : Int) from by omega] at c1
        rw [l1] at c2
        have hpl := Tree.proof_length _ (m - k) (l.drop k) false (Nat.le_refl _) (by omega) (by omega)
        generalize Tree.proof (m - k) (l.drop k) false = L at *
        generalize Tree.root (l.take k) = r at *
        clear hA ih hn eL eR T
        go_enter Tryd.func81, Tryd.ntmps81
        go_wp2_with (first
          | (go_at_call 38; refine (split_any (n : Int) (by omega) (by omega) _).mono ?_; rintro e w0 ⟨rfl, rfl⟩; rw [hs])
          | (go_at_call 78; refine (cut_any x n cap k k1 hl _).mono ?_; rintro e wc ⟨rfl, hbc, hhc⟩; have hcl0 := cell_below hcl hbc)
          | (go_at_call 81; refine (c1 _ (A2.out.heap hhc) (HT.out.below hbc HT.out.lt) hcl0).mono ?_; rintro e w1 ⟨v1, rfl, hO1, hw1⟩)
          | (go_at_call 65; refine (c2 _ ((A1.out.heap hhc).below hw1 (Nat.le_refl _)) ((HT.out.below hbc HT.out.lt).below hw1 (HT.out.below hbc HT.out.lt).lt)).mono ?_; rintro e w2 ⟨rfl, hw2⟩; obtain ⟨v3, w3, hap, hO3, hb3⟩ := append_text w2 wc.heap.size v1 L r (hO1.below hw2 (Nat.le_refl _)) (by omega) (Nat.le_trans hw1.size hw2.size); rw [show sv r = Value.string ⟨r.toArray⟩ from rfl] at hap ⊢)
          | (at_builtin; go_must (refine Lib.wpList_append_run _ rfl _ _ 22 22 rfl _ _ rfl rfl _ _ hap ?_)))
        go_ret
        exact ⟨_, rfl, by rw [e.out]; exact hO3.mono hbc.size, hbc.trans (((hw1.trans (hw2.mono hw1.size)).trans hb3).mono hbc.size)⟩
end Go.Proofs.YtkbngmhhlpdpnaaDoor
