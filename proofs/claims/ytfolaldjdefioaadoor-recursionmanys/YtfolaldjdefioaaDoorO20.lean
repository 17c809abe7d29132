import Derived.Test.YtfolaldjdefioaaDoorO19
namespace Go.Proofs.YtfolaldjdefioaaDoor.Tree
/-- the root of the first m, where m goes past the first part -/
theorem root_past {l : List T} {m : Nat} (h1 : sp l.length < m) (h2 : m ≤ l.length) (hl : 2 ≤ l.length) : root (l.take m) = nd (root (l.take (sp l.length))) (root ((l.drop (sp l.length)).take (m - sp l.length))) := by
  have a := sp_lt hl
  have b := sp_ge hl
  have c := sp_pos hl
  have hlen : (l.take m).length = m := by simp; omega
  have hs : sp m = sp l.length := by
    have e := sp_eq hl
    rw [e] at h1 b
    rw [sp_one (n := m) (by rw [← e] at h1; omega) _ h1 (by omega), e]
  rw [root_cut (l := l.take m) (by rw [hlen]; omega), hlen, hs, List.take_take, Nat.min_eq_left (by omega), List.drop_take]
end Go.Proofs.YtfolaldjdefioaaDoor.Tree
namespace Go.Proofs.YtfolaldjdefioaaDoor
open Go.RowKit
theorem At.init {w : World} {a : Option Addr} {l : List (List UInt8)} {r : List UInt8} (h : At w a (l ++ [r])) : At w a l := fun j p hp => h j p (by
  rw [List.getElem?_append_left (List.getElem?_eq_some_iff.1 hp).1]; exact hp)
theorem At.last {w : World} {x : Addr} {l : List (List UInt8)} {r : List UInt8} (h : At w (some x) (l ++ [r])) : w.cell? (x.add l.length) = some (.string ⟨r.toArray⟩) := by
  obtain ⟨y, hy, _, hc⟩ := h l.length r (by simp)
  obtain rfl := Option.some.inj hy
  exact hc
theorem lnode_at' (l r N : List UInt8) (h : Hid (Tree.nd l r = N)) (w : World) (T : Tabs w) : Calls Tryd.prog 23 #[.string ⟨l.toArray⟩, sv r] w fun e w' => e = .returned (sv N) ∧ Below w.heap.size w w' := lnode_at l r N h w T
set_option maxRecDepth 100000 in
set_option maxHeartbeats 400000 in
theorem grown_whole (n : Nat) (old : List UInt8) (a : Option Addr) (cap : Nat) (w : World) :
    Calls Tryd.prog 17 #[.int .i64 n, .int .i64 n, .bool true, sv old, .slice a 0 cap] w fun e w' => e = .returned (.tuple #[sv old, sv old, .bool true]) ∧ Below w.heap.size w w' := by
  rw [svS old]
  go_enter Tryd.func17, Tryd.ntmps17
  go_wp2
  go_ret3
  exact ⟨rfl, Below.refl _ _⟩
set_option maxRecDepth 100000 in
set_option maxHeartbeats 400000 in
theorem grown_part (n : Nat) (old r : List UInt8) (x : Addr) (cap : Nat) (w : World) (hc : w.cell? x = some (.string ⟨r.toArray⟩)) :
    Calls Tryd.prog 17 #[.int .i64 n, .int .i64 n, .bool false, sv old, .slice (some x) 1 cap] w fun e w' => e = .returned (.tuple #[sv r, sv r, .bool true]) ∧ Below w.heap.size w w' := by
  rw [svS old, svS r]
  go_enter Tryd.func17, Tryd.ntmps17
  go_wp2
  go_ret3
  exact ⟨rfl, Below.refl _ _⟩
set_option maxRecDepth 100000 in
set_option maxHeartbeats 2000000 in
theorem grown_any : ∀ (f : Nat) (l : List (List UInt8)) (m : Nat) (wh : Bool) (old : List UInt8) (a : Option Addr) (cap : Nat) (w : World), l.length ≤ f → l.length ≤ 1000000 → 1 ≤ m → m ≤ l.length →
    (Tree.proof m l wh).length ≤ cap → cap ≤ 9223372036854775807 → At w a (Tree.proof m l wh) → Tabs w → (wh = true → old = Tree.root (l.take m)) →
    Calls Tryd.prog 17 #[.int .i64 m, .int .i64 (l.length : Nat), .bool wh, sv old, .slice a (Tree.proof m l wh).length cap] w fun e w' => e = .returned (.tuple #[sv (Tree.root (l.take m)), sv (Tree.root l), .bool true]) ∧ Below w.heap.size w w' := by
  intro f
  induction f with
  | zero => intro l m wh old a cap w hf _ hm1 hm; omega
  | succ f ih =>
    intro l m wh old a cap w hf hM hm1 hm hl hc hA T hold
    by_cases h1 : m = l.length
    · subst h1
      rw [List.take_length] at hold ⊢
      cases wh
      · rw [Tree.proof_part hm1] at hl hA ⊢
        obtain ⟨x, rfl, _, hcell⟩ := hA 0 _ rfl
        exact grown_part l.length old (Tree.root l) x cap w hcell
      · rw [Tree.proof_whole hm1] at hl hA ⊢
        obtain rfl := hold rfl
        exact grown_whole l.length (Tree.root l) a cap w
    · obtain ⟨n, hn⟩ : ∃ n, l.length = n := ⟨_, rfl⟩
      have h2 : 2 ≤ n := by omega
      have eL := fun h => Tree.proof_left (m := m) (l := l) (whole := wh) hm1 (by omega) h
      have eR := fun h => Tree.proof_right (m := m) (l := l) (whole := wh) hm1 (by omega) h
      have eP := fun h => Tree.root_past (m := m) (l := l) h (by omega) (by omega)
      have eC := hid (Tree.root_cut (l := l) (by omega))
      have hpl := Tree.proof_length _ m l wh (Nat.le_refl _) hm1 hm
      rw [hn] at eL eR eP eC hf hm h1 hM hpl ⊢
      have k1 := Tree.sp_lt h2
      have k2 := Tree.sp_pos h2
      have hh := half_any n h2 (by omega)
      generalize Tree.sp n = k at *
      have l1 : (l.take k).length = k := by rw [List.length_take, hn]; omega
      have l2 : (l.drop k).length = n - k := by rw [List.length_drop, hn]
      have n2 : ((m : Int) == (n : Int)) = false := by simp; omega
      have HT := hid T
      by_cases hmk : m ≤ k
      · have b0 : (m : Int) ≤ (k : Int) := by omega
        have ee := eL hmk
        rw [ee] at hA hl hpl ⊢
        obtain ⟨x, rfl⟩ := hA.pos (by simp)
        have hlast := hA.last
        have e3 := hid (show Tree.root l = Tree.nd (Tree.root (l.take k)) (Tree.root (l.drop k)) from eC.out)
        have et : (l.take k).take m = l.take m := by rw [List.take_take, Nat.min_eq_left hmk]
        have c1 := ih (l.take k) m wh old (some x) cap w (by omega) (by omega) hm1 (by omega) (by simp at hl; omega) hc hA.init T (by rw [et]; exact hold)
        rw [l1, et] at c1
        rw [List.length_append, List.length_singleton] at hl hpl ⊢
        obtain ⟨N, hN⟩ : ∃ N, Hid (Tree.nd (Tree.root (l.take k)) (Tree.root (l.drop k)) = N) := ⟨_, rfl⟩
        generalize Tree.root (l.take m) = q at *
        generalize Tree.root (l.take k) = p at *
        generalize Tree.root (l.drop k) = r at *
        generalize hL : (Tree.proof m (l.take k) wh).length = L at *
        clear hA ih hn eL eR eP eC ee hold T et hL
        have z0 : (((L + 1 : Nat) : Int) == 0) = false := by simp; omega
        have hsL : sv old = .string ⟨old.toArray⟩ := rfl
        go_enter Tryd.func17, Tryd.ntmps17
        go_wp2_with (first
          | (go_at_call 41; refine (hh _).mono ?_; rintro e w0 ⟨rfl, rfl⟩)
          | (go_at_call 17; refine c1.mono ?_; rintro e w1 ⟨rfl, hw1⟩)
          | (go_at_call 23; refine (lnode_at p r N hN _ (HT.out.below hw1 HT.out.lt)).mono ?_; rintro e w2 ⟨rfl, hw2⟩))
        go_ret3
        refine ⟨?_, hw1.trans (hw2.mono hw1.size)⟩
        rw [e3.out, hN.out]
        rfl
      · have b0 : ¬ (m : Int) ≤ (k : Int) := by omega
        have ee := eR hmk
        rw [ee] at hA hl hpl ⊢
        obtain ⟨x, rfl⟩ := hA.pos (by simp)
        have hlast := hA.last
        have e3 := hid (show Tree.root l = Tree.nd (Tree.root (l.take k)) (Tree.root (l.drop k)) from eC.out)
        have e4 := hid (eP (by omega))
        have c1 := ih (l.drop k) (m - k) false old (some x) cap w (by omega) (by omega) (by omega) (by omega) (by simp at hl; omega) hc hA.init T (fun h => by cases h)
        rw [l2, show ((m - k : Nat) : Int) = (m : Int) - (k : Int) from by omega, show ((n - k : Nat) : Int) = (n : Int) - (k : Int) from by omega] at c1
        rw [List.length_append, List.length_singleton] at hl hpl ⊢
        obtain ⟨N, hN⟩ : ∃ N, Hid (Tree.nd (Tree.root (l.take k)) (Tree.root (l.drop k)) = N) := ⟨_, rfl⟩
        obtain ⟨M, hMM⟩ : ∃ N, Hid (Tree.nd (Tree.root (l.take k)) (Tree.root ((l.drop k).take (m - k))) = N) := ⟨_, rfl⟩
        have e5 := hid (show Tree.root (l.take m) = M from e4.out.trans hMM.out)
        have e6 := hid (show Tree.root l = N from e3.out.trans hN.out)
        generalize Tree.root ((l.drop k).take (m - k)) = q at *
        generalize Tree.root (l.take k) = p at *
        generalize Tree.root (l.drop k) = r at *
        generalize hL : (Tree.proof (m - k) (l.drop k) false).length = L at *
        clear hA ih hn eL eR eP eC ee hold T hL e3 e4
        have z0 : (((L + 1 : Nat) : Int) == 0) = false := by simp; omega
        go_enter Tryd.func17, Tryd.ntmps17
        go_wp2_with (first
          | (go_at_call 41; refine (hh _).mono ?_; rintro e w0 ⟨rfl, rfl⟩)
          | (go_at_call 17; refine c1.mono ?_; rintro e w1 ⟨rfl, hw1⟩)
          | (go_at_call 23; with_reducible refine (lnode_at' p q M hMM _ (HT.out.below hw1 HT.out.lt)).mono ?_; rintro e w2 ⟨rfl, hw2⟩)
          | (go_at_call 23; with_reducible refine (lnode_at' p r N hN _ ((HT.out.below hw1 HT.out.lt).below hw2 (HT.out.below hw1 HT.out.lt).lt)).mono ?_; rintro e w3 ⟨rfl, hw3⟩))
        go_ret3
        refine ⟨?_, (hw1.trans (hw2.mono hw1.size)).trans (hw3.mono (Nat.le_trans hw1.size hw2.size))⟩
        rw [e5.out, e6.out]
        rfl
end Go.Proofs.YtfolaldjdefioaaDoor
