import Derived.Test.YtkbngmhhlpdpnaaDoorO7
namespace Go.Proofs.YtkbngmhhlpdpnaaDoor.Tree
theorem path_length : ∀ (f m : Nat) (l : List T), l.length ≤ f → (path m l).length ≤ l.length
  | 0, m, l, h => by rw [path_small (by omega)]; simp
  | f + 1, m, l, h => by
    by_cases h2 : l.length < 2
    · rw [path_small h2]; simp
    · have a := sp_lt (n := l.length) (by omega)
      have b := sp_pos (n := l.length) (by omega)
      rw [path_cut (by omega)]
      split
      · have := path_length f m (l.take (sp l.length)) (by simp; omega)
        simp at *; omega
      · have := path_length f (m - sp l.length) (l.drop (sp l.length)) (by simp; omega)
        simp at *; omega
theorem proof_length : ∀ (f m : Nat) (l : List T) (whole : Bool), l.length ≤ f → 1 ≤ m → m ≤ l.length → (proof m l whole).length ≤ l.length
  | 0, m, l, _, h, h1, h2 => by omega
  | f + 1, m, l, whole, h, h1, h2 => by
    by_cases he : m = l.length
    · subst he
      cases whole
      · rw [proof_part h1]; simpa using h1
      · rw [proof_whole h1]; simp
    · have a := sp_lt (n := l.length) (by omega)
      have b := sp_pos (n := l.length) (by omega)
      by_cases hk : m ≤ sp l.length
      · rw [proof_left h1 (by omega) hk]
        have := proof_length f m (l.take (sp l.length)) whole (by simp; omega) h1 (by simp; omega)
        simp at *; omega
      · rw [proof_right h1 (by omega) hk]
        have := proof_length f (m - sp l.length) (l.drop (sp l.length)) false (by simp; omega) (by omega) (by simp; omega)
        simp at *; omega
theorem many_length : ∀ (f : Nat) (is : List Nat) (b : Nat) (l : List T), l.length ≤ f → 1 ≤ l.length → (many is b l).length ≤ l.length
  | 0, is, b, l, h, h1 => by omega
  | f + 1, is, b, l, h, h1 => by
    by_cases hi : is = []
    · subst hi; rw [many_none h1]; simpa using h1
    · by_cases h2 : l.length = 1
      · rw [many_one hi h2]; simp
      · have x := sp_lt (n := l.length) (by omega)
        have y := sp_pos (n := l.length) (by omega)
        rw [many_cut hi (by omega)]
        have := many_length f (is.filter (· < b + sp l.length)) b (l.take (sp l.length)) (by simp; omega) (by simp; omega)
        have := many_length f (is.filter (b + sp l.length ≤ ·)) (b + sp l.length) (l.drop (sp l.length)) (by simp; omega) (by simp; omega)
        simp at *; omega
end Go.Proofs.YtkbngmhhlpdpnaaDoor.Tree
namespace Go.Proofs.YtkbngmhhlpdpnaaDoor
open Go.RowKit
def svs (L : List (List UInt8)) : List Value := L.map sv
theorem svs_length (L : List (List UInt8)) : (svs L).length = L.length := by simp [svs]
theorem infoS : (Tryd.prog.info? 9).map (fun i => (i.zero, i.size, i.bytes)) = some (some (.string ⟨#[]⟩), 1, 16) := by kernel_rfl
/-- append(l, s) -/
theorem append_text (w : World) (base : Nat) (v : Value) (L : List (List UInt8)) (p : List UInt8) (hown : Own w base v (svs L)) (hlen : L.length ≤ 2000000) (hbase : base ≤ w.heap.size) :
    ∃ v' w', (Builtin.append_ #[22, 22] 22 #[v, .slice (some ⟨w.heap.size, 0, none⟩) 1 1]).run Tryd.prog (w.alloc (.cells #[sv p] 9)) = .ok v' w' ∧ Own w' base v' (svs (L ++ [p])) ∧ Below base w w' := by
  obtain ⟨i0, hi, hz0, hz1, hz2⟩ := info_parts infoS
  have hsrc : Src Tryd.prog 1 22 (.slice (some ⟨w.heap.size, 0, none⟩) 1 1) 1 [sv p] (w.alloc (.cells #[sv p] 9)) :=
    Src.ofSlice _ Tryd.underlying22 ⟨w.heap.size, 0, none⟩ 1 1 [sv p] (by simp) (fun j u hj => by
      rw [Addr.add_mid, cell_of_row _ _ _ _ _ _ (heap_alloc_new w _), Nat.zero_add]; simpa using hj) (fun u hu => by simp at hu; subst hu; rfl)
  obtain ⟨v', w', h1, h2, h3, h4⟩ := run_append_O (P := Tryd.prog) (w.alloc (.cells #[sv p] 9)) base 22 22 22 9 i0 (.string ⟨#[]⟩) Tryd.underlying22 hi hz0 hz1 rfl v (svs L) (hown.alloc _) _ 1 [sv p] hsrc
    (by rw [svs_length, hz2]; omega) (by rw [svs_length, maxLen]; omega) (by rw [size_alloc]; omega) (fun _ => by omega)
  refine ⟨v', w', h1, by simpa [svs] using h2, ?_⟩
  exact ((Below.refl base w).alloc hbase _).trans (Below.ofGrown h3 hown.ge (by rw [size_alloc]; omega))

/-- a list of one's own comes out -/
def Out (w : World) (L : List (List UInt8)) (e : Ending) (w' : World) : Prop := ∃ v, e = .returned v ∧ Own w' w.heap.size v (svs L) ∧ Below w.heap.size w w'
set_option maxRecDepth 100000 in
set_option maxHeartbeats 400000 in
theorem rpath_one (m : Int) (a : Option Addr) (cap : Nat) (w : World) :
    Calls Tryd.prog 45 #[.int .i64 m, .slice a 1 cap] w (Out w []) := by
  go_enter Tryd.func45, Tryd.ntmps45
  go_wp2
  go_ret
  exact ⟨_, rfl, Own.nil _ _, Below.refl _ _⟩
set_option maxRecDepth 100000 in
set_option maxHeartbeats 2000000 in
/-- the document's P -/
theorem rpath_any : ∀ (f : Nat) (l : List (List UInt8)) (m : Nat) (a : Option Addr) (cap : Nat) (w : World), l.length ≤ f → l.length ≤ 1000000 → m < l.length → l.length ≤ cap → cap ≤ 9223372036854775807 → At w a l →
    Calls Tryd.prog 45 #[.int .i64 m, .slice a l.length cap] w (Out w (Tree.path m l)) := by
  intro f
  induction f with
  | zero => intro l m a cap w hf _ hm; omega
  | succ f ih =>
    intro l m a cap w hf hM hm hl hc hA
    by_cases h1 : l.length = 1
    · rw [h1, Tree.path_small (by omega)]
      exact rpath_one m a cap w
    · obtain ⟨n, hn⟩ : ∃ n, l.length = n := ⟨_, rfl⟩
      have h2 : 2 ≤ n := by omega
      obtain ⟨x, rfl⟩ := hA.pos (by rw [hn]; omega)
      have e := hid (Tree.path_cut (m := m) (l := l) (by rw [hn]; exact h2))
      rw [hn] at e hf hl hm h1 hM ⊢
      have k1 := Tree.sp_lt h2
      have k2 := Tree.sp_pos h2
      have hs : spI (n : Int) = ((Tree.sp n : Nat) : Int) := rfl
      generalize Tree.sp n = k at *
      have l1 : (l.take k).length = k := by rw [List.length_take, hn]; omega
      have l2 : (l.drop k).length = n - k := by rw [List.length_drop, hn]
      have n2 : ((n : Int) == 1) = false := by simp; omega
      have hne : ¬ cap = k := by omega
      have A1 := hid (hA.take k)
      have A2 := hid (hA.drop k)
      by_cases hmk : m < k
      · have b0 : (m : Int) < (k : Int) := by omega
        have c1 := ih (l.take k) m (some x) cap w (by omega) (by omega) (by omega) (by omega) hc A1.out
        have c2 := fun w' (h : At w' (some (x.add k)) (l.drop k)) => R_any _ (l.drop k) (some (x.add k)) (cap - k) w' (Nat.le_refl _) (by omega) (by omega) h
        rw [l1] at c1
        rw [l2] at c2
        have hpl := Tree.path_length _ m (l.take k) (Nat.le_refl _)
        rw [if_pos hmk] at e
        generalize Tree.path m (l.take k) = L at *
        generalize Tree.root (l.drop k) = r at *
        clear hA ih hn
        go_enter Tryd.func45, Tryd.ntmps45
        go_wp2_with (first
          | (go_at_call 79; refine (rsplit_any (n : Int) (by omega) (by omega) _).mono ?_; rintro e w0 ⟨rfl, rfl⟩; rw [hs])
          | (go_at_call 45; refine c1.mono ?_; rintro e w1 ⟨v1, rfl, hO1, hw1⟩)
          | (go_at_call 80; refine (c2 _ (A2.out.below hw1 (Nat.le_refl _))).mono ?_; rintro e w2 ⟨rfl, hw2⟩; obtain ⟨v3, w3, hap, hO3, hb3⟩ := append_text w2 w0.heap.size v1 L r (hO1.below hw2 (Nat.le_refl _)) (by omega) (Nat.le_trans hw1.size hw2.size); rw [show sv r = Value.string ⟨r.toArray⟩ from rfl] at hap ⊢)
          | (at_builtin; go_must (refine Lib.wpList_append_run _ rfl _ _ 22 22 rfl _ _ rfl rfl _ _ hap ?_)))
        go_ret
        exact ⟨_, rfl, by rw [e.out]; exact hO3, (hw1.trans (hw2.mono hw1.size)).trans hb3⟩
      · have b0 : ¬ (m : Int) < (k : Int) := by omega
        have c1 := ih (l.drop k) (m - k) (some (x.add k)) (cap - k) w (by omega) (by omega) (by omega) (by omega) (by omega) A2.out
        have c2 := fun w' (h : At w' (some x) (l.take k)) => R_any _ (l.take k) (some x) cap w' (Nat.le_refl _) (by omega) (by omega) h
        rw [l2, show ((m - k : Nat) : Int) = (m : Int) - (k : Int) from by omega] at c1
        rw [l1] at c2
        have hpl := Tree.path_length _ (m - k) (l.drop k) (Nat.le_refl _)
        rw [if_neg hmk] at e
        generalize Tree.path (m - k) (l.drop k) = L at *
        generalize Tree.root (l.take k) = r at *
        clear hA ih hn
        go_enter Tryd.func45, Tryd.ntmps45
        go_wp2_with (first
          | (go_at_call 79; refine (rsplit_any (n : Int) (by omega) (by omega) _).mono ?_; rintro e w0 ⟨rfl, rfl⟩; rw [hs])
          | (go_at_call 45; refine c1.mono ?_; rintro e w1 ⟨v1, rfl, hO1, hw1⟩)
          | (go_at_call 80; refine (c2 _ (A1.out.below hw1 (Nat.le_refl _))).mono ?_; rintro e w2 ⟨rfl, hw2⟩; obtain ⟨v3, w3, hap, hO3, hb3⟩ := append_text w2 w0.heap.size v1 L r (hO1.below hw2 (Nat.le_refl _)) (by omega) (Nat.le_trans hw1.size hw2.size); rw [show sv r = Value.string ⟨r.toArray⟩ from rfl] at hap ⊢)
          | (at_builtin; go_must (refine Lib.wpList_append_run _ rfl _ _ 22 22 rfl _ _ rfl rfl _ _ hap ?_)))
        go_ret
        exact ⟨_, rfl, by rw [e.out]; exact hO3, (hw1.trans (hw2.mono hw1.size)).trans hb3⟩
end Go.Proofs.YtkbngmhhlpdpnaaDoor
