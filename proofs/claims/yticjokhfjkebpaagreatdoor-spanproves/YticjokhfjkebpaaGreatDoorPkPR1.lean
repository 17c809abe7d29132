import Derived.Test.YticjokhfjkebpaaGreatDoorPkPP3
/- Layer 14, the document: run, hashes, Told -/
namespace Go.Proofs.YticjokhfjkebpaaGreatDoor
open Go.RowKit Go.Shelf
namespace Spn
set_option maxRecDepth 100000 in
set_option maxHeartbeats 2000000 in
theorem rrun14_is (n x y : Int) (q : Bool) (hq : runB n x y = q) (w : World) : Calls Tryz.prog 60 #[.int .i64 n, sg x y] w fun r w' => r = .returned (.bool q) ∧ Below w.heap.size w w' := by
  have S0 := SpI.new w x y
  have hb := hid ((Below.refl _ w).alloc (Nat.le_refl _) (.cells #[.int .i64 x, .int .i64 y] 35))
  have c0 := S0.c0
  have c1 := S0.c1
  clear S0
  by_cases h1 : 0 ≤ x
  · by_cases h2 : x < y
    · by_cases h3 : y ≤ n
      · have er := hid (show q = true by rw [← hq]; simp [runB, h1, h2, h3])
        clear hq
        go_enter Tryz.func60, Tryz.ntmps60
        go_wp2
        go_ret
        exact ⟨by rw [er.out]; rfl, hb.out⟩
      · have er := hid (show q = false by rw [← hq]; simp [runB, h3])
        clear hq
        go_enter Tryz.func60, Tryz.ntmps60
        go_wp2
        go_ret
        exact ⟨by rw [er.out]; rfl, hb.out⟩
    · have er := hid (show q = false by rw [← hq]; simp [runB, h2])
      clear hq
      go_enter Tryz.func60, Tryz.ntmps60
      go_wp2
      go_ret
      exact ⟨by rw [er.out]; rfl, hb.out⟩
  · have er := hid (show q = false by rw [← hq]; simp [runB, h1])
    clear hq
    go_enter Tryz.func60, Tryz.ntmps60
    go_wp2
    go_ret
    exact ⟨by rw [er.out]; rfl, hb.out⟩
set_option maxRecDepth 100000 in
set_option maxHeartbeats 2000000 in
theorem rhashes14_is (l : List (List UInt8)) (q : Bool) (hq : hsB8 l = q) (a : Option Addr) (cap : Nat) (w : World) (hc : l.length ≤ 9223372036854775807) (hA : At w a l) :
    Calls Tryz.prog 105 #[.slice a l.length cap] w fun r w' => r = .returned (.bool q) ∧ w' = w := by
  have HQ := hid hq
  generalize hn : l.length = k at *
  have HA := hid hA
  clear hA hq
  go_enter Tryz.func105, Tryz.ntmps105
  go_wp2
  go_loopw [3] (fun i w' => ∃ j : Nat, j ≤ k ∧ i = .int .i64 (j : Int) ∧ Hid ((l.take j).all (·.length == 32) = true) ∧ w' = w) (fun i _ => k - (intOf i).toNat)
  case atStart => exact ⟨0, by omega, rfl, rfl, rfl⟩
  case round =>
    obtain ⟨j, hj, rfl, hall, rfl⟩ := hrel
    by_cases hjk : j < k
    · have b0 : (j : Int) < (k : Int) := by omega
      obtain ⟨y, rfl⟩ := HA.out.pos (by omega)
      obtain ⟨s, hs, hcell⟩ := HA.out.cell j (by omega)
      by_cases h32 : s.size = 32
      · have b1 : ((s.size : Int) != 32) = false := by simp; omega
        have e2 := hid (all_take l j (by omega) hall.out (by rw [← hs.out, data_length]; exact h32))
        clear HA hall hs
        go_wp2
        exact ⟨⟨j + 1, by omega, by go_num, e2, trivial⟩, by simp [intOf]; omega⟩
      · have b1 : ((s.size : Int) != 32) = true := by simp; omega
        have e2 := all_not l j (by omega) (by rw [← hs.out, data_length]; exact h32)
        have e3 := hid (show q = false by rw [← HQ.out]; exact e2)
        clear HA hall hs e2
        go_wp2
        go_ret
        exact ⟨by rw [e3.out]; rfl, rfl⟩
    · obtain rfl : j = k := by omega
      have b0 : ¬ (j : Int) < (j : Int) := by omega
      rw [← hn, List.take_length] at hall
      have e3 := hid (show q = true by rw [← HQ.out]; exact hall.out)
      clear HA hall
      go_wp2
      go_ret
      exact ⟨by rw [e3.out]; rfl, rfl⟩
theorem own_one14 (w : World) (x y : Nat) : OwnP (w.alloc (.cells #[.int .i64 (x : Int), .int .i64 (y : Int)] 35)) (.slice (some ⟨w.heap.size, 0, none⟩) 1 1) [(x, y)] := by
  have r := heap_alloc_new w (.cells #[.int .i64 (x : Int), .int .i64 (y : Int)] 35)
  refine .inr ⟨w.heap.size, 1, rfl, Nat.le_refl _, by rw [maxLen]; omega, rfl, fun j v hv => ?_, there_of_row r 0 2 (by simp), lt_of_heap r⟩
  rw [cell_of_row _ _ _ _ _ _ r, Nat.zero_add]
  simpa [prs] using hv
set_option maxRecDepth 100000 in
set_option maxHeartbeats 4000000 in
/-- the document's told subtrees -/
theorem rtold14_any (x y : Nat) (hxy : x < y) (hy : y ≤ 1099511627776) : ∀ (f b n : Nat), n ≤ f → 1 ≤ n → b + n ≤ 1099511627776 → ∀ (w : World),
    Calls Tryz.prog 59 #[sg (x : Int) (y : Int), .int .i64 (b : Int), .int .i64 ((b + n : Nat) : Int)] w fun r w' => ∃ v, r = .returned v ∧ OwnP w' v (Tree.runF f b n x y) ∧ (∀ k, v.ownBlock = some k → w.heap.size ≤ k) ∧ Below w.heap.size w w'
  | 0, b, n, h, h1, _ => by omega
  | f + 1, b, n, h, h1, h2 => by
    intro w
    obtain ⟨e, he⟩ : ∃ e, b + n = e := ⟨_, rfl⟩
    rw [he]
    have S0 := SpI.new w (x : Int) (y : Int)
    have B0 := hid ((Below.refl _ w).alloc (Nat.le_refl _) (.cells #[.int .i64 (x : Int), .int .i64 (y : Int)] 35))
    have c0 := S0.c0
    have c1 := S0.c1
    have HS := hid S0
    clear S0
    by_cases hd : e ≤ x ∨ y ≤ b
    · have HR : Hid (Tree.runF (f + 1) b n x y = [(b, e)]) := by unfold Hid; rw [Tree.runF, he, if_pos hd]
      have OW := hid (own_one14 (w.alloc (.cells #[.int .i64 (x : Int), .int .i64 (y : Int)] 35)) b e)
      unfold Hid at OW
      rw [size_alloc] at OW
      have OW := hid OW
      by_cases hd1 : y ≤ b
      · have t1 : (y : Int) ≤ (b : Int) := by omega
        go_enter Tryz.func59, Tryz.ntmps59
        go_wp2
        go_ret
        exact ⟨_, rfl, by rw [HR.out]; exact OW.out, (fun k hk => by cases hk; exact Nat.le_succ _), B0.out.alloc B0.out.size _⟩
      · have t1 : ¬ (y : Int) ≤ (b : Int) := by omega
        have t2 : (e : Int) ≤ (x : Int) := by omega
        go_enter Tryz.func59, Tryz.ntmps59
        go_wp2
        go_ret
        exact ⟨_, rfl, by rw [HR.out]; exact OW.out, (fun k hk => by cases hk; exact Nat.le_succ _), B0.out.alloc B0.out.size _⟩
    · have t1 : ¬ (e : Int) ≤ (x : Int) := by omega
      have t2 : ¬ (y : Int) ≤ (b : Int) := by omega
      by_cases hi : x ≤ b ∧ e ≤ y
      · have HR : Hid (Tree.runF (f + 1) b n x y = []) := by unfold Hid; rw [Tree.runF, he, if_neg hd, if_pos hi]
        have t3 : (x : Int) ≤ (b : Int) := by omega
        have t4 : (e : Int) ≤ (y : Int) := by omega
        go_enter Tryz.func59, Tryz.ntmps59
        go_wp2
        go_ret
        exact ⟨_, rfl, by rw [HR.out]; exact OwnM.nil 2 _, (fun k hk => by cases hk), B0.out⟩
      · have hn2 : 2 ≤ n := by omega
        have s1 := Tree.sp_lt hn2
        have s2 := Tree.sp_pos hn2
        have HR : Hid (Tree.runF (f + 1) b n x y = Tree.runF f b (Tree.sp n) x y ++ Tree.runF f (b + Tree.sp n) (n - Tree.sp n) x y) := by unfold Hid; rw [Tree.runF, he, if_neg hd, if_neg hi]
        have ih1 := rtold14_any x y hxy hy f b (Tree.sp n) (by omega) s2 (by omega)
        have ih2 := rtold14_any x y hxy hy f (b + Tree.sp n) (n - Tree.sp n) (by omega) (by omega) (by omega)
        have hl1 : (Tree.runF f b (Tree.sp n) x y).length ≤ 1099511627776 := Nat.le_trans (run_len (x := x) (y := y) 40 f b (Tree.sp n) s2 (by omega) (by omega)) (by omega)
        have hl2 : (Tree.runF f (b + Tree.sp n) (n - Tree.sp n) x y).length ≤ 1099511627776 := Nat.le_trans (run_len (x := x) (y := y) 40 f (b + Tree.sp n) (n - Tree.sp n) (by omega) (by omega) (by omega)) (by omega)
        have iS := fun w' => rsplit_any (n : Int) (by omega) (by omega) w'
        rw [show spI (n : Int) = ((Tree.sp n : Nat) : Int) from rfl] at iS
        rw [show b + Tree.sp n + (n - Tree.sp n) = e by omega] at ih2
        obtain ⟨mid, hmid⟩ : ∃ mid, b + Tree.sp n = mid := ⟨_, rfl⟩
        rw [hmid] at ih1 ih2 HR hl2
        have hsb : IntKind.i64.wrap ((e : Int) - (b : Int)) = (n : Int) := by rw [IntKind.wrap_i64]; omega
        have hsb' : (e : Int) - (b : Int) = (n : Int) := by omega
        have hwn : IntKind.i64.wrap (n : Int) = (n : Int) := by rw [IntKind.wrap_i64]; omega
        have hn40 : n ≤ 1099511627776 := by omega
        have hm40 : mid ≤ 1099511627776 := by omega
        have hwm : IntKind.i64.wrap (mid : Int) = (mid : Int) := by rw [IntKind.wrap_i64]; omega
        have hkw : IntKind.i64.wrap ((b : Int) + ((Tree.sp n : Nat) : Int)) = (mid : Int) := by rw [IntKind.wrap_i64]; omega
        have hkk : (b : Int) + ((Tree.sp n : Nat) : Int) = (mid : Int) := by omega
        have hpick : Hid (¬ ((x : Int) ≤ (b : Int) ∧ (e : Int) ≤ (y : Int))) := by rw [Hid]; omega
        generalize Tree.runF f b (Tree.sp n) x y = LA at *
        generalize Tree.runF f mid (n - Tree.sp n) x y = LB at *
        generalize Tree.sp n = sm at *
        clear h h1 h2 he s1 s2 hmid hd hi hxy hy hn2
        go_enter Tryz.func59, Tryz.ntmps59
        by_cases t3 : (x : Int) ≤ (b : Int)
        case' pos => have t4 : ¬ (e : Int) ≤ (y : Int) := by have := hpick.out; omega
        all_goals
          go_wp2_with (first
            | (go_at_call 107; (with_reducible refine (iS _).mono ?_); rintro r w2 ⟨rfl, h0⟩; have h0 := h0.symm; subst h0)
            | (go_at_call 59; fail))
          with_reducible refine (ih1 _).mono ?_
          rintro r w3 ⟨v3, rfl, o3, f3, b3⟩
          have B3 := hid (B0.out.trans (b3.mono B0.out.size))
          have O3 := hid o3
          have F3 : Hid (∀ k, v3.ownBlock = some k → w.heap.size ≤ k) := fun k hk => Nat.le_trans B0.out.size (f3 k hk)
          have S3 := HS.out.below b3
          have d0 := S3.c0
          have d1 := S3.c1
          clear b3 o3 f3 S3
          go_wp2_with (go_at_call 59; fail)
          with_reducible refine (ih2 _).mono ?_
          rintro r w4 ⟨v4, rfl, o4, f4, b4⟩
          obtain ⟨v5, w5, hap, O5, G5⟩ := append_spl14 w4 v3 v4 LA LB (O3.out.below b4) o4 hl1 hl2
          have B4 := B3.out.trans (b4.mono B3.out.size)
          obtain ⟨f5, b5⟩ := grow_fresh G5 B4.size F3.out
          have B5 := hid (B4.trans b5)
          have HO5 := hid O5
          have F5 := hid f5
          clear b4 o4 f4 O5 G5 B4 O3 F3 f5 b5
          go_wp2_with (at_builtin; go_must (refine Lib.wpList_append_run _ rfl _ _ 88 88 rfl _ _ rfl rfl _ _ hap ?_))
          go_ret
          exact ⟨_, rfl, by rw [HR.out]; exact HO5.out, F5.out, B5.out⟩
end Spn
end Go.Proofs.YticjokhfjkebpaaGreatDoor
