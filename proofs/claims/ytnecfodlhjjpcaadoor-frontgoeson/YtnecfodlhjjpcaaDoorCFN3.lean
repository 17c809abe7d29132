import Derived.Test.YtnecfodlhjjpcaaDoorCFN1
import Derived.BigQuiet
import Derived.Deep.RegionHeld3
import Derived.Test.YtnecfodlhjjpcaaDoorCK3
import Derived.Lib.AppendZeros
namespace Go.Proofs.YtnecfodlhjjpcaaDoor
open Go.RowKit
set_option maxRecDepth 100000 in
theorem isPlace_is (n : Int) (q : Bool) (h : decide (0 ≤ n ∧ n ≤ 1099511627776) = q) (w : World) : Calls Tryd.prog 40 #[.int .i64 n] w fun r w' => r = .returned (.bool q) ∧ w' = w := by
  by_cases h0 : 0 ≤ n
  · by_cases h1 : n ≤ 1099511627776
    · have e := hid (show q = true by rw [← h]; simp [h0, h1])
      clear h
      go_enter Tryd.func40, Tryd.ntmps40
      go_wp2
      go_ret
      exact ⟨by rw [e.out]; rfl, rfl⟩
    · have e := hid (show q = false by rw [← h]; simp [h1])
      clear h
      go_enter Tryd.func40, Tryd.ntmps40
      go_wp2
      go_ret
      exact ⟨by rw [e.out]; rfl, rfl⟩
  · have e := hid (show q = false by rw [← h]; simp [h0])
    clear h
    go_enter Tryd.func40, Tryd.ntmps40
    go_wp2
    go_ret
    exact ⟨by rw [e.out]; rfl, rfl⟩
theorem sizeRg : (Tryd.prog.info? 42).map (·.size) = some 3 := by kernel_rfl
theorem sizeRg' (a b c : Value) : (Tryd.prog.info? 42).map (·.size) = some #[a, b, c].size := sizeRg
/-- a range among the values -/
abbrev rng (b e : Int) (v : Value) : Value := .agg #[.int .i64 b, .int .i64 e, v]
/-- a range's variable -/
def Rg (w : World) (g : Nat) (b e : Int) (v : Value) : Prop := w.heap[g]? = some (.cells #[.int .i64 b, .int .i64 e, v] 42 (0, 0))
theorem Rg.row {w : World} {g : Nat} {b e : Int} {v : Value} (h : Rg w g b e v) : w.heap[g]? = some (.cells #[.int .i64 b, .int .i64 e, v] 42 (0, 0)) := h
theorem Rg.c0 {w : World} {g : Nat} {b e : Int} {v : Value} (h : Rg w g b e v) : w.cell? ⟨g, 0, none⟩ = some (.int .i64 b) := by rw [cell_of_row w g 0 _ _ _ h]; rfl
theorem Rg.c1 {w : World} {g : Nat} {b e : Int} {v : Value} (h : Rg w g b e v) : w.cell? ⟨g, 1, none⟩ = some (.int .i64 e) := by rw [cell_of_row w g 1 _ _ _ h]; rfl
theorem Rg.c2 {w : World} {g : Nat} {b e : Int} {v : Value} (h : Rg w g b e v) : w.cell? ⟨g, 2, none⟩ = some v := by rw [cell_of_row w g 2 _ _ _ h]; rfl
theorem Rg.new (w : World) (b e : Int) (v : Value) : Rg (w.alloc (.cells #[.int .i64 b, .int .i64 e, v] 42)) w.heap.size b e v := heap_alloc_new w _
theorem Rg.below {w w' : World} {g : Nat} {b e : Int} {v : Value} (h : Rg w g b e v) (hb : Below w.heap.size w w') : Rg w' g b e v := (hb.block g (lt_of_heap h)).trans h
theorem drewBelow5 {w w' : World} (h : Below w.drew.heap.size w.drew w') : Below w.heap.size w w' := (Below.refl _ w).drew.trans h
set_option maxRecDepth 100000 in
set_option maxHeartbeats 2000000 in
theorem spanOf_any (b e : Int) (v : Value) (w : World) : Calls Tryd.prog 48 #[rng b e v] w fun r w' => r = .returned (.agg #[.int .i64 b, .int .i64 e]) ∧ Below w.heap.size w w' := by
  go_enter Tryd.func48, Tryd.ntmps48
  go_wp2
  refine bodyPost_ret (v := .agg #[.int .i64 b, .int .i64 e]) (results_cell_row rfl _ _ (w.heap.size + 1) 80 _ (0, 0) _ rfl (heap_alloc_at _ _ _ (size_alloc w _)) Tryd.underlying80 rfl sizeSp) rfl ⟨rfl, ?_⟩
  exact ((Below.refl _ _).alloc (Nat.le_refl _) _).alloc (by rw [size_alloc]; omega) _
/-- F4: may a range be one, whatever its hashes are? -/
def rgt (b e : Int) (k : Nat) : Bool := decide (0 ≤ b ∧ b ≤ 1099511627776 ∧ 0 ≤ e ∧ e ≤ 1099511627776 ∧ b ≤ e ∧ k = (Cut.cut b.toNat e.toNat).length)
set_option maxRecDepth 100000 in
set_option maxHeartbeats 8000000 in
theorem isRight_any (b e : Int) (a : Option Addr) (k c : Nat) (w : World) (Z : Tb w) :
    Calls Tryd.prog 41 #[rng b e (.slice a k c)] w fun r w' => r = .returned (.bool (rgt b e k)) ∧ Below w.heap.size w w' := by
  have B1 := hid ((Below.refl w.heap.size w).alloc (Nat.le_refl _) (.cells #[Value.int .i64 b, .int .i64 e, .slice a k c] 42))
  have R1 := hid (Rg.new w b e (.slice a k c))
  have c0 := R1.out.c0
  have c1 := R1.out.c1
  have c2 := R1.out.c2
  have HZ := hid Z
  have hZ := Z.lt
  clear Z
  by_cases h1 : 0 ≤ b ∧ b ≤ 1099511627776
  · have i1 := isPlace_is b true (by simpa using h1)
    by_cases h2 : 0 ≤ e ∧ e ≤ 1099511627776
    · have i2 := isPlace_is e true (by simpa using h2)
      by_cases h3 : b ≤ e
      · obtain ⟨b, rfl⟩ := Int.eq_ofNat_of_zero_le h1.1
        obtain ⟨e, rfl⟩ := Int.eq_ofNat_of_zero_le h2.1
        have i3 := fun w' => spanOf_any (b : Int) (e : Int) (.slice a k c) w'
        have i4 := fun w' hb => cutLen_any b e (by omega) (by omega) w' (HZ.out.below hb hZ)
        have d3 : decide ((b : Int) ≤ (e : Int)) = true := by simp; omega
        obtain ⟨N, hN⟩ : ∃ N, Hid ((Cut.cut b e).length = N) := ⟨_, rfl⟩
        rw [hN.out] at i4
        obtain ⟨q, hq⟩ : ∃ q : Bool, Hid (((k : Int) == (N : Int)) = q) := ⟨_, rfl⟩
        have er := hid (show rgt (b : Int) (e : Int) k = q by
          rw [← hq.out, ← hN.out]
          unfold rgt
          simp only [Int.toNat_natCast]
          rw [Bool.eq_iff_iff]
          simp
          omega)
        rw [er.out]
        have hq2 : ((k : Int) == (N : Int)) = q := hq.out
        clear h1 h2 er hN
        go_enter Tryd.func41, Tryd.ntmps41
        go_wp2
        generalize w.alloc (.cells #[Value.int .i64 (b : Int), .int .i64 (e : Int), .slice a k c] 42) = w1 at *
        go_region_held3 (fun w' => w'.cell? ⟨w.heap.size, 0, none⟩ = some (.int .i64 (b : Int)) ∧ w'.cell? ⟨w.heap.size, 1, none⟩ = some (.int .i64 (e : Int)) ∧ w'.cell? ⟨w.heap.size, 2, none⟩ = some (.slice a k c)) (first | exact x4 | exact x3 | exact ⟨c0, c1, c2⟩) (first
          | (go_at_call 40; (with_reducible refine (i1 _).mono ?_); rintro r w2 ⟨rfl, rfl⟩)
          | (go_at_call 40; (with_reducible refine (i2 _).mono ?_); rintro r w2 ⟨rfl, rfl⟩)
          | (go_at_call 48; refine (i3 _).mono ?_; rintro r w3 ⟨rfl, hw3⟩; have B3 := hid (B1.out.trans ((drewBelow5 hw3).mono B1.out.size)); have R3 := R1.out.below (drewBelow5 hw3); have x3 := And.intro R3.c0 (And.intro R3.c1 R3.c2))
          | (go_at_call 67; refine (i4 _ B3.out).mono ?_; rintro r w4 ⟨rfl, hw4⟩; have R4 := R3.below hw4; have B4 := hid (B3.out.trans (hw4.mono B3.out.size)); have x4 := And.intro R4.c0 (And.intro R4.c1 R4.c2)))
        go_wp2
        go_ret
        exact ⟨rfl, B4.out⟩
      · have d3 : decide (b ≤ e) = false := by simpa using h3
        have er := hid (show rgt b e k = false by unfold rgt; simp; omega)
        rw [er.out]
        clear er
        clear h1 h2 h3
        go_enter Tryd.func41, Tryd.ntmps41
        go_wp2
        generalize w.alloc (.cells #[Value.int .i64 b, .int .i64 e, .slice a k c] 42) = w1 at *
        go_quiet (first
          | (go_at_call 40; (with_reducible exact Calls.quiet_of_same (i1 _)))
          | (go_at_call 40; (with_reducible exact Calls.quiet_of_same (i2 _))))
        go_wp2
        go_ret
        exact ⟨rfl, by first | exact B1.out | exact B1.out.drew | exact below_drewN B1.out _⟩
    · have i2 := isPlace_is e false (by simpa using h2)
      have er := hid (show rgt b e k = false by unfold rgt; simp; omega)
      rw [er.out]
      clear er
      clear h1 h2
      go_enter Tryd.func41, Tryd.ntmps41
      go_wp2
      generalize w.alloc (.cells #[Value.int .i64 b, .int .i64 e, .slice a k c] 42) = w1 at *
      go_quiet (first
        | (go_at_call 40; (with_reducible exact Calls.quiet_of_same (i1 _)))
        | (go_at_call 40; (with_reducible exact Calls.quiet_of_same (i2 _))))
      go_wp2
      go_ret
      exact ⟨rfl, by first | exact B1.out | exact B1.out.drew | exact below_drewN B1.out _⟩
  · have i1 := isPlace_is b false (by simpa using h1)
    have er := hid (show rgt b e k = false by unfold rgt; simp; omega)
    rw [er.out]
    clear er
    clear h1
    go_enter Tryd.func41, Tryd.ntmps41
    go_wp2
    generalize w.alloc (.cells #[Value.int .i64 b, .int .i64 e, .slice a k c] 42) = w1 at *
    go_quiet (first
      | (go_at_call 40; (with_reducible exact Calls.quiet_of_same (i1 _))))
    go_wp2
    go_ret
    exact ⟨rfl, by first | exact B1.out | exact B1.out.drew | exact below_drewN B1.out _⟩
end Go.Proofs.YtnecfodlhjjpcaaDoor

namespace Go.Proofs.YtnecfodlhjjpcaaDoor
open Go.RowKit

def sliceLen : Value → Nat
  | .slice _ n _ => n
  | _ => 0

set_option maxRecDepth 100000 in
set_option maxHeartbeats 400000 in
theorem filled_any (s : ByteArray) (hs : s.size ≤ 140737488355000) (w : World) :
    Calls Tryd.prog 90 #[.string s] w fun e w' => e = .returned (sv (s.data.toList ++ Sha.filling s.size)) ∧ Below w.heap.size w w' := by
  obtain ⟨v0, w0, hc0, hown0, hb0⟩ := conv_bytes w s (by rw [maxLen]; omega)
  obtain ⟨a0, cap0, rfl⟩ := hown0.shape
  have hb0s := hb0.size
  obtain ⟨v1, w1, hc1, hown1, hg1, _⟩ := append_new w0 w.heap.size _ s.data.toList [128] 1 #[.int .u8 128] rfl rfl hown0 (by rw [data_length]; omega) hb0s (by omega)
  have hb1 : Below w.heap.size w w1 := hb0.trans (Below.ofGrown hg1 hown0.ge hb0s)
  rw [bv_length, data_length] at hc0 hc1
  obtain ⟨z, hz⟩ : ∃ z, z = (119 - s.size % 64) % 64 := ⟨_, rfl⟩
  have Hz := hid hz
  have Hown1 := hid hown1
  have Hb1 := hid hb1
  clear hz hown0 hown1 hb0 hb1 hg1 hb0s
  generalize hn : s.size = n at *
  have hs' : (n : Int) ≤ 140737488355000 := by omega
  go_enter Tryd.func90, Tryd.ntmps90
  go_wp2_with (at_builtin; go_must (refine Lib.wpList_append_run _ rfl _ _ 85 85 rfl _ _ rfl rfl _ _ hc1 ?_))
  have hz64 : z < 64 := by have := Hz.out; omega
  have e1 : (bv (s.data.toList ++ [128])).length = n + 1 := by simp [hn]
  obtain ⟨a1, cap1, hv1⟩ := Hown1.out.shape
  rw [e1] at hv1
  subst hv1
  clear e1
  go_loopw [4] (fun v w' => ∃ (k : Nat) (a : Option Addr) (cap : Nat), v = .slice a (n + 1 + k) cap ∧ k ≤ z ∧ OwnB w' w.heap.size (.slice a (n + 1 + k) cap) (s.data.toList ++ 128 :: List.replicate k 0) ∧ Below w.heap.size w w') (fun v _ => n + 1 + z - sliceLen v)
  case atStart =>
    exact ⟨0, a1, cap1, rfl, by omega, Hown1.out, Hb1.out⟩
  case round =>
    obtain ⟨k, a, cap, rfl, hk, hown, hb⟩ := hrel
    have Hown := hid hown
    have Hb := hid hb
    have hbs := hb.size
    by_cases hlt : k < z
    · have g1 : (((n + 1 + k : Nat) : Int) % 64 != 56) = true := by have := Hz.out; simp; omega
      obtain ⟨v2, w2, hc2, hown2, hg2, _⟩ := append_new wr w.heap.size _ _ [0] 1 #[.int .u8 0] rfl rfl hown (by simp; omega) hbs (by omega)
      have e2 : (s.data.toList ++ 128 :: List.replicate k 0) ++ [0] = s.data.toList ++ 128 :: List.replicate (k + 1) 0 := by rw [List.replicate_succ']; simp
      rw [e2] at hown2
      have e3 : (bv (s.data.toList ++ 128 :: List.replicate (k + 1) 0)).length = n + 1 + (k + 1) := by simp [hn]; omega
      obtain ⟨a2, cap2, hv2⟩ := hown2.shape
      rw [e3] at hv2
      subst hv2
      clear e2 e3
      have Hown2 := hid hown2
      have Hb2 := hid (hb.trans (Below.ofGrown hg2 hown.ge hbs))
      clear hown hb hown2 hg2
      go_wp2_with (at_builtin; go_must (refine Lib.wpList_append_run _ rfl _ _ 85 85 rfl _ _ rfl rfl _ _ hc2 ?_))
      exact ⟨⟨k + 1, a2, cap2, rfl, by omega, Hown2.out, Hb2.out⟩, by simp [sliceLen]; omega⟩
    · obtain rfl : k = z := by omega
      have g1 : (((n + 1 + k : Nat) : Int) % 64 != 56) = false := by have := Hz.out; simp; omega
      clear hb
      have hcv : (convert 85 9 (.slice a (n + 1 + k) cap)).run Tryd.prog wr.drew = .ok (sv (s.data.toList ++ 128 :: List.replicate k 0)) wr.drew := conv_own hown.drew (by intro e; injection e; omega)
      have hw8 : IntKind.i64.wrap (8 * (n : Int)) = 8 * (n : Int) := wrap_small _ (by omega) (by omega)
      clear hown
      have hadd := add_sv Tryd.prog 9 (s.data.toList ++ 128 :: List.replicate k 0) (Sha.be (8 * n) 8) (by simp [Sha.be_length]; omega)
      go_wp2
      go_region_with (go_at_call 93; refine (big8 (8 * n) _ (by omega) _).mono ?_; rintro e w5 ⟨rfl, hw5⟩; go_must (have hcv5 := conv_own (Hown.out.drew.below hw5 (Nat.le_refl _)) (by intro e; injection e; omega)))
      all_goals go_wp2
      all_goals go_ret
      all_goals refine ⟨?_, Hb.out.drew.trans (hw5.mono hbs)⟩
      all_goals show Ending.returned (sv _) = _
      all_goals rw [Sha.filling, ← Hz.out]
end Go.Proofs.YtnecfodlhjjpcaaDoor
