import Derived.Test.YtnnohacciikofaaDoorCFR2
import Derived.Test.YtnnohacciikofaaDoorCW1
import Derived.Test.YtnnohacciikofaaDoorCW7
import Derived.Laws.Bits64b
import Derived.WalkMore
import Derived.BigQuiet
import Derived.Deep.RegionHeld3
import Derived.Lib.AppendZeros
namespace Go.Proofs.YtnnohacciikofaaDoor
open Go.RowKit
/-- the library's table of places -/
def Tz (w : World) : Prop := ∀ j, j < 64 → w.cell? ⟨1, j, none⟩ = some (.int .u8 ((Lib.deBruijn64tab.getD j 0 : Nat) : Int))
/-- all tables that this layer reads -/
structure Tb (w : World) : Prop where
  t : Tabs w
  z : Tz w
theorem Tb.lt {w : World} (h : Tb w) : 4 ≤ w.heap.size := h.t.lt
theorem Tb.below {w w' : World} {B : Nat} (h : Tb w) (hb : Below B w w') (hB : 4 ≤ B) : Tb w' :=
  ⟨h.t.below hb hB, fun j hj => (hb.cell (p := ⟨1, j, none⟩) (Nat.lt_of_lt_of_le (by simp) hB)).trans (h.z j hj)⟩
set_option maxHeartbeats 1000000 in
theorem tz64_core (x k idx : Nat) (w : World) (hx0 : ((x : Int) == 0) = false)
    (key : IntKind.u64.wrap (bits BinOp.and IntKind.u64 (x : Int) (IntKind.u64.wrap (-(x : Int))) * 285870213051353865) / 288230376151711744 = (idx : Int))
    (hi : idx < 64) (hk : k < 64) (hcell : w.cell? ⟨1, idx, none⟩ = some (.int .u8 (k : Int))) :
    Calls Tryd.prog 70 #[.int .u64 x] w fun e w' => e = .returned (.int .i64 k) ∧ w' = w := by
  go_enter Tryd.func70, Tryd.ntmps70
  go_wp2_with (simp only [key])
  go_ret
  exact ⟨rfl, rfl⟩
theorem tz64_zero (w : World) : Calls Tryd.prog 70 #[.int .u64 0] w fun e w' => e = .returned (.int .i64 64) ∧ w' = w := by
  go_enter Tryd.func70, Tryd.ntmps70
  go_wp2
  go_ret
  exact ⟨rfl, rfl⟩
theorem tz64_key' (x a : Nat) (hx : x < 18446744073709551616) (hx0 : x ≠ 0) (hlow : x &&& (18446744073709551616 - x) = a) :
    IntKind.u64.wrap (bits BinOp.and IntKind.u64 (x : Int) (IntKind.u64.wrap (-(x : Int))) * 285870213051353865) / 288230376151711744 = ((a * 285870213051353865 % 18446744073709551616 / 288230376151711744 : Nat) : Int) := by
  have e1 : IntKind.u64.wrap (-(x : Int)) = ((18446744073709551616 - x : Nat) : Int) := by rw [IntKind.wrap_u64]; omega
  rw [e1, bits_and_u64_nat x _ hx (by omega), hlow, IntKind.wrap_u64]
  omega
theorem tz64_any (x : Nat) (hx : x < 18446744073709551616) (w : World) (Z : Tz w) :
    Calls Tryd.prog 70 #[.int .u64 x] w fun e w' => e = .returned (.int .i64 (Lib.ctz 64 x : Nat)) ∧ w' = w := by
  by_cases hx0 : x = 0
  · subst hx0
    exact tz64_zero w
  · obtain ⟨hlow, hk⟩ := Lib.lowest_bit 64 x hx0 hx
    obtain ⟨hi, htab⟩ := Lib.deBruijn64_at _ hk
    have hcell := Z _ hi
    rw [htab] at hcell
    exact tz64_core x _ _ w (by simp; omega) (tz64_key' x _ hx hx0 hlow) hi hk hcell
set_option maxHeartbeats 1000000 in
theorem tz_any (x : Nat) (hx : x < 18446744073709551616) (w : World) (Z : Tz w) :
    Calls Tryd.prog 54 #[.int .u64 x] w fun e w' => e = .returned (.int .i64 (Lib.ctz 64 x : Nat)) ∧ w' = w := by
  have c64 := tz64_any x hx w Z
  have hw : IntKind.u64.wrap (x : Int) = (x : Int) := by rw [IntKind.wrap_u64]; omega
  go_enter Tryd.func54, Tryd.ntmps54
  go_wp2_with (go_at_call 70; refine c64.mono ?_; rintro e w' ⟨rfl, rfl⟩)
  go_ret
  exact ⟨rfl, rfl⟩
theorem lenU_nat (x l : Nat) (h1 : 1 ≤ x) (hx : x < 18446744073709551616) (hl : x.log2 = l) (w : World) :
    Calls Tryd.prog 53 #[.int .u64 x] w fun e w' => e = .returned (.int .i64 ((l : Int) + 1)) ∧ w' = w := by
  have := lenU_any x (by omega) (by omega) w
  rw [Int.toNat_natCast, bitLen_log x x (Nat.le_refl _) h1 hx, hl] at this
  exact this
/-- a span among the values -/
abbrev spn (b e : Nat) : Value := .agg #[.int .i64 (b : Int), .int .i64 (e : Int)]
set_option maxRecDepth 100000 in
set_option maxHeartbeats 2000000 in
theorem firstLevel_any (b e : Nat) (h : b < e) (he : e ≤ 1099511627776) (w : World) (Z : Tb w) :
    Calls Tryd.prog 31 #[spn b e] w fun r w' => r = .returned (.int .i64 (Cut.lev b e : Nat)) ∧ Below w.heap.size w w' := by
  obtain ⟨l, hl⟩ : ∃ l, (e - b).log2 = l := ⟨_, rfl⟩
  obtain ⟨c, hc⟩ : ∃ c, Lib.ctz 64 b = c := ⟨_, rfl⟩
  have e0 : (e : Int) - (b : Int) = ((e - b : Nat) : Int) := by omega
  have h1 := lenU_nat (e - b) l (by omega) (by omega) hl
  have h2 := fun w1 (hb : Below w.heap.size w w1) => tz_any b (by omega) w1 (Z.below hb Z.lt).z
  rw [hc] at h2
  have hlev := hid (show Cut.lev b e = min l c by unfold Cut.lev; rw [hl, hc])
  have hl64 : l ≤ 64 := by
    rw [← hl]
    have := (Nat.log2_lt (n := e - b) (k := 64) (by omega)).2 (by omega)
    omega
  have hc64 : c ≤ 64 := by
    rw [← hc]
    unfold Lib.ctz
    split
    · omega
    · obtain ⟨_, _, _⟩ := Lib.ctzFrom_spec 64 b (by omega) (by omega)
      omega
  have hbx := (Below.refl w.heap.size w).alloc (Nat.le_refl _) (.cells #[Value.int .i64 (b : Int), Value.int .i64 (e : Int)] 69)
  have u1 : IntKind.u64.wrap ((e - b : Nat) : Int) = ((e - b : Nat) : Int) := by rw [IntKind.wrap_u64]; omega
  have u2 : IntKind.u64.wrap (b : Int) = (b : Int) := by rw [IntKind.wrap_u64]; omega
  generalize e - b = d at *
  clear hl hc
  go_enter Tryd.func31, Tryd.ntmps31
  go_wp2_with (first
    | (go_at_call 53; refine (h1 _).mono ?_; rintro r w1 ⟨rfl, rfl⟩)
    | (go_at_call 54; refine (h2 _ hbx).mono ?_; rintro r w2 ⟨rfl, rfl⟩))
  go_ret
  exact ⟨by rw [hlev.out]; refine congrArg Ending.returned (congrArg (Value.int IntKind.i64) ?_); omega, hbx⟩
end Go.Proofs.YtnnohacciikofaaDoor

namespace Go.Proofs.YtnnohacciikofaaDoor
open Go.RowKit

/-- T1 -/
def spI (n : Int) : Int := (Tree.sp n.toNat : Nat)
theorem log_le {x : Nat} (h1 : 1 ≤ x) (h : x < 9223372036854775808) : x.log2 ≤ 62 := by
  have := (Nat.log2_lt (n := x) (k := 63) (by omega)).2 h
  omega
theorem wrap_pow {L : Nat} (h : L ≤ 62) : wrap64 ((2 : Int) ^ L) = ((2 ^ L : Nat) : Int) := by
  have := Nat.pow_le_pow_right (n := 2) (by decide) h
  have e : ((2 : Int) ^ L) = ((2 ^ L : Nat) : Int) := by simp
  rw [e]
  generalize 2 ^ L = x at *
  unfold wrap64
  omega
set_option maxRecDepth 100000 in
set_option maxHeartbeats 2000000 in
theorem split_any (n : Int) (h0 : -9223372036854775808 ≤ n) (h1 : n ≤ 9223372036854775807) (w : World) :
    Calls Tryd.prog 58 #[.int .i64 n] w fun e w' => e = .returned (.int .i64 (spI n)) ∧ w' = w := by
  by_cases hn : n < 2
  · go_enter Tryd.func58, Tryd.ntmps58
    go_wp2
    go_ret
    exact ⟨by rw [spI, Tree.sp_small (by omega)]; rfl, rfl⟩
  · have hb := bitLen_log _ (n - 1).toNat (Nat.le_refl _) (by omega) (by omega)
    have hL := log_le (x := (n - 1).toNat) (by omega) (by omega)
    have e := hid (show spI n = ((2 ^ (n - 1).toNat.log2 : Nat) : Int) by rw [spI, Tree.sp_eq (by omega), show n.toNat - 1 = (n - 1).toNat from by omega])
    have hc := lenU_any (n - 1) (by omega) (by omega)
    rw [hb] at hc
    clear hb
    generalize (n - 1).toNat.log2 = L at *
    go_enter Tryd.func58, Tryd.ntmps58
    go_wp2_with (go_at_call 53; refine (hc _).mono ?_; rintro e w' ⟨rfl, rfl⟩)
    go_ret
    exact ⟨by rw [e.out, ← wrap_pow hL]; rfl, rfl⟩
end Go.Proofs.YtnnohacciikofaaDoor

namespace Go.Proofs.YtnnohacciikofaaDoor
open Go.RowKit
theorem sizeSp : (Tryd.prog.info? 69).map (·.size) = some 2 := by kernel_rfl
theorem sizeSp' (a b : Value) : (Tryd.prog.info? 69).map (·.size) = some #[a, b].size := sizeSp
/-- a span's variable -/
def Sp (w : World) (g b e : Nat) : Prop := w.heap[g]? = some (.cells #[.int .i64 (b : Int), .int .i64 (e : Int)] 69 (0, 0))
theorem Sp.row {w : World} {g b e : Nat} (h : Sp w g b e) : w.heap[g]? = some (.cells #[.int .i64 (b : Int), .int .i64 (e : Int)] 69 (0, 0)) := h
theorem Sp.c0 {w : World} {g b e : Nat} (h : Sp w g b e) : w.cell? ⟨g, 0, none⟩ = some (.int .i64 (b : Int)) := by rw [cell_of_row w g 0 _ _ _ h]; rfl
theorem Sp.c1 {w : World} {g b e : Nat} (h : Sp w g b e) : w.cell? ⟨g, 1, none⟩ = some (.int .i64 (e : Int)) := by rw [cell_of_row w g 1 _ _ _ h]; rfl
theorem Sp.below {w w' : World} {g b e : Nat} (h : Sp w g b e) (hb : Below w.heap.size w w') : Sp w' g b e := (hb.block g (lt_of_heap h)).trans h
theorem Sp.new (w : World) (b e : Nat) : Sp (w.alloc (.cells #[.int .i64 (b : Int), .int .i64 (e : Int)] 69)) w.heap.size b e := heap_alloc_new w _
theorem Sp.f0 {w : World} {g b e : Nat} (h : Sp w g b e) : w.frozen? ⟨g, 0, none⟩ = false := frozen_of_row _ _ _ _ _ h
theorem Sp.f1 {w : World} {g b e : Nat} (h : Sp w g b e) : w.frozen? ⟨g, 1, none⟩ = false := frozen_of_row _ _ _ _ _ h
theorem Sp.set0 {w : World} {g b e : Nat} (h : Sp w g b e) (b' : Nat) : Sp (w.setCell ⟨g, 0, none⟩ (.int .i64 (b' : Int))) g b' e := heap_setCell_same w g 0 _ _ _ h
theorem Sp.set1 {w : World} {g b e : Nat} (h : Sp w g b e) (e' : Nat) : Sp (w.setCell ⟨g, 1, none⟩ (.int .i64 (e' : Int))) g b e' := heap_setCell_same w g 1 _ _ _ h
/-- the number that lies there -/
def memN (w : World) (g i : Nat) : Nat := match w.cell? ⟨g, i, none⟩ with | some (.int _ n) => n.toNat | _ => 0
theorem Sp.n0 {w : World} {g b e : Nat} (h : Sp w g b e) : memN w g 0 = b := by unfold memN; rw [h.c0]; exact Int.toNat_natCast _
theorem Sp.n1 {w : World} {g b e : Nat} (h : Sp w g b e) : memN w g 1 = e := by unfold memN; rw [h.c1]; exact Int.toNat_natCast _
set_option maxRecDepth 100000 in
set_option maxHeartbeats 4000000 in
theorem cutLen_any (b e : Nat) (h : b ≤ e) (he : e ≤ 1099511627776) (w : World) (Z : Tb w) :
    Calls Tryd.prog 52 #[spn b e] w fun r w' => r = .returned (.int .i64 ((Cut.cut b e).length : Nat)) ∧ Below w.heap.size w w' := by
  obtain ⟨N, hN⟩ : ∃ N, Hid ((Cut.cut b e).length = N) := ⟨_, rfl⟩
  rw [hN.out]
  have HZ := hid Z
  have hZ := Z.lt
  have S0 := hid (Sp.new w b e)
  have B0 := hid ((Below.refl w.heap.size w).alloc (Nat.le_refl _) (.cells #[Value.int .i64 (b : Int), Value.int .i64 (e : Int)] 69))
  have hN40 : N ≤ 1099511627776 := by
    rw [← hN.out]
    have := Cut.cov_len (Cut.cut_cov he h)
    omega
  clear Z
  go_enter Tryd.func52, Tryd.ntmps52
  go_wp2
  go_loopw [3] (fun v w' => ∃ x n : Nat, v = .int .i64 (n : Int) ∧ x ≤ e ∧ Hid (n + (Cut.cut x e).length = N) ∧ Hid (Sp w' w.heap.size x e) ∧ Hid (Below w.heap.size w w')) (fun _ w' => e - memN w' w.heap.size 0)
  case atStart => exact ⟨b, 0, rfl, h, by unfold Hid; rw [hN.out, Nat.zero_add], S0, B0⟩
  case round =>
    obtain ⟨x, n, rfl, hx, hn, hS, hB⟩ := hrel
    clear S0 B0 hN
    have c0 := hS.out.c0
    have c1 := hS.out.c1
    by_cases hlt : x < e
    · have b0 : (x : Int) < (e : Int) := by omega
      have h1 := firstLevel_any x e hlt he wr.drew (HZ.out.below hB.out.drew hZ)
      have hc := Cut.cut_cons he hlt
      have hg := Cut.lev_grow he hlt
      have hf := (Cut.grow_facts he hlt).2.2.1
      have hf1 := (Cut.grow_facts he hlt).2.2.2.1
      rw [hg] at hc hf hf1
      have hl40 := Cut.lev_le he hlt
      have hn1 : Hid (n + 1 + (Cut.cut (x + 2 ^ Cut.lev x e) e).length = N) := by
        have := hn.out
        rw [hc, List.length_cons] at this
        unfold Hid; omega
      have hw := wrap_pow (L := Cut.lev x e) (by omega)
      have hP := Nat.pow_le_pow_right (n := 2) (by omega) hl40
      rw [show (2 : Nat) ^ 40 = 1099511627776 from by decide] at hP
      generalize Cut.lev x e = l at *
      clear hc hg hn
      generalize 2 ^ l = P at *
      go_wp2
      go_region_with (first
        | ((with_reducible show wpList _ _ _ (Oper.mk _ (Op.load 69 _) _ _ _ _ :: _) _ _); go_must (refine wpList_load_row rfl 69 _ rfl w.heap.size rfl 69 _ (0, 0) _ hS.out.row Tryd.underlying69 rfl (sizeSp' _ _) ?_))
        | (go_at_call 31; refine h1.mono ?_; rintro r w2 ⟨rfl, hw2⟩; have hS2 := Sp.below (show Sp wr.drew _ _ _ from hS.out) hw2; have d0 := hS2.c0; have g0 := hS2.f0))
      all_goals go_wp2
      all_goals
        have hn2 := hn1.out
        rw [hw, show wrap64 ((x : Int) + (P : Int)) = ((x + P : Nat) : Int) by unfold wrap64; omega, show wrap64 ((n : Int) + 1) = ((n + 1 : Nat) : Int) by unfold wrap64; omega]
        have hb2 : Below w.heap.size w w2 := hB.out.trans (((Below.refl _ wr).drew.trans hw2).mono hB.out.size)
        refine ⟨⟨x + P, n + 1, rfl, hf, hn1, hid (hS2.set0 (x + P)), hid (hb2.setCell (Nat.le_refl _) (p := ⟨w.heap.size, 0, none⟩) _)⟩, ?_⟩
        rw [(hS2.set0 (x + P)).n0, hS.out.n0]
        omega
    · have b0 : ¬ (x : Int) < (e : Int) := by omega
      obtain rfl : x = e := by omega
      have en := hid (show N = n by have := hn.out; rw [Cut.cut_nil] at this; simpa using this.symm)
      go_wp2
      go_ret
      exact ⟨by rw [en.out]; rfl, hB.out⟩
end Go.Proofs.YtnnohacciikofaaDoor

namespace Go.Proofs.YtnnohacciikofaaDoor
open Go.RowKit
set_option maxRecDepth 100000 in
theorem isPlace_is (n : Int) (q : Bool) (h : decide (0 ≤ n ∧ n ≤ 1099511627776) = q) (w : World) : Calls Tryd.prog 25 #[.int .i64 n] w fun r w' => r = .returned (.bool q) ∧ w' = w := by
  by_cases h0 : 0 ≤ n
  · by_cases h1 : n ≤ 1099511627776
    · have e := hid (show q = true by rw [← h]; simp [h0, h1])
      clear h
      go_enter Tryd.func25, Tryd.ntmps25
      go_wp2
      go_ret
      exact ⟨by rw [e.out]; rfl, rfl⟩
    · have e := hid (show q = false by rw [← h]; simp [h1])
      clear h
      go_enter Tryd.func25, Tryd.ntmps25
      go_wp2
      go_ret
      exact ⟨by rw [e.out]; rfl, rfl⟩
  · have e := hid (show q = false by rw [← h]; simp [h0])
    clear h
    go_enter Tryd.func25, Tryd.ntmps25
    go_wp2
    go_ret
    exact ⟨by rw [e.out]; rfl, rfl⟩
theorem sizeRg : (Tryd.prog.info? 28).map (·.size) = some 3 := by kernel_rfl
theorem sizeRg' (a b c : Value) : (Tryd.prog.info? 28).map (·.size) = some #[a, b, c].size := sizeRg
/-- a range among the values -/
abbrev rng (b e : Int) (v : Value) : Value := .agg #[.int .i64 b, .int .i64 e, v]
/-- a range's variable -/
def Rg (w : World) (g : Nat) (b e : Int) (v : Value) : Prop := w.heap[g]? = some (.cells #[.int .i64 b, .int .i64 e, v] 28 (0, 0))
theorem Rg.row {w : World} {g : Nat} {b e : Int} {v : Value} (h : Rg w g b e v) : w.heap[g]? = some (.cells #[.int .i64 b, .int .i64 e, v] 28 (0, 0)) := h
theorem Rg.c0 {w : World} {g : Nat} {b e : Int} {v : Value} (h : Rg w g b e v) : w.cell? ⟨g, 0, none⟩ = some (.int .i64 b) := by rw [cell_of_row w g 0 _ _ _ h]; rfl
theorem Rg.c1 {w : World} {g : Nat} {b e : Int} {v : Value} (h : Rg w g b e v) : w.cell? ⟨g, 1, none⟩ = some (.int .i64 e) := by rw [cell_of_row w g 1 _ _ _ h]; rfl
theorem Rg.c2 {w : World} {g : Nat} {b e : Int} {v : Value} (h : Rg w g b e v) : w.cell? ⟨g, 2, none⟩ = some v := by rw [cell_of_row w g 2 _ _ _ h]; rfl
theorem Rg.new (w : World) (b e : Int) (v : Value) : Rg (w.alloc (.cells #[.int .i64 b, .int .i64 e, v] 28)) w.heap.size b e v := heap_alloc_new w _
theorem Rg.below {w w' : World} {g : Nat} {b e : Int} {v : Value} (h : Rg w g b e v) (hb : Below w.heap.size w w') : Rg w' g b e v := (hb.block g (lt_of_heap h)).trans h
theorem drewBelow5 {w w' : World} (h : Below w.drew.heap.size w.drew w') : Below w.heap.size w w' := (Below.refl _ w).drew.trans h
set_option maxRecDepth 100000 in
set_option maxHeartbeats 2000000 in
theorem spanOf_any (b e : Int) (v : Value) (w : World) : Calls Tryd.prog 30 #[rng b e v] w fun r w' => r = .returned (.agg #[.int .i64 b, .int .i64 e]) ∧ Below w.heap.size w w' := by
  go_enter Tryd.func30, Tryd.ntmps30
  go_wp2
  refine bodyPost_ret (v := .agg #[.int .i64 b, .int .i64 e]) (results_cell_row rfl _ _ (w.heap.size + 1) 69 _ (0, 0) _ rfl (heap_alloc_at _ _ _ (size_alloc w _)) Tryd.underlying69 rfl sizeSp) rfl ⟨rfl, ?_⟩
  exact ((Below.refl _ _).alloc (Nat.le_refl _) _).alloc (by rw [size_alloc]; omega) _
/-- F4: may a range be one, whatever its hashes are? -/
def rgt (b e : Int) (k : Nat) : Bool := decide (0 ≤ b ∧ b ≤ 1099511627776 ∧ 0 ≤ e ∧ e ≤ 1099511627776 ∧ b ≤ e ∧ k = (Cut.cut b.toNat e.toNat).length)
set_option maxRecDepth 100000 in
set_option maxHeartbeats 8000000 in
theorem isRight_any (b e : Int) (a : Option Addr) (k c : Nat) (w : World) (Z : Tb w) :
    Calls Tryd.prog 28 #[rng b e (.slice a k c)] w fun r w' => r = .returned (.bool (rgt b e k)) ∧ Below w.heap.size w w' := by
  have B1 := hid ((Below.refl w.heap.size w).alloc (Nat.le_refl _) (.cells #[Value.int .i64 b, .int .i64 e, .slice a k c] 28))
  have R1 := hid (Rg.new w b e (.slice a k c))
  have c0 := R1.out.c0
  have c1 := R1.out.c1
  have c2 := R1.out.c2
  have HZ := hid Z
  have hZ := Z.lt
  clear Z
  by_cases h1 : 0 ≤ b ∧ b ≤ 1099511627776
  · have i1 := isPlace_is b true (by simpa using h1)
    by_cases h2 : 0 ≤ e ∧ e ≤ 1099511627776
    · have i2 := isPlace_is e true (by simpa using h2)
      by_cases h3 : b ≤ e
      · obtain ⟨b, rfl⟩ := Int.eq_ofNat_of_zero_le h1.1
        obtain ⟨e, rfl⟩ := Int.eq_ofNat_of_zero_le h2.1
        have i3 := fun w' => spanOf_any (b : Int) (e : Int) (.slice a k c) w'
        have i4 := fun w' hb => cutLen_any b e (by omega) (by omega) w' (HZ.out.below hb hZ)
        have d3 : decide ((b : Int) ≤ (e : Int)) = true := by simp; omega
        obtain ⟨N, hN⟩ : ∃ N, Hid ((Cut.cut b e).length = N) := ⟨_, rfl⟩
        rw [hN.out] at i4
        obtain ⟨q, hq⟩ : ∃ q : Bool, Hid (((k : Int) == (N : Int)) = q) := ⟨_, rfl⟩
        have er := hid (show rgt (b : Int) (e : Int) k = q by
          rw [← hq.out, ← hN.out]
          unfold rgt
          simp only [Int.toNat_natCast]
          rw [Bool.eq_iff_iff]
          simp
          omega)
        rw [er.out]
        have hq2 : ((k : Int) == (N : Int)) = q := hq.out
        clear h1 h2 er hN
        go_enter Tryd.func28, Tryd.ntmps28
        go_wp2
        generalize w.alloc (.cells #[Value.int .i64 (b : Int), .int .i64 (e : Int), .slice a k c] 28) = w1 at *
        go_region_held3 (fun w' => w'.cell? ⟨w.heap.size, 0, none⟩ = some (.int .i64 (b : Int)) ∧ w'.cell? ⟨w.heap.size, 1, none⟩ = some (.int .i64 (e : Int)) ∧ w'.cell? ⟨w.heap.size, 2, none⟩ = some (.slice a k c)) (first | exact x4 | exact x3 | exact ⟨c0, c1, c2⟩) (first
          | (go_at_call 25; (with_reducible refine (i1 _).mono ?_); rintro r w2 ⟨rfl, rfl⟩)
          | (go_at_call 25; (with_reducible refine (i2 _).mono ?_); rintro r w2 ⟨rfl, rfl⟩)
          | (go_at_call 30; refine (i3 _).mono ?_; rintro r w3 ⟨rfl, hw3⟩; have B3 := hid (B1.out.trans ((drewBelow5 hw3).mono B1.out.size)); have R3 := R1.out.below (drewBelow5 hw3); have x3 := And.intro R3.c0 (And.intro R3.c1 R3.c2))
          | (go_at_call 52; refine (i4 _ B3.out).mono ?_; rintro r w4 ⟨rfl, hw4⟩; have R4 := R3.below hw4; have B4 := hid (B3.out.trans (hw4.mono B3.out.size)); have x4 := And.intro R4.c0 (And.intro R4.c1 R4.c2)))
        go_wp2
        go_ret
        exact ⟨rfl, B4.out⟩
      · have d3 : decide (b ≤ e) = false := by simpa using h3
        have er := hid (show rgt b e k = false by unfold rgt; simp; omega)
        rw [er.out]
        clear er
        clear h1 h2 h3
        go_enter Tryd.func28, Tryd.ntmps28
        go_wp2
        generalize w.alloc (.cells #[Value.int .i64 b, .int .i64 e, .slice a k c] 28) = w1 at *
        go_quiet (first
          | (go_at_call 25; (with_reducible exact Calls.quiet_of_same (i1 _)))
          | (go_at_call 25; (with_reducible exact Calls.quiet_of_same (i2 _))))
        go_wp2
        go_ret
        exact ⟨rfl, by first | exact B1.out | exact B1.out.drew | exact below_drewN B1.out _⟩
    · have i2 := isPlace_is e false (by simpa using h2)
      have er := hid (show rgt b e k = false by unfold rgt; simp; omega)
      rw [er.out]
      clear er
      clear h1 h2
      go_enter Tryd.func28, Tryd.ntmps28
      go_wp2
      generalize w.alloc (.cells #[Value.int .i64 b, .int .i64 e, .slice a k c] 28) = w1 at *
      go_quiet (first
        | (go_at_call 25; (with_reducible exact Calls.quiet_of_same (i1 _)))
        | (go_at_call 25; (with_reducible exact Calls.quiet_of_same (i2 _))))
      go_wp2
      go_ret
      exact ⟨rfl, by first | exact B1.out | exact B1.out.drew | exact below_drewN B1.out _⟩
  · have i1 := isPlace_is b false (by simpa using h1)
    have er := hid (show rgt b e k = false by unfold rgt; simp; omega)
    rw [er.out]
    clear er
    clear h1
    go_enter Tryd.func28, Tryd.ntmps28
    go_wp2
    generalize w.alloc (.cells #[Value.int .i64 b, .int .i64 e, .slice a k c] 28) = w1 at *
    go_quiet (first
      | (go_at_call 25; (with_reducible exact Calls.quiet_of_same (i1 _))))
    go_wp2
    go_ret
    exact ⟨rfl, by first | exact B1.out | exact B1.out.drew | exact below_drewN B1.out _⟩
end Go.Proofs.YtnnohacciikofaaDoor

namespace Go.Proofs.YtnnohacciikofaaDoor
open Go.RowKit

def sliceLen : Value → Nat
  | .slice _ n _ => n
  | _ => 0

set_option maxRecDepth 100000 in
set_option maxHeartbeats 400000 in
theorem filled_any (s : ByteArray) (hs : s.size ≤ 140737488355000) (w : World) :
    Calls Tryd.prog 80 #[.string s] w fun e w' => e = .returned (sv (s.data.toList ++ Sha.filling s.size)) ∧ Below w.heap.size w w' := by
  obtain ⟨v0, w0, hc0, hown0, hb0⟩ := conv_bytes w s (by rw [maxLen]; omega)
  obtain ⟨a0, cap0, rfl⟩ := hown0.shape
  have hb0s := hb0.size
  obtain ⟨v1, w1, hc1, hown1, hg1, _⟩ := append_new w0 w.heap.size _ s.data.toList [128] 1 #[.int .u8 128] rfl rfl hown0 (by rw [data_length]; omega) hb0s (by omega)
  have hb1 : Below w.heap.size w w1 := hb0.trans (Below.ofGrown hg1 hown0.ge hb0s)
  rw [bv_length, data_length] at hc0 hc1
  obtain ⟨z, hz⟩ : ∃ z, z = (119 - s.size % 64) % 64 := ⟨_, rfl⟩
  have Hz := hid hz
  have Hown1 := hid hown1
  have Hb1 := hid hb1
  clear hz hown0 hown1 hb0 hb1 hg1 hb0s
  generalize hn : s.size = n at *
  have hs' : (n : Int) ≤ 140737488355000 := by omega
  go_enter Tryd.func80, Tryd.ntmps80
  go_wp2_with (at_builtin; go_must (refine Lib.wpList_append_run _ rfl _ _ 89 89 rfl _ _ rfl rfl _ _ hc1 ?_))
  have hz64 : z < 64 := by have := Hz.out; omega
  have e1 : (bv (s.data.toList ++ [128])).length = n + 1 := by simp [hn]
  obtain ⟨a1, cap1, hv1⟩ := Hown1.out.shape
  rw [e1] at hv1
  subst hv1
  clear e1
  go_loopw [4] (fun v w' => ∃ (k : Nat) (a : Option Addr) (cap : Nat), v = .slice a (n + 1 + k) cap ∧ k ≤ z ∧ OwnB w' w.heap.size (.slice a (n + 1 + k) cap) (s.data.toList ++ 128 :: List.replicate k 0) ∧ Below w.heap.size w w') (fun v _ => n + 1 + z - sliceLen v)
  case atStart =>
    exact ⟨0, a1, cap1, rfl, by omega, Hown1.out, Hb1.out⟩
  case round =>
    obtain ⟨k, a, cap, rfl, hk, hown, hb⟩ := hrel
    have Hown := hid hown
    have Hb := hid hb
    have hbs := hb.size
    by_cases hlt : k < z
    · have g1 : (((n + 1 + k : Nat) : Int) % 64 != 56) = true := by have := Hz.out; simp; omega
      obtain ⟨v2, w2, hc2, hown2, hg2, _⟩ := append_new wr w.heap.size _ _ [0] 1 #[.int .u8 0] rfl rfl hown (by simp; omega) hbs (by omega)
      have e2 : (s.data.toList ++ 128 :: List.replicate k 0) ++ [0] = s.data.toList ++ 128 :: List.replicate (k + 1) 0 := by rw [List.replicate_succ']; simp
      rw [e2] at hown2
      have e3 : (bv (s.data.toList ++ 128 :: List.replicate (k + 1) 0)).length = n + 1 + (k + 1) := by simp [hn]; omega
      obtain ⟨a2, cap2, hv2⟩ := hown2.shape
      rw [e3] at hv2
      subst hv2
      clear e2 e3
      have Hown2 := hid hown2
      have Hb2 := hid (hb.trans (Below.ofGrown hg2 hown.ge hbs))
      clear hown hb hown2 hg2
      go_wp2_with (at_builtin; go_must (refine Lib.wpList_append_run _ rfl _ _ 89 89 rfl _ _ rfl rfl _ _ hc2 ?_))
      exact ⟨⟨k + 1, a2, cap2, rfl, by omega, Hown2.out, Hb2.out⟩, by simp [sliceLen]; omega⟩
    · obtain rfl : k = z := by omega
      have g1 : (((n + 1 + k : Nat) : Int) % 64 != 56) = false := by have := Hz.out; simp; omega
      clear hb
      have hcv : (convert 89 9 (.slice a (n + 1 + k) cap)).run Tryd.prog wr.drew = .ok (sv (s.data.toList ++ 128 :: List.replicate k 0)) wr.drew := conv_own hown.drew (by intro e; injection e; omega)
      have hw8 : IntKind.i64.wrap (8 * (n : Int)) = 8 * (n : Int) := wrap_small _ (by omega) (by omega)
      clear hown
      have hadd := add_sv Tryd.prog 9 (s.data.toList ++ 128 :: List.replicate k 0) (Sha.be (8 * n) 8) (by simp [Sha.be_length]; omega)
      go_wp2
      go_region_with (go_at_call 83; refine (big8 (8 * n) _ (by omega) _).mono ?_; rintro e w5 ⟨rfl, hw5⟩; go_must (have hcv5 := conv_own (Hown.out.drew.below hw5 (Nat.le_refl _)) (by intro e; injection e; omega)))
      all_goals go_wp2
      all_goals go_ret
      all_goals refine ⟨?_, Hb.out.drew.trans (hw5.mono hbs)⟩
      all_goals show Ending.returned (sv _) = _
      all_goals rw [Sha.filling, ← Hz.out]
end Go.Proofs.YtnnohacciikofaaDoor
