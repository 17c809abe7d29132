import Derived.Test.YtnecfodlhjjpcaaDoorCFR5
import Derived.Test.YtnecfodlhjjpcaaDoorCW1
import Derived.Test.YtnecfodlhjjpcaaDoorCK3
import Derived.Laws.Bits64b
import Derived.WalkMore
namespace Go.Proofs.YtnecfodlhjjpcaaDoor
open Go.RowKit
/-- the library's table of places -/
def Tz (w : World) : Prop := ∀ j, j < 64 → w.cell? ⟨1, j, none⟩ = some (.int .u8 ((Lib.deBruijn64tab.getD j 0 : Nat) : Int))
/-- all tables that this layer reads -/
structure Tb (w : World) : Prop where
  t : Tabs w
  z : Tz w
theorem Tb.lt {w : World} (h : Tb w) : 4 ≤ w.heap.size := h.t.lt
theorem Tb.below {w w' : World} {B : Nat} (h : Tb w) (hb : Below B w w') (hB : 4 ≤ B) : Tb w' :=
  ⟨h.t.below hb hB, fun j hj => (hb.cell (p := ⟨1, j, none⟩) (Nat.lt_of_lt_of_le (by simp) hB)).trans (h.z j hj)⟩
set_option maxHeartbeats 1000000 in
theorem tz64_core (x k idx : Nat) (w : World) (hx0 : ((x : Int) == 0) = false)
    (key : IntKind.u64.wrap (bits BinOp.and IntKind.u64 (x : Int) (IntKind.u64.wrap (-(x : Int))) * 285870213051353865) / 288230376151711744 = (idx : Int))
    (hi : idx < 64) (hk : k < 64) (hcell : w.cell? ⟨1, idx, none⟩ = some (.int .u8 (k : Int))) :
    Calls Tryd.prog 83 #[.int .u64 x] w fun e w' => e = .returned (.int .i64 k) ∧ w' = w := by
  go_enter Tryd.func83, Tryd.ntmps83
  go_wp2_with (simp only [key])
  go_ret
  exact ⟨rfl, rfl⟩
theorem tz64_zero (w : World) : Calls Tryd.prog 83 #[.int .u64 0] w fun e w' => e = .returned (.int .i64 64) ∧ w' = w := by
  go_enter Tryd.func83, Tryd.ntmps83
  go_wp2
  go_ret
  exact ⟨rfl, rfl⟩
theorem tz64_key' (x a : Nat) (hx : x < 18446744073709551616) (hx0 : x ≠ 0) (hlow : x &&& (18446744073709551616 - x) = a) :
    IntKind.u64.wrap (bits BinOp.and IntKind.u64 (x : Int) (IntKind.u64.wrap (-(x : Int))) * 285870213051353865) / 288230376151711744 = ((a * 285870213051353865 % 18446744073709551616 / 288230376151711744 : Nat) : Int) := by
  have e1 : IntKind.u64.wrap (-(x : Int)) = ((18446744073709551616 - x : Nat) : Int) := by rw [IntKind.wrap_u64]; omega
  rw [e1, bits_and_u64_nat x _ hx (by omega), hlow, IntKind.wrap_u64]
  omega
theorem tz64_any (x : Nat) (hx : x < 18446744073709551616) (w : World) (Z : Tz w) :
    Calls Tryd.prog 83 #[.int .u64 x] w fun e w' => e = .returned (.int .i64 (Lib.ctz 64 x : Nat)) ∧ w' = w := by
  by_cases hx0 : x = 0
  · subst hx0
    exact tz64_zero w
  · obtain ⟨hlow, hk⟩ := Lib.lowest_bit 64 x hx0 hx
    obtain ⟨hi, htab⟩ := Lib.deBruijn64_at _ hk
    have hcell := Z _ hi
    rw [htab] at hcell
    exact tz64_core x _ _ w (by simp; omega) (tz64_key' x _ hx hx0 hlow) hi hk hcell
set_option maxHeartbeats 1000000 in
theorem tz_any (x : Nat) (hx : x < 18446744073709551616) (w : World) (Z : Tz w) :
    Calls Tryd.prog 73 #[.int .u64 x] w fun e w' => e = .returned (.int .i64 (Lib.ctz 64 x : Nat)) ∧ w' = w := by
  have c64 := tz64_any x hx w Z
  have hw : IntKind.u64.wrap (x : Int) = (x : Int) := by rw [IntKind.wrap_u64]; omega
  go_enter Tryd.func73, Tryd.ntmps73
  go_wp2_with (go_at_call 83; refine c64.mono ?_; rintro e w' ⟨rfl, rfl⟩)
  go_ret
  exact ⟨rfl, rfl⟩
theorem lenU_nat (x l : Nat) (h1 : 1 ≤ x) (hx : x < 18446744073709551616) (hl : x.log2 = l) (w : World) :
    Calls Tryd.prog 72 #[.int .u64 x] w fun e w' => e = .returned (.int .i64 ((l : Int) + 1)) ∧ w' = w := by
  have := lenU_any x (by omega) (by omega) w
  rw [Int.toNat_natCast, bitLen_log x x (Nat.le_refl _) h1 hx, hl] at this
  exact this
/-- a span among the values -/
abbrev spn (b e : Nat) : Value := .agg #[.int .i64 (b : Int), .int .i64 (e : Int)]
set_option maxRecDepth 100000 in
set_option maxHeartbeats 2000000 in
theorem firstLevel_any (b e : Nat) (h : b < e) (he : e ≤ 1099511627776) (w : World) (Z : Tb w) :
    Calls Tryd.prog 49 #[spn b e] w fun r w' => r = .returned (.int .i64 (Cut.lev b e : Nat)) ∧ Below w.heap.size w w' := by
  obtain ⟨l, hl⟩ : ∃ l, (e - b).log2 = l := ⟨_, rfl⟩
  obtain ⟨c, hc⟩ : ∃ c, Lib.ctz 64 b = c := ⟨_, rfl⟩
  have e0 : (e : Int) - (b : Int) = ((e - b : Nat) : Int) := by omega
  have h1 := lenU_nat (e - b) l (by omega) (by omega) hl
  have h2 := fun w1 (hb : Below w.heap.size w w1) => tz_any b (by omega) w1 (Z.below hb Z.lt).z
  rw [hc] at h2
  have hlev := hid (show Cut.lev b e = min l c by unfold Cut.lev; rw [hl, hc])
  have hl64 : l ≤ 64 := by
    rw [← hl]
    have := (Nat.log2_lt (n := e - b) (k := 64) (by omega)).2 (by omega)
    omega
  have hc64 : c ≤ 64 := by
    rw [← hc]
    unfold Lib.ctz
    split
    · omega
    · obtain ⟨_, _, _⟩ := Lib.ctzFrom_spec 64 b (by omega) (by omega)
      omega
  have hbx := (Below.refl w.heap.size w).alloc (Nat.le_refl _) (.cells #[Value.int .i64 (b : Int), Value.int .i64 (e : Int)] 80)
  have u1 : IntKind.u64.wrap ((e - b : Nat) : Int) = ((e - b : Nat) : Int) := by rw [IntKind.wrap_u64]; omega
  have u2 : IntKind.u64.wrap (b : Int) = (b : Int) := by rw [IntKind.wrap_u64]; omega
  generalize e - b = d at *
  clear hl hc
  go_enter Tryd.func49, Tryd.ntmps49
  go_wp2_with (first
    | (go_at_call 72; refine (h1 _).mono ?_; rintro r w1 ⟨rfl, rfl⟩)
    | (go_at_call 73; refine (h2 _ hbx).mono ?_; rintro r w2 ⟨rfl, rfl⟩))
  go_ret
  exact ⟨by rw [hlev.out]; refine congrArg Ending.returned (congrArg (Value.int IntKind.i64) ?_); omega, hbx⟩
end Go.Proofs.YtnecfodlhjjpcaaDoor

namespace Go.Proofs.YtnecfodlhjjpcaaDoor
open Go.RowKit

/-- T1 -/
def spI (n : Int) : Int := (Tree.sp n.toNat : Nat)
theorem log_le {x : Nat} (h1 : 1 ≤ x) (h : x < 9223372036854775808) : x.log2 ≤ 62 := by
  have := (Nat.log2_lt (n := x) (k := 63) (by omega)).2 h
  omega
theorem wrap_pow {L : Nat} (h : L ≤ 62) : wrap64 ((2 : Int) ^ L) = ((2 ^ L : Nat) : Int) := by
  have := Nat.pow_le_pow_right (n := 2) (by decide) h
  have e : ((2 : Int) ^ L) = ((2 ^ L : Nat) : Int) := by simp
  rw [e]
  generalize 2 ^ L = x at *
  unfold wrap64
  omega
set_option maxRecDepth 100000 in
set_option maxHeartbeats 2000000 in
theorem split_any (n : Int) (h0 : -9223372036854775808 ≤ n) (h1 : n ≤ 9223372036854775807) (w : World) :
    Calls Tryd.prog 71 #[.int .i64 n] w fun e w' => e = .returned (.int .i64 (spI n)) ∧ w' = w := by
  by_cases hn : n < 2
  · go_enter Tryd.func71, Tryd.ntmps71
    go_wp2
    go_ret
    exact ⟨by rw [spI, Tree.sp_small (by omega)]; rfl, rfl⟩
  · have hb := bitLen_log _ (n - 1).toNat (Nat.le_refl _) (by omega) (by omega)
    have hL := log_le (x := (n - 1).toNat) (by omega) (by omega)
    have e := hid (show spI n = ((2 ^ (n - 1).toNat.log2 : Nat) : Int) by rw [spI, Tree.sp_eq (by omega), show n.toNat - 1 = (n - 1).toNat from by omega])
    have hc := lenU_any (n - 1) (by omega) (by omega)
    rw [hb] at hc
    clear hb
    generalize (n - 1).toNat.log2 = L at *
    go_enter Tryd.func71, Tryd.ntmps71
    go_wp2_with (go_at_call 72; refine (hc _).mono ?_; rintro e w' ⟨rfl, rfl⟩)
    go_ret
    exact ⟨by rw [e.out, ← wrap_pow hL]; rfl, rfl⟩
set_option maxRecDepth 100000 in
set_option maxHeartbeats 2000000 in
theorem rsplit_any (n : Int) (h0 : -9223372036854775808 ≤ n) (h1 : n ≤ 9223372036854775807) (w : World) :
    Calls Tryd.prog 77 #[.int .i64 n] w fun e w' => e = .returned (.int .i64 (spI n)) ∧ w' = w := by
  by_cases hn : n < 2
  · go_enter Tryd.func77, Tryd.ntmps77
    go_wp2
    go_ret
    exact ⟨by rw [spI, Tree.sp_small (by omega)]; rfl, rfl⟩
  · go_enter Tryd.func77, Tryd.ntmps77
    go_wp2
    go_loopw [3] (fun k w' => ∃ a x : Nat, Hid (2 ^ a = x) ∧ k = .int .i64 (x : Int) ∧ (x : Int) < n ∧ 0 < x ∧ w' = w) (fun k _ => n.toNat - (intOf k).toNat)
    case atStart => exact ⟨0, 1, rfl, rfl, by omega, by omega, rfl⟩
    case round =>
      obtain ⟨a, x, hx, rfl, hlt, hpos, rfl⟩ := hrel
      by_cases hk : 2 * (x : Int) < n
      · have b0 : (x : Int) < n - (x : Int) := by omega
        go_wp2
        exact ⟨⟨a + 1, 2 * x, by rw [Hid, Nat.pow_succ, hx.out, Nat.mul_comm], by go_num, by omega, by omega, trivial⟩, by simp [intOf]; omega⟩
      · have b0 : ¬ (x : Int) < n - (x : Int) := by omega
        have e := hid (show spI n = (x : Int) by rw [spI, Tree.sp_one (by omega) a (by rw [hx.out]; omega) (by rw [hx.out]; omega), hx.out])
        go_wp2
        go_ret
        exact ⟨by rw [e.out]; rfl, rfl⟩
end Go.Proofs.YtnecfodlhjjpcaaDoor

namespace Go.Proofs.YtnecfodlhjjpcaaDoor
open Go.RowKit
theorem sizeSp : (Tryd.prog.info? 80).map (·.size) = some 2 := by kernel_rfl
theorem sizeSp' (a b : Value) : (Tryd.prog.info? 80).map (·.size) = some #[a, b].size := sizeSp
/-- a span's variable -/
def Sp (w : World) (g b e : Nat) : Prop := w.heap[g]? = some (.cells #[.int .i64 (b : Int), .int .i64 (e : Int)] 80 (0, 0))
theorem Sp.row {w : World} {g b e : Nat} (h : Sp w g b e) : w.heap[g]? = some (.cells #[.int .i64 (b : Int), .int .i64 (e : Int)] 80 (0, 0)) := h
theorem Sp.c0 {w : World} {g b e : Nat} (h : Sp w g b e) : w.cell? ⟨g, 0, none⟩ = some (.int .i64 (b : Int)) := by rw [cell_of_row w g 0 _ _ _ h]; rfl
theorem Sp.c1 {w : World} {g b e : Nat} (h : Sp w g b e) : w.cell? ⟨g, 1, none⟩ = some (.int .i64 (e : Int)) := by rw [cell_of_row w g 1 _ _ _ h]; rfl
theorem Sp.below {w w' : World} {g b e : Nat} (h : Sp w g b e) (hb : Below w.heap.size w w') : Sp w' g b e := (hb.block g (lt_of_heap h)).trans h
theorem Sp.new (w : World) (b e : Nat) : Sp (w.alloc (.cells #[.int .i64 (b : Int), .int .i64 (e : Int)] 80)) w.heap.size b e := heap_alloc_new w _
theorem Sp.f0 {w : World} {g b e : Nat} (h : Sp w g b e) : w.frozen? ⟨g, 0, none⟩ = false := frozen_of_row _ _ _ _ _ h
theorem Sp.f1 {w : World} {g b e : Nat} (h : Sp w g b e) : w.frozen? ⟨g, 1, none⟩ = false := frozen_of_row _ _ _ _ _ h
theorem Sp.set0 {w : World} {g b e : Nat} (h : Sp w g b e) (b' : Nat) : Sp (w.setCell ⟨g, 0, none⟩ (.int .i64 (b' : Int))) g b' e := heap_setCell_same w g 0 _ _ _ h
theorem Sp.set1 {w : World} {g b e : Nat} (h : Sp w g b e) (e' : Nat) : Sp (w.setCell ⟨g, 1, none⟩ (.int .i64 (e' : Int))) g b e' := heap_setCell_same w g 1 _ _ _ h
/-- the number that lies there -/
def memN (w : World) (g i : Nat) : Nat := match w.cell? ⟨g, i, none⟩ with | some (.int _ n) => n.toNat | _ => 0
theorem Sp.n0 {w : World} {g b e : Nat} (h : Sp w g b e) : memN w g 0 = b := by unfold memN; rw [h.c0]; exact Int.toNat_natCast _
theorem Sp.n1 {w : World} {g b e : Nat} (h : Sp w g b e) : memN w g 1 = e := by unfold memN; rw [h.c1]; exact Int.toNat_natCast _
set_option maxRecDepth 100000 in
set_option maxHeartbeats 4000000 in
theorem cutLen_any (b e : Nat) (h : b ≤ e) (he : e ≤ 1099511627776) (w : World) (Z : Tb w) :
    Calls Tryd.prog 67 #[spn b e] w fun r w' => r = .returned (.int .i64 ((Cut.cut b e).length : Nat)) ∧ Below w.heap.size w w' := by
  obtain ⟨N, hN⟩ : ∃ N, Hid ((Cut.cut b e).length = N) := ⟨_, rfl⟩
  rw [hN.out]
  have HZ := hid Z
  have hZ := Z.lt
  have S0 := hid (Sp.new w b e)
  have B0 := hid ((Below.refl w.heap.size w).alloc (Nat.le_refl _) (.cells #[Value.int .i64 (b : Int), Value.int .i64 (e : Int)] 80))
  have hN40 : N ≤ 1099511627776 := by
    rw [← hN.out]
    have := Cut.cov_len (Cut.cut_cov he h)
    omega
  clear Z
  go_enter Tryd.func67, Tryd.ntmps67
  go_wp2
  go_loopw [3] (fun v w' => ∃ x n : Nat, v = .int .i64 (n : Int) ∧ x ≤ e ∧ Hid (n + (Cut.cut x e).length = N) ∧ Hid (Sp w' w.heap.size x e) ∧ Hid (Below w.heap.size w w')) (fun _ w' => e - memN w' w.heap.size 0)
  case atStart => exact ⟨b, 0, rfl, h, by unfold Hid; rw [hN.out, Nat.zero_add], S0, B0⟩
  case round =>
    obtain ⟨x, n, rfl, hx, hn, hS, hB⟩ := hrel
    clear S0 B0 hN
    have c0 := hS.out.c0
    have c1 := hS.out.c1
    by_cases hlt : x < e
    · have b0 : (x : Int) < (e : Int) := by omega
      have h1 := firstLevel_any x e hlt he wr.drew (HZ.out.below hB.out.drew hZ)
      have hc := Cut.cut_cons he hlt
      have hg := Cut.lev_grow he hlt
      have hf := (Cut.grow_facts he hlt).2.2.1
      have hf1 := (Cut.grow_facts he hlt).2.2.2.1
      rw [hg] at hc hf hf1
      have hl40 := Cut.lev_le he hlt
      have hn1 : Hid (n + 1 + (Cut.cut (x + 2 ^ Cut.lev x e) e).length = N) := by
        have := hn.out
        rw [hc, List.length_cons] at this
        unfold Hid; omega
      have hw := wrap_pow (L := Cut.lev x e) (by omega)
      have hP := Nat.pow_le_pow_right (n := 2) (by omega) hl40
      rw [show (2 : Nat) ^ 40 = 1099511627776 from by decide] at hP
      generalize Cut.lev x e = l at *
      clear hc hg hn
      generalize 2 ^ l = P at *
      go_wp2
      go_region_with (first
        | ((with_reducible show wpList _ _ _ (Oper.mk _ (Op.load 80 _) _ _ _ _ :: _) _ _); go_must (refine wpList_load_row rfl 80 _ rfl w.heap.size rfl 80 _ (0, 0) _ hS.out.row Tryd.underlying80 rfl (sizeSp' _ _) ?_))
        | (go_at_call 49; refine h1.mono ?_; rintro r w2 ⟨rfl, hw2⟩; have hS2 := Sp.below (show Sp wr.drew _ _ _ from hS.out) hw2; have d0 := hS2.c0; have g0 := hS2.f0))
      all_goals go_wp2
      all_goals
        have hn2 := hn1.out
        rw [hw, show wrap64 ((x : Int) + (P : Int)) = ((x + P : Nat) : Int) by unfold wrap64; omega, show wrap64 ((n : Int) + 1) = ((n + 1 : Nat) : Int) by unfold wrap64; omega]
        have hb2 : Below w.heap.size w w2 := hB.out.trans (((Below.refl _ wr).drew.trans hw2).mono hB.out.size)
        refine ⟨⟨x + P, n + 1, rfl, hf, hn1, hid (hS2.set0 (x + P)), hid (hb2.setCell (Nat.le_refl _) (p := ⟨w.heap.size, 0, none⟩) _)⟩, ?_⟩
        rw [(hS2.set0 (x + P)).n0, hS.out.n0]
        omega
    · have b0 : ¬ (x : Int) < (e : Int) := by omega
      obtain rfl : x = e := by omega
      have en := hid (show N = n by have := hn.out; rw [Cut.cut_nil] at this; simpa using this.symm)
      go_wp2
      go_ret
      exact ⟨by rw [en.out]; rfl, hB.out⟩
end Go.Proofs.YtnecfodlhjjpcaaDoor
