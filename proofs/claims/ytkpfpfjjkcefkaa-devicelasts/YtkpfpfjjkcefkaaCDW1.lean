import Derived.Test.YtkpfpfjjkcefkaaCDV9
namespace Go.Proofs.Ytkpfpfjjkcefkaa
open Go.RowKit Go.Maps

set_option maxRecDepth 100000 in
set_option maxHeartbeats 400000 in
theorem pick_any (c n : Int) (hc1 : -9223372036854775808 ≤ c) (hc2 : c ≤ 9223372036854775807) (hn : 0 < n) (hn2 : n ≤ 9223372036854775807) (w : World) :
    Calls Try.prog 9 #[.int .i64 c, .int .i64 n] w fun e w' => e = .returned (.int .i64 (pk c n)) ∧ w' = w := by
  have hp0 := pk_nonneg c n hn
  have hp1 := pk_lt c n hn
  have hn0 : ¬ n = 0 := by omega
  by_cases h : c < 0
  · have e1 : IntKind.i64.wrap (c + 1) = c + 1 := by rw [IntKind.wrap_i64]; omega
    have e2 : IntKind.i64.wrap (-(c + 1)) = -(c + 1) := by rw [IntKind.wrap_i64]; omega
    have e3 : Int.tmod (-(c + 1)) n = pk c n := by rw [Int.tmod_eq_emod_of_nonneg (by omega), pk, if_pos h]
    have e4 : IntKind.i64.wrap (pk c n) = pk c n := wrap_small _ (by omega) (by omega)
    go_enter Try.func9, Try.ntmps9
    go_wp2
    go_ret
    exact ⟨rfl, rfl⟩
  · have e3 : Int.tmod c n = pk c n := by rw [Int.tmod_eq_emod_of_nonneg (by omega), pk, if_neg h]
    have e4 : IntKind.i64.wrap (pk c n) = pk c n := wrap_small _ (by omega) (by omega)
    go_enter Try.func9, Try.ntmps9
    go_wp2
    go_ret
    exact ⟨rfl, rfl⟩
set_option maxRecDepth 100000 in
set_option maxHeartbeats 400000 in
theorem same_yes (l : List (List UInt8)) (a d : Option Addr) (ca cd : Nat) (w : World) (ha : At w a l) (hd : At w d l) (hll : l.length ≤ 9223372036854775807) :
    Calls Try.prog 15 #[.slice a l.length ca, .slice d l.length cd] w fun e w' => e = .returned (.bool true) ∧ Below w.heap.size w w' ∧ w'.heap = w.heap := by
  have Ha := hid ha
  have Hd := hid hd
  clear ha hd
  go_enter Try.func15, Try.ntmps15
  go_wp2
  go_loopw [5] (fun i w' => ∃ k : Nat, k ≤ l.length ∧ i = .int .i64 k ∧ Hid (Below w.heap.size w w' ∧ w'.heap = w.heap)) (fun i _ => l.length - (RowKit.intOf i).toNat)
  case atStart => exact ⟨0, by omega, rfl, hid ⟨Below.refl _ _, rfl⟩⟩
  case round =>
    obtain ⟨k, hk, rfl, hw'⟩ := hrel
    by_cases hlt : k < l.length
    · have b0 : (k : Int) < (l.length : Int) := by omega
      obtain ⟨x, rfl, xb, hx⟩ := Ha.out k l[k] (List.getElem?_eq_getElem hlt)
      rw [← hw'.out.1.cell (p := x.add k) (by rw [addr_block]; exact xb)] at hx
      clear xb
      obtain ⟨y, rfl, yb, hy⟩ := Hd.out k l[k] (List.getElem?_eq_getElem hlt)
      rw [← hw'.out.1.cell (p := y.add k) (by rw [addr_block]; exact yb)] at hy
      clear yb
      rw [svS] at hx hy
      generalize ByteArray.mk (l[k]).toArray = p at *
      have y1 : (p.toList == p.toList) = true := by simp
      have y2 : (p.toList != p.toList) = false := by simp
      go_wp2
      go_quiet (fail)
      go_wp2
      exact ⟨⟨k + 1, by omega, by go_num, hid ⟨below_drewN' hw'.out.1 _, hw'.out.2⟩⟩, by simp [RowKit.intOf]; omega⟩
    · have b0 : ¬ (k : Int) < (l.length : Int) := by omega
      go_wp2
      go_ret
      exact ⟨rfl, hw'.out.1, hw'.out.2⟩
/-- a row of bytes -/
def RowB (w : World) (H : Nat) (l : List UInt8) : Prop := w.heap[H]? = some (.cells (bv l).toArray 5 (0, 0))
theorem RowB.set {w : World} {H : Nat} {l : List UInt8} (h : RowB w H l) (k : Nat) (x : UInt8) : RowB (w.setCell ⟨H, k, none⟩ (.int .u8 (x.toNat : Int))) H (l.set k x) := by
  have e := setCell_eq_setRow w H k (bv l).toArray 5 (0, 0) (.int .u8 (x.toNat : Int)) h
  unfold RowB
  rw [e, setRow_heap _ _ _ _ _ _ h]
  refine congrArg (fun A => some (Obj.cells A 5 (0, 0))) ?_
  simp [bv, List.map_set]
/-- make([]byte, 256) -/
theorem make_page (w : World) :
    (Instr.makeSlice 45 (.int .i64 256) (.int .i64 256)).run Try.prog w = .ok (.slice (some ⟨w.heap.size, 0, none⟩) 256 256) (w.alloc (.cells (bv zp).toArray 5)) := by
  obtain ⟨i0, hi, hz0, hz1, hz2⟩ := info_parts info5'
  have h := run_make (P := Try.prog) w 45 5 i0 (.int .u8 0) Try.underlying45 hi hz0 .i64 .i64 256 256 (by omega) (by omega) (by rw [hz2]; decide) (by omega)
  rw [hz1, Nat.mul_one] at h
  have e : madeCells (Value.int .u8 0).cells (Int.toNat 256) = (bv zp).toArray := by
    apply Array.ext'
    rw [show (madeCells (Value.int .u8 0).cells (Int.toNat 256)).toList = List.replicate (Int.toNat 256) (.int .u8 0) from toList_madeCells_one _ _]
    rw [zp, bv, List.map_replicate]; rfl
  rw [e] at h
  exact h
/-- the bytes of the law's page -/
def pgb (c : Int) (i : Nat) : UInt8 := UInt8.ofNat ((c + ((i / 16 : Nat) : Int)) % 256).toNat
def pg (c : Int) : List UInt8 := (List.range 256).map (pgb c)
theorem pg_len (c : Int) : (pg c).length = 256 := by rw [pg, List.length_map, List.length_range]
theorem pg_at (c : Int) {k : Nat} (hk : k < 256) : (pg c)[k]'(by rw [pg_len]; exact hk) = pgb c k := by simp [pg]
theorem pgb_nat (c : Int) (i : Nat) : ((pgb c i).toNat : Int) = (c + ((i / 16 : Nat) : Int)) % 256 := by
  have h0 := Int.emod_nonneg (c + ((i / 16 : Nat) : Int)) (by omega : (256 : Int) ≠ 0)
  have h1 := Int.emod_lt_of_pos (c + ((i / 16 : Nat) : Int)) (by omega : (0 : Int) < 256)
  rw [pgb, UInt8.toNat_ofNat', Nat.mod_eq_of_lt (by omega)]
  omega
theorem u8_i64 (x : Int) : IntKind.u8.wrap (IntKind.i64.wrap x) = x % 256 := by
  rw [IntKind.wrap_i64]
  have e : ∀ y, IntKind.u8.wrap y = y % 256 := fun y => by simp [IntKind.wrap, IntKind.bits, IntKind.signed]
  rw [e]; omega
theorem pg_more (c : Int) {k : Nat} (hk : k < 256) : (((pg c).take k ++ List.replicate (256 - k) 0).set k (pgb c k)) = (pg c).take (k + 1) ++ List.replicate (256 - (k + 1)) 0 := by
  have hl : ((pg c).take k).length = k := by rw [List.length_take, pg_len]; omega
  rw [List.set_append_right k _ (by omega), hl, Nat.sub_self, take_snoc _ (by rw [pg_len]; exact hk), pg_at c hk, List.append_assoc]
  congr 1
  rw [show 256 - k = (256 - (k + 1)) + 1 by omega, List.replicate_succ]
  rfl
end Go.Proofs.Ytkpfpfjjkcefkaa

namespace Go.Proofs.Ytkpfpfjjkcefkaa
open Go.RowKit Go.Maps

theorem zp_row (c : Int) : zp = (pg c).take 0 ++ List.replicate (256 - 0) 0 := by rw [zp, List.take_zero, List.nil_append]
set_option maxRecDepth 100000 in
set_option maxHeartbeats 1000000 in
theorem page_any (c : Int) (w : World) :
    Calls Try.prog 10 #[.int .i64 c] w fun e w' => e = .returned (.string ⟨(pg c).toArray⟩) ∧ Below w.heap.size w w' := by
  have hmk := make_page w
  have R1 : RowB (w.alloc (.cells (bv zp).toArray 5)) w.heap.size zp := heap_alloc_new w _
  have b1 := (Below.refl w.heap.size w).alloc (Nat.le_refl _) (.cells (bv zp).toArray 5)
  obtain ⟨w1, hw1⟩ : ∃ w1, w.alloc (.cells (bv zp).toArray 5) = w1 := ⟨_, rfl⟩
  rw [hw1] at R1 b1 hmk
  rw [zp_row c] at R1
  have R1 := hid R1
  have B1 := hid b1
  obtain ⟨P, hP⟩ : ∃ P, pg c = P := ⟨_, rfl⟩
  have HM := hid (fun k (hk : k < 256) => pg_more c hk)
  rw [hP] at R1 HM ⊢
  have hPl : P.length = 256 := by rw [← hP]; exact pg_len c
  have HPL := hid hPl
  clear hw1 b1 hP hPl
  go_enter Try.func10, Try.ntmps10
  go_wp2
  go_loopw [4] (fun i w' => ∃ k : Nat, k ≤ 256 ∧ i = .int .i64 (k : Int) ∧ Hid (RowB w' w.heap.size (P.take k ++ List.replicate (256 - k) 0)) ∧ Hid (Below w.heap.size w w')) (fun i _ => 256 - (RowKit.intOf i).toNat)
  case atStart => exact ⟨0, by omega, rfl, R1, B1⟩
  case round =>
    clear R1 B1 hmk
    obtain ⟨k, hk, rfl, hR, hB⟩ := hrel
    by_cases hkm : k < 256
    · have c0 : (k : Int) < 256 := by omega
      have k0 : (0 : Int) ≤ (k : Int) := by omega
      have hlen : (P.take k ++ List.replicate (256 - k) 0).length = 256 := by rw [List.length_append, List.length_take, List.length_replicate, HPL.out]; omega
      have R2 := hR.out.set k (pgb c k)
      rw [HM.out k hkm, pgb_nat] at R2
      have B2 := hB.out.setCell (p := ⟨w.heap.size, k, none⟩) (Nat.le_refl _) (.int .u8 ((c + ((k / 16 : Nat) : Int)) % 256))
      have th := there_of_row hR.out 0 256 (by simp only [List.size_toArray, bv_length, hlen]; omega) k hkm
      rw [Nat.zero_add] at th
      obtain ⟨y, hy⟩ := Option.isSome_iff_exists.1 th.1
      have hf := th.2
      have hz : (c + ((k / 16 : Nat) : Int)) % 256 = wrap64 (c + (k : Int) / 16) % 256 := by unfold wrap64; omega
      rw [hz] at R2 B2
      have R2 := hid R2
      have B2 := hid B2
      clear hR hB hlen th hz
      go_wp2
      exact ⟨⟨k + 1, by omega, by go_num, R2, B2⟩, by simp [RowKit.intOf]; omega⟩
    · obtain rfl : k = 256 := by omega
      have hR := hR.out
      rw [Nat.sub_self, List.replicate_zero, List.append_nil, List.take_of_length_le (by rw [HPL.out]; omega)] at hR
      have hcv := run_conv_bytes (P := Try.prog) wr 45 9 5 w.heap.size 0 256 256 P HPL.out Try.underlying45 Try.underlying5 Try.underlying9 (fun j v hv => by
        rw [cell_of_row _ _ _ _ _ _ hR, Nat.zero_add]; simpa using hv)
      rw [svS] at hcv
      clear hR
      go_wp2
      go_ret
      exact ⟨rfl, hB.out⟩
end Go.Proofs.Ytkpfpfjjkcefkaa
