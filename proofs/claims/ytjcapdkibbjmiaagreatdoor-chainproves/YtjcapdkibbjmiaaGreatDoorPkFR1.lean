import Derived.Test.YtjcapdkibbjmiaaGreatDoorPkR5
import Derived.Lib.TrailingZeros
import Derived.Test.YtjcapdkibbjmiaaGreatDoorPkR1
import Derived.Laws.Bits64b
import Derived.WalkMore
import Derived.Test.YtjcapdkibbjmiaaGreatDoorPkO3
import Derived.Test.YtjcapdkibbjmiaaGreatDoorPkI1
import Derived.Laws.ResultCell
import Derived.BigQuiet
import Derived.Deep.RegionHeld3
namespace Go.Proofs.YtjcapdkibbjmiaaGreatDoor
namespace Cut
def Cov : Nat → Nat → List (Nat × Nat) → Prop
  | a, b, [] => a = b
  | a, b, (p, n) :: l => p = a ∧ (∃ k, n = 2 ^ k) ∧ a % n = 0 ∧ Cov (a + n) b l
def Free : List (Nat × Nat) → Prop
  | (p, n) :: (q, m) :: l => ¬ (n = m ∧ p % (2 * n) = 0) ∧ Free ((q, m) :: l)
  | _ => True
theorem two_pos (k : Nat) : 0 < 2 ^ k := Nat.two_pow_pos k
theorem pow_le_of_dvd {k j : Nat} (h : 2 ^ j < 2 ^ k) : j < k := (Nat.pow_lt_pow_iff_right (by omega)).1 h
theorem first : ∀ (k p e : Nat) (n : Nat) (l : List (Nat × Nat)), p % 2 ^ k = 0 → p + 2 ^ k ≤ e → Cov p e ((p, n) :: l) → Free ((p, n) :: l) → n ≤ 2 ^ k → n = 2 ^ k
  | 0, p, e, n, l, h1, h2, h3, h4, h5 => by
    obtain ⟨_, ⟨j, rfl⟩, _⟩ := h3
    have := two_pos j
    have : (2 : Nat) ^ 0 = 1 := rfl
    omega
  | k + 1, p, e, n, l, h1, h2, h3, h4, h5 => by
    obtain ⟨_, ⟨j, hj⟩, hn, hc⟩ := h3
    have e2 : 2 ^ (k + 1) = 2 * 2 ^ k := by rw [Nat.pow_succ, Nat.mul_comm]
    by_cases he : n = 2 ^ (k + 1)
    · exact he
    · exfalso
      have hk := two_pos k
      have hjk : j < k + 1 := pow_le_of_dvd (by omega)
      have hn2 : n ≤ 2 ^ k := by rw [hj]; exact Nat.pow_le_pow_right (by omega) (by omega)
      have hpk : p % 2 ^ k = 0 := Nat.mod_eq_zero_of_dvd (Nat.dvd_trans ⟨2, by rw [e2, Nat.mul_comm]⟩ (Nat.dvd_of_mod_eq_zero h1))
      have hf := first k p e n l hpk (by omega) ⟨rfl, ⟨j, hj⟩, hn, hc⟩ h4 hn2
      subst hf
      cases l with
      | nil => have : p + 2 ^ k = e := hc; omega
      | cons y l =>
        obtain ⟨q, m⟩ := y
        obtain ⟨rfl, ⟨i, hi⟩, hm, hc'⟩ := hc
        have hm2 : m ≤ 2 ^ k := by
          rcases Nat.lt_or_ge k i with hlt | hge
          · exfalso
            have hd : 2 ^ (k + 1) ∣ m := by rw [hi]; exact Nat.pow_dvd_pow 2 (by omega)
            have h7 := Nat.dvd_trans hd (Nat.dvd_of_mod_eq_zero hm)
            have h8 := (Nat.dvd_add_right (Nat.dvd_of_mod_eq_zero h1)).1 h7
            have := Nat.le_of_dvd hk h8
            omega
          · rw [hi]; exact Nat.pow_le_pow_right (by omega) hge
        have hq : (p + 2 ^ k) % 2 ^ k = 0 := by rw [Nat.add_mod_right]; exact hpk
        have hf2 := first k (p + 2 ^ k) e m l hq (by omega) ⟨rfl, ⟨i, hi⟩, hm, hc'⟩ h4.2 hm2
        exact h4.1 ⟨hf2.symm, by rw [← e2]; exact h1⟩
def grow : Nat → Nat → Nat → Nat → Nat
  | 0, n, _, _ => n
  | f + 1, n, b, e => if b % (2 * n) = 0 ∧ b + 2 * n ≤ e then grow f (2 * n) b e else n
end Cut
end Go.Proofs.YtjcapdkibbjmiaaGreatDoor

namespace Go.Proofs.YtjcapdkibbjmiaaGreatDoor
namespace Cut
open Tree
def lh (L : List T) (a : Nat) (q : Nat × Nat) : T := root ((L.drop (q.1 - a)).take q.2)
end Cut
end Go.Proofs.YtjcapdkibbjmiaaGreatDoor

namespace Go.Proofs.YtjcapdkibbjmiaaGreatDoor
namespace Cut
open Tree
inductive Der (K : List ((Nat × Nat) × T)) : Nat × Nat → T → Prop where
  | known {q : Nat × Nat} {x : T} : (q, x) ∈ K → Der K q x
  | node {p n : Nat} {x y : T} : Der K (p, n) x → Der K (p + n, n) y → (∀ z, ((p, 2 * n), z) ∉ K) → Der K (p, 2 * n) (nd x y)
end Cut
end Go.Proofs.YtjcapdkibbjmiaaGreatDoor

namespace Go.Proofs.YtjcapdkibbjmiaaGreatDoor
open Go.RowKit
def Tz (w : World) : Prop := ∀ j, j < 64 → w.cell? ⟨1, j, none⟩ = some (.int .u8 ((Lib.deBruijn64tab.getD j 0 : Nat) : Int))
structure Tb (w : World) : Prop where
  t : Tabs w
  z : Tz w
theorem Tb.lt {w : World} (h : Tb w) : 4 ≤ w.heap.size := h.t.lt
theorem Tb.below {w w' : World} {B : Nat} (h : Tb w) (hb : Below B w w') (hB : 4 ≤ B) : Tb w' :=
  ⟨h.t.below hb hB, fun j hj => (hb.cell (p := ⟨1, j, none⟩) (Nat.lt_of_lt_of_le (by simp) hB)).trans (h.z j hj)⟩
set_option maxHeartbeats 1000000 in
theorem tz64_core (x k idx : Nat) (w : World) (hx0 : ((x : Int) == 0) = false)
    (key : IntKind.u64.wrap (bits BinOp.and IntKind.u64 (x : Int) (IntKind.u64.wrap (-(x : Int))) * 285870213051353865) / 288230376151711744 = (idx : Int))
    (hi : idx < 64) (hk : k < 64) (hcell : w.cell? ⟨1, idx, none⟩ = some (.int .u8 (k : Int))) :
    Calls Tryz.prog 88 #[.int .u64 x] w fun e w' => e = .returned (.int .i64 k) ∧ w' = w := by
  go_enter Tryz.func88, Tryz.ntmps88
  go_wp2_with (simp only [key])
  go_ret
  exact ⟨rfl, rfl⟩
theorem tz64_zero (w : World) : Calls Tryz.prog 88 #[.int .u64 0] w fun e w' => e = .returned (.int .i64 64) ∧ w' = w := by
  go_enter Tryz.func88, Tryz.ntmps88
  go_wp2
  go_ret
  exact ⟨rfl, rfl⟩
theorem tz64_key' (x a : Nat) (hx : x < 18446744073709551616) (hx0 : x ≠ 0) (hlow : x &&& (18446744073709551616 - x) = a) :
    IntKind.u64.wrap (bits BinOp.and IntKind.u64 (x : Int) (IntKind.u64.wrap (-(x : Int))) * 285870213051353865) / 288230376151711744 = ((a * 285870213051353865 % 18446744073709551616 / 288230376151711744 : Nat) : Int) := by
  have e1 : IntKind.u64.wrap (-(x : Int)) = ((18446744073709551616 - x : Nat) : Int) := by rw [IntKind.wrap_u64]; omega
  rw [e1, bits_and_u64_nat x _ hx (by omega), hlow, IntKind.wrap_u64]
  omega
theorem tz64_any (x : Nat) (hx : x < 18446744073709551616) (w : World) (Z : Tz w) :
    Calls Tryz.prog 88 #[.int .u64 x] w fun e w' => e = .returned (.int .i64 (Lib.ctz 64 x : Nat)) ∧ w' = w := by
  by_cases hx0 : x = 0
  · subst hx0
    exact tz64_zero w
  · obtain ⟨hlow, hk⟩ := Lib.lowest_bit 64 x hx0 hx
    obtain ⟨hi, htab⟩ := Lib.deBruijn64_at _ hk
    have hcell := Z _ hi
    rw [htab] at hcell
    exact tz64_core x _ _ w (by simp; omega) (tz64_key' x _ hx hx0 hlow) hi hk hcell
set_option maxHeartbeats 1000000 in
theorem tz_any (x : Nat) (hx : x < 18446744073709551616) (w : World) (Z : Tz w) :
    Calls Tryz.prog 63 #[.int .u64 x] w fun e w' => e = .returned (.int .i64 (Lib.ctz 64 x : Nat)) ∧ w' = w := by
  have c64 := tz64_any x hx w Z
  have hw : IntKind.u64.wrap (x : Int) = (x : Int) := by rw [IntKind.wrap_u64]; omega
  go_enter Tryz.func63, Tryz.ntmps63
  go_wp2_with (go_at_call 88; refine c64.mono ?_; rintro e w' ⟨rfl, rfl⟩)
  go_ret
  exact ⟨rfl, rfl⟩
theorem lenU_nat (x l : Nat) (h1 : 1 ≤ x) (hx : x < 18446744073709551616) (hl : x.log2 = l) (w : World) :
    Calls Tryz.prog 109 #[.int .u64 x] w fun e w' => e = .returned (.int .i64 ((l : Int) + 1)) ∧ w' = w := by
  have := lenU_any x (by omega) (by omega) w
  rw [Int.toNat_natCast, bitLen_log x x (Nat.le_refl _) h1 hx, hl] at this
  exact this
abbrev spn (b e : Nat) : Value := .agg #[.int .i64 (b : Int), .int .i64 (e : Int)]
end Go.Proofs.YtjcapdkibbjmiaaGreatDoor

namespace Go.Proofs.YtjcapdkibbjmiaaGreatDoor
open Go.RowKit
def memN (w : World) (g i : Nat) : Nat := match w.cell? ⟨g, i, none⟩ with | some (.int _ n) => n.toNat | _ => 0
end Go.Proofs.YtjcapdkibbjmiaaGreatDoor

namespace Go.Proofs.YtjcapdkibbjmiaaGreatDoor
open Go.RowKit
theorem results_row_row {P : Program} {fn : Func} {p u : Tmp} {ty tu : TypeId} (h : fn.results = #[.cell p ty, .cell u tu]) (tmps : Array Value) (w : World) (g g' : Nat) (t t' : TypeId) (cs cs' : Array Value) (fr fr' : Nat × Nat) (d d' : TypeDesc)
    (hp : tmps.getD p undef = .pointer (some ⟨g, 0, none⟩)) (hg : w.heap[g]? = some (.cells cs t fr))
    (hu : P.underlying ty = some d) (hd : (match d with | .struct _ | .array _ _ => true | _ => false) = true) (hi : (P.info? ty).map (·.size) = some cs.size)
    (hp' : tmps.getD u undef = .pointer (some ⟨g', 0, none⟩)) (hg' : w.heap[g']? = some (.cells cs' t' fr'))
    (hu' : P.underlying tu = some d') (hd' : (match d' with | .struct _ | .array _ _ => true | _ => false) = true) (hi' : (P.info? tu).map (·.size) = some cs'.size) :
    (results fn tmps).run P w = .ok (.tuple #[.agg cs, .agg cs']) w := by
  have q : tmps[p]?.getD undef = .pointer (some ⟨g, 0, none⟩) := by simpa using hp
  have q' : tmps[u]?.getD undef = .pointer (some ⟨g', 0, none⟩) := by simpa using hp'
  simp only [results, h]
  simp [Sem.run_bind, Result.andThen, q, q', asAddr, run_loadVar_row w g t ty cs fr d hg hu hd hi, run_loadVar_row w g' t' tu cs' fr' d' hg' hu' hd' hi']
abbrev sg (b e : Int) : Value := .agg #[.int .i64 b, .int .i64 e]
def SpI (w : World) (g : Nat) (b e : Int) : Prop := w.heap[g]? = some (.cells #[.int .i64 b, .int .i64 e] 60 (0, 0))
theorem SpI.c0 {w : World} {g : Nat} {b e : Int} (h : SpI w g b e) : w.cell? ⟨g, 0, none⟩ = some (.int .i64 b) := by rw [cell_of_row w g 0 _ _ _ h]; rfl
theorem SpI.c1 {w : World} {g : Nat} {b e : Int} (h : SpI w g b e) : w.cell? ⟨g, 1, none⟩ = some (.int .i64 e) := by rw [cell_of_row w g 1 _ _ _ h]; rfl
theorem SpI.f0 {w : World} {g : Nat} {b e : Int} (h : SpI w g b e) : w.frozen? ⟨g, 0, none⟩ = false := frozen_of_row _ _ _ _ _ h
theorem SpI.f1 {w : World} {g : Nat} {b e : Int} (h : SpI w g b e) : w.frozen? ⟨g, 1, none⟩ = false := frozen_of_row _ _ _ _ _ h
theorem SpI.new (w : World) (b e : Int) : SpI (w.alloc (.cells #[.int .i64 b, .int .i64 e] 60)) w.heap.size b e := heap_alloc_new w _
theorem SpI.below {w w' : World} {g : Nat} {b e : Int} (h : SpI w g b e) (hb : Below w.heap.size w w') : SpI w' g b e := (hb.block g (lt_of_heap h)).trans h
theorem SpI.keep {w w' : World} {g : Nat} {b e : Int} {S : Nat → Prop} (h : SpI w g b e) (hb : Keep S w w') (hs : ¬ S g) : SpI w' g b e := (hb.block g (lt_of_heap h) hs).trans h
set_option maxRecDepth 100000 in
theorem isSize_is (n : Int) (q : Bool) (h : decide (1 ≤ n ∧ n ≤ 1099511627776) = q) (w : World) : Calls Tryz.prog 118 #[.int .i64 n] w fun r w' => r = .returned (.bool q) ∧ w' = w := by
  by_cases h0 : 1 ≤ n
  · by_cases h1 : n ≤ 1099511627776
    · have e := hid (show q = true by rw [← h]; simp [h0, h1])
      clear h
      go_enter Tryz.func118, Tryz.ntmps118
      go_wp2
      go_ret
      exact ⟨by rw [e.out]; rfl, rfl⟩
    · have e := hid (show q = false by rw [← h]; simp [h1])
      clear h
      go_enter Tryz.func118, Tryz.ntmps118
      go_wp2
      go_ret
      exact ⟨by rw [e.out]; rfl, rfl⟩
  · have e := hid (show q = false by rw [← h]; simp [h0])
    clear h
    go_enter Tryz.func118, Tryz.ntmps118
    go_wp2
    go_ret
    exact ⟨by rw [e.out]; rfl, rfl⟩
set_option maxRecDepth 100000 in
theorem isLeaf8_is (n i : Int) (q : Bool) (h : decide (0 ≤ i ∧ i < n) = q) (w : World) : Calls Tryz.prog 142 #[.int .i64 n, .int .i64 i] w fun r w' => r = .returned (.bool q) ∧ w' = w := by
  by_cases h0 : 0 ≤ i
  · by_cases h1 : i < n
    · have e := hid (show q = true by rw [← h]; simp [h0, h1])
      clear h
      go_enter Tryz.func142, Tryz.ntmps142
      go_wp2
      go_ret
      exact ⟨by rw [e.out]; rfl, rfl⟩
    · have e := hid (show q = false by rw [← h]; simp [h1])
      clear h
      go_enter Tryz.func142, Tryz.ntmps142
      go_wp2
      go_ret
      exact ⟨by rw [e.out]; rfl, rfl⟩
  · have e := hid (show q = false by rw [← h]; simp [h0])
    clear h
    go_enter Tryz.func142, Tryz.ntmps142
    go_wp2
    go_ret
    exact ⟨by rw [e.out]; rfl, rfl⟩
set_option maxRecDepth 100000 in
theorem slen_any (b e n : Int) (h : wrap64 (e - b) = n) (w : World) : Calls Tryz.prog 139 #[sg b e] w fun r w' => r = .returned (.int .i64 n) ∧ Below w.heap.size w w' := by
  have S0 := SpI.new w b e
  have c0 := S0.c0
  have c1 := S0.c1
  go_enter Tryz.func139, Tryz.ntmps139
  go_wp2
  go_ret
  exact ⟨by rw [← h]; rfl, (Below.refl _ _).alloc (Nat.le_refl _) _⟩
theorem slen_nat (b e : Nat) (hb : b ≤ e) (he : e ≤ 1099511627776) (w : World) : Calls Tryz.prog 139 #[sg b e] w fun r w' => r = .returned (.int .i64 ((e - b : Nat) : Int)) ∧ Below w.heap.size w w' :=
  slen_any b e _ (by unfold wrap64; omega) w
end Go.Proofs.YtjcapdkibbjmiaaGreatDoor

namespace Go.Proofs.YtjcapdkibbjmiaaGreatDoor
open Go.RowKit
theorem drewBelow8 {w w' : World} (h : Below w.drew.heap.size w.drew w') : Below w.heap.size w w' := (Below.refl _ w).drew.trans h
theorem sizeSp8 : (Tryz.prog.info? 60).map (·.size) = some 2 := by kernel_rfl
theorem SpI.two {w : World} {g : Nat} {b e : Int} (h : SpI w g b e) (b' e' : Int) : SpI ((w.setCell ⟨g, 0, none⟩ (.int .i64 b')).setCell ⟨g, 1, none⟩ (.int .i64 e')) g b' e' :=
  heap_setCell_same _ g 1 _ _ _ (heap_setCell_same w g 0 _ _ _ h)
theorem SpI.far {w : World} {g : Nat} {b e : Int} (h : SpI w g b e) (k o : Nat) (v : Value) (hk : g ≠ k) : SpI (w.setCell ⟨k, o, none⟩ v) g b e :=
  (Below.heap_setCell w _ v g hk).trans h
set_option maxRecDepth 100000 in
set_option maxHeartbeats 4000000 in
theorem parts_at (b e m : Nat) (h2 : 2 ≤ e - b) (he : e ≤ 1099511627776) (hm : Hid (m = b + Tree.sp (e - b))) (w : World) :
    Calls Tryz.prog 141 #[sg b e] w fun r w' => r = .returned (.tuple #[sg b m, sg m e]) ∧ Below w.heap.size w w' := by
  have hb := bitLen_log _ ((((e - b : Nat) : Int) - 1).toNat) (Nat.le_refl _) (by omega) (by omega)
  have hL := log_le (x := (((e - b : Nat) : Int) - 1).toNat) (by omega) (by omega)
  have hc := lenU_any (((e - b : Nat) : Int) - 1) (by omega) (by omega)
  have hm2 : Hid (m = b + 2 ^ (((e - b : Nat) : Int) - 1).toNat.log2) := by
    unfold Hid
    rw [hm.out, Tree.sp_eq (by omega), show e - b - 1 = (((e - b : Nat) : Int) - 1).toNat from by omega]
  have hme : m < e := by rw [hm.out]; have := Tree.sp_lt (n := e - b) h2; omega
  rw [hb] at hc
  clear hb
  generalize (((e - b : Nat) : Int) - 1).toNat.log2 = L at *
  have hw1 : IntKind.i64.wrap (((e - b : Nat) : Int) - 1) = ((e - b : Nat) : Int) - 1 := by rw [IntKind.wrap_i64]; omega
  have hw2 : IntKind.u64.wrap (((e - b : Nat) : Int) - 1) = ((e - b : Nat) : Int) - 1 := by rw [IntKind.wrap_u64]; omega
  have hp := wrap_pow hL
  obtain ⟨N, hN⟩ : ∃ N : Nat, Hid (2 ^ L = N) := ⟨_, rfl⟩
  rw [hN.out] at hp hm2
  have hN1 : (2 : Int) ^ L = (N : Int) := by rw [← hN.out]; simp
  have hN2 : IntKind.i64.wrap (N : Int) = (N : Int) := by rw [IntKind.wrap_i64]; have := hm2.out; omega
  have hL1 : IntKind.i64.wrap (L : Int) = (L : Int) := by rw [IntKind.wrap_i64]; omega
  have hL2 : (L : Int) ≤ 64 := by omega
  have hL3 : (0 : Int) ≤ (L : Int) := by omega
  have hadd : IntKind.i64.wrap ((b : Int) + (N : Int)) = (m : Int) := by rw [hm2.out, IntKind.wrap_i64]; have := hm2.out; omega
  clear hp
  have i1 := fun w' => slen_nat b e (by omega) he w'
  obtain ⟨n, hn⟩ : ∃ n, Hid (e - b = n) := ⟨_, rfl⟩
  rw [hn.out] at hc hw1 hw2 i1
  have S0 := SpI.new w b e
  have B0 := (Below.refl w.heap.size w).alloc (Nat.le_refl _) (.cells #[Value.int .i64 (b : Int), .int .i64 (e : Int)] 60)
  go_enter Tryz.func141, Tryz.ntmps141
  go_wp2
  obtain ⟨w3, hw3⟩ : ∃ w3, Hid ((((w.alloc (.cells #[.int .i64 (b : Int), .int .i64 (e : Int)] 60)).alloc (.cells #[.int .i64 0, .int .i64 0] 60)).alloc (.cells #[.int .i64 0, .int .i64 0] 60)) = w3) := ⟨_, rfl⟩
  rw [hw3.out]
  have B3 : Hid (Below w.heap.size w w3) := by unfold Hid; rw [← hw3.out]; exact (B0.alloc (by rw [size_alloc]; omega) _).alloc (by rw [size_alloc, size_alloc]; omega) _
  have z3 : Hid (w3.heap.size = w.heap.size + 3) := by unfold Hid; rw [← hw3.out]; simp
  have R0 : Hid (SpI w3 w.heap.size b e) := by unfold Hid; rw [← hw3.out]; exact (S0.below ((Below.refl _ _).alloc (Nat.le_refl _) _)).below ((Below.refl _ _).alloc (Nat.le_refl _) _)
  have R1 : Hid (SpI w3 (w.heap.size + 1) 0 0) := by
    unfold Hid; rw [← hw3.out]
    have := SpI.new (w.alloc (.cells #[.int .i64 (b : Int), .int .i64 (e : Int)] 60)) 0 0
    rw [size_alloc] at this
    exact this.below ((Below.refl _ _).alloc (Nat.le_refl _) _)
  have R2 : Hid (SpI w3 (w.heap.size + 1 + 1) 0 0) := by
    unfold Hid; rw [← hw3.out]
    have := SpI.new ((w.alloc (.cells #[.int .i64 (b : Int), .int .i64 (e : Int)] 60)).alloc (.cells #[.int .i64 0, .int .i64 0] 60)) 0 0
    rw [size_alloc, size_alloc] at this
    exact this
  clear hw3 S0 B0
  have x0 := And.intro R0.out.c0 R0.out.c1
  go_region_held3 (fun w' => w'.cell? ⟨w.heap.size, 0, none⟩ = some (.int .i64 (b : Int)) ∧ w'.cell? ⟨w.heap.size, 1, none⟩ = some (.int .i64 (e : Int))) (first | exact x4 | exact x0) (first
    | (go_at_call 139; refine (i1 _).mono ?_; rintro r w4 ⟨rfl, h4⟩; have B4 := hid (drewBelow8 h4); have R4 := R0.out.below B4.out; have x4 := And.intro R4.c0 R4.c1)
    | (go_at_call 109; refine (hc _).mono ?_; rintro r w5 ⟨rfl, rfl⟩))
  go_wp2
  have B5 := hid (B3.out.trans (B4.out.mono B3.out.size))
  have T0 := hid (R0.out.below B4.out)
  have T1 := hid (R1.out.below B4.out)
  have T2 := hid (R2.out.below B4.out)
  clear R0 R1 R2 R4 x0 x4 B3 B4 z3
  have y0 := And.intro T0.out.c0 T0.out.c1
  have p1 : w5.drew.cell? ⟨w.heap.size + 1, 0, none⟩ = some (.int .i64 0) := T1.out.c0
  have p2 : w5.drew.cell? ⟨w.heap.size + 1, 1, none⟩ = some (.int .i64 0) := T1.out.c1
  have p3 : w5.drew.frozen? ⟨w.heap.size + 1, 0, none⟩ = false := T1.out.f0
  have p4 : w5.drew.frozen? ⟨w.heap.size + 1, 1, none⟩ = false := T1.out.f1
  have q1 : w5.drew.cell? ⟨w.heap.size + 1 + 1, 0, none⟩ = some (.int .i64 0) := T2.out.c0
  have q2 : w5.drew.cell? ⟨w.heap.size + 1 + 1, 1, none⟩ = some (.int .i64 0) := T2.out.c1
  have q3 : w5.drew.frozen? ⟨w.heap.size + 1 + 1, 0, none⟩ = false := T2.out.f0
  have q4 : w5.drew.frozen? ⟨w.heap.size + 1 + 1, 1, none⟩ = false := T2.out.f1
  have y1 : w5.drew.cell? ⟨w.heap.size, 0, none⟩ = some (.int .i64 (b : Int)) := T0.out.c0
  have y2 : w5.drew.cell? ⟨w.heap.size, 1, none⟩ = some (.int .i64 (e : Int)) := T0.out.c1
  have p5 : w5.cell? ⟨w.heap.size + 1, 0, none⟩ = some (.int .i64 0) := T1.out.c0
  have p6 : w5.cell? ⟨w.heap.size + 1, 1, none⟩ = some (.int .i64 0) := T1.out.c1
  have p7 : w5.frozen? ⟨w.heap.size + 1, 0, none⟩ = false := T1.out.f0
  have p8 : w5.frozen? ⟨w.heap.size + 1, 1, none⟩ = false := T1.out.f1
  have q5 : w5.cell? ⟨w.heap.size + 1 + 1, 0, none⟩ = some (.int .i64 0) := T2.out.c0
  have q6 : w5.cell? ⟨w.heap.size + 1 + 1, 1, none⟩ = some (.int .i64 0) := T2.out.c1
  have q7 : w5.frozen? ⟨w.heap.size + 1 + 1, 0, none⟩ = false := T2.out.f0
  have q8 : w5.frozen? ⟨w.heap.size + 1 + 1, 1, none⟩ = false := T2.out.f1
  have s1 : ¬ w.heap.size + 1 = w.heap.size := by omega
  have s2 : ¬ w.heap.size + 1 + 1 = w.heap.size := by omega
  go_region_held3 (fun w' => w'.cell? ⟨w.heap.size, 0, none⟩ = some (.int .i64 (b : Int)) ∧ w'.cell? ⟨w.heap.size, 1, none⟩ = some (.int .i64 (e : Int))) (first | exact y0 | go_keep) (fail)
  go_wp2
  have U1 := (T1.out.two (b : Int) (m : Int))
  have U1' := (U1.far (w.heap.size + 1 + 1) 0 (.int .i64 (m : Int)) (by omega)).far (w.heap.size + 1 + 1) 1 (.int .i64 (e : Int)) (by omega)
  have U2 := ((T2.out.far (w.heap.size + 1) 0 (.int .i64 (b : Int)) (by omega)).far (w.heap.size + 1) 1 (.int .i64 (m : Int)) (by omega)).two (m : Int) (e : Int)
  refine bodyPost_ret (results_row_row rfl _ _ (w.heap.size + 1) (w.heap.size + 1 + 1) 60 60 #[.int .i64 (b : Int), .int .i64 (m : Int)] #[.int .i64 (m : Int), .int .i64 (e : Int)] (0, 0) (0, 0) _ _ rfl U1' Tryz.underlying60 rfl sizeSp8 rfl U2 Tryz.underlying60 rfl sizeSp8) rfl ⟨rfl, ?_⟩
  exact (((((B5.out.setCell (p := ⟨w.heap.size + 1, 0, none⟩) (by show w.heap.size ≤ w.heap.size + 1; omega) _).setCell (p := ⟨w.heap.size + 1, 1, none⟩) (by show w.heap.size ≤ w.heap.size + 1; omega) _).setCell (p := ⟨w.heap.size + 1 + 1, 0, none⟩) (by show w.heap.size ≤ w.heap.size + 1 + 1; omega) _).setCell (p := ⟨w.heap.size + 1 + 1, 1, none⟩) (by show w.heap.size ≤ w.heap.size + 1 + 1; omega) _)).drew
end Go.Proofs.YtjcapdkibbjmiaaGreatDoor

namespace Go.Proofs.YtjcapdkibbjmiaaGreatDoor
open Go.RowKit
set_option maxRecDepth 100000 in
set_option maxHeartbeats 4000000 in
theorem toward_at (b e m i : Nat) (h2 : 2 ≤ e - b) (he : e ≤ 1099511627776) (hm : Hid (m = b + Tree.sp (e - b))) (w : World) :
    Calls Tryz.prog 140 #[sg b e, .int .i64 (i : Int)] w fun r w' => r = .returned (if i < m then sg b m else sg m e) ∧ Below w.heap.size w w' := by
  have i1 := fun w' => parts_at b e m h2 he hm w'
  have S0 := SpI.new w b e
  have c0 := S0.c0
  have c1 := S0.c1
  have B0 := hid (((Below.refl w.heap.size w).alloc (Nat.le_refl _) (.cells #[Value.int .i64 (b : Int), .int .i64 (e : Int)] 60)).alloc (by rw [size_alloc]; omega) (.cells #[Value.int .i64 0, .int .i64 0] 60))
  have R1 := SpI.new (w.alloc (.cells #[Value.int .i64 (b : Int), .int .i64 (e : Int)] 60)) 0 0
  rw [size_alloc] at R1
  have R1 := hid R1
  have z0 : Hid (((w.alloc (.cells #[Value.int .i64 (b : Int), .int .i64 (e : Int)] 60)).alloc (.cells #[Value.int .i64 0, .int .i64 0] 60)).heap.size = w.heap.size + 2) := by unfold Hid; simp
  by_cases hi : i < m
  · rw [if_pos hi]
    have hi' : (i : Int) < (m : Int) := by omega
    go_enter Tryz.func140, Tryz.ntmps140
    go_wp2_with (go_at_call 141; refine (i1 _).mono ?_; rintro r w1 ⟨rfl, hw1⟩; have T1 := R1.out.below hw1; have B1 := hid (B0.out.trans (hw1.mono B0.out.size)); have z1 := hid hw1.size; clear hw1; have T2 := (T1.below ((Below.refl _ w1).alloc (Nat.le_refl _) (.cells #[Value.int .i64 (b : Int), .int .i64 (m : Int)] 60))).below ((Below.refl _ _).alloc (Nat.le_refl _) (.cells #[Value.int .i64 (m : Int), .int .i64 (e : Int)] 60)); have d0 := T2.c0; have d1 := T2.c1; have g0 := T2.f0; have g1 := T2.f1; have T2 := hid T2; have T1 := hid T1)
    have U := T2.out.two (b : Int) (m : Int)
    refine bodyPost_ret (v := sg b m) (results_cell_row rfl _ _ (w.heap.size + 1) 60 #[.int .i64 (b : Int), .int .i64 (m : Int)] (0, 0) _ rfl U Tryz.underlying60 rfl sizeSp8) rfl ⟨rfl, ?_⟩
    have z1 := z1.out
    have z0 := z0.out
    exact ((((B1.out.alloc (by omega) _).alloc (by rw [size_alloc]; omega) _).setCell (p := ⟨w.heap.size + 1, 0, none⟩) (by show w.heap.size ≤ w.heap.size + 1; omega) _).setCell (p := ⟨w.heap.size + 1, 1, none⟩) (by show w.heap.size ≤ w.heap.size + 1; omega) _)
  · rw [if_neg hi]
    have hi' : ¬ (i : Int) < (m : Int) := by omega
    go_enter Tryz.func140, Tryz.ntmps140
    go_wp2_with (go_at_call 141; refine (i1 _).mono ?_; rintro r w1 ⟨rfl, hw1⟩; have T1 := R1.out.below hw1; have B1 := hid (B0.out.trans (hw1.mono B0.out.size)); have z1 := hid hw1.size; clear hw1; have T2 := (T1.below ((Below.refl _ w1).alloc (Nat.le_refl _) (.cells #[Value.int .i64 (b : Int), .int .i64 (m : Int)] 60))).below ((Below.refl _ _).alloc (Nat.le_refl _) (.cells #[Value.int .i64 (m : Int), .int .i64 (e : Int)] 60)); have d0 := T2.c0; have d1 := T2.c1; have g0 := T2.f0; have g1 := T2.f1; have T2 := hid T2; have T1 := hid T1)
    have U := T2.out.two (m : Int) (e : Int)
    refine bodyPost_ret (v := sg m e) (results_cell_row rfl _ _ (w.heap.size + 1) 60 #[.int .i64 (m : Int), .int .i64 (e : Int)] (0, 0) _ rfl U Tryz.underlying60 rfl sizeSp8) rfl ⟨rfl, ?_⟩
    have z1 := z1.out
    have z0 := z0.out
    exact ((((B1.out.alloc (by omega) _).alloc (by rw [size_alloc]; omega) _).setCell (p := ⟨w.heap.size + 1, 0, none⟩) (by show w.heap.size ≤ w.heap.size + 1; omega) _).setCell (p := ⟨w.heap.size + 1, 1, none⟩) (by show w.heap.size ≤ w.heap.size + 1; omega) _)
set_option maxRecDepth 100000 in
set_option maxHeartbeats 4000000 in
theorem beside_at (b e m i : Nat) (h2 : 2 ≤ e - b) (he : e ≤ 1099511627776) (hm : Hid (m = b + Tree.sp (e - b))) (w : World) :
    Calls Tryz.prog 116 #[sg b e, .int .i64 (i : Int)] w fun r w' => r = .returned (if i < m then sg m e else sg b m) ∧ Below w.heap.size w w' := by
  have i1 := fun w' => parts_at b e m h2 he hm w'
  have S0 := SpI.new w b e
  have c0 := S0.c0
  have c1 := S0.c1
  have B0 := hid (((Below.refl w.heap.size w).alloc (Nat.le_refl _) (.cells #[Value.int .i64 (b : Int), .int .i64 (e : Int)] 60)).alloc (by rw [size_alloc]; omega) (.cells #[Value.int .i64 0, .int .i64 0] 60))
  have R1 := SpI.new (w.alloc (.cells #[Value.int .i64 (b : Int), .int .i64 (e : Int)] 60)) 0 0
  rw [size_alloc] at R1
  have R1 := hid R1
  have z0 : Hid (((w.alloc (.cells #[Value.int .i64 (b : Int), .int .i64 (e : Int)] 60)).alloc (.cells #[Value.int .i64 0, .int .i64 0] 60)).heap.size = w.heap.size + 2) := by unfold Hid; simp
  by_cases hi : i < m
  · rw [if_pos hi]
    have hi' : (i : Int) < (m : Int) := by omega
    go_enter Tryz.func116, Tryz.ntmps116
    go_wp2_with (go_at_call 141; refine (i1 _).mono ?_; rintro r w1 ⟨rfl, hw1⟩; have T1 := R1.out.below hw1; have B1 := hid (B0.out.trans (hw1.mono B0.out.size)); have z1 := hid hw1.size; clear hw1; have T2 := (T1.below ((Below.refl _ w1).alloc (Nat.le_refl _) (.cells #[Value.int .i64 (b : Int), .int .i64 (m : Int)] 60))).below ((Below.refl _ _).alloc (Nat.le_refl _) (.cells #[Value.int .i64 (m : Int), .int .i64 (e : Int)] 60)); have d0 := T2.c0; have d1 := T2.c1; have g0 := T2.f0; have g1 := T2.f1; have T2 := hid T2; have T1 := hid T1)
    have U := T2.out.two (m : Int) (e : Int)
    refine bodyPost_ret (v := sg m e) (results_cell_row rfl _ _ (w.heap.size + 1) 60 #[.int .i64 (m : Int), .int .i64 (e : Int)] (0, 0) _ rfl U Tryz.underlying60 rfl sizeSp8) rfl ⟨rfl, ?_⟩
    have z1 := z1.out
    have z0 := z0.out
    exact ((((B1.out.alloc (by omega) _).alloc (by rw [size_alloc]; omega) _).setCell (p := ⟨w.heap.size + 1, 0, none⟩) (by show w.heap.size ≤ w.heap.size + 1; omega) _).setCell (p := ⟨w.heap.size + 1, 1, none⟩) (by show w.heap.size ≤ w.heap.size + 1; omega) _)
  · rw [if_neg hi]
    have hi' : ¬ (i : Int) < (m : Int) := by omega
    go_enter Tryz.func116, Tryz.ntmps116
    go_wp2_with (go_at_call 141; refine (i1 _).mono ?_; rintro r w1 ⟨rfl, hw1⟩; have T1 := R1.out.below hw1; have B1 := hid (B0.out.trans (hw1.mono B0.out.size)); have z1 := hid hw1.size; clear hw1; have T2 := (T1.below ((Below.refl _ w1).alloc (Nat.le_refl _) (.cells #[Value.int .i64 (b : Int), .int .i64 (m : Int)] 60))).below ((Below.refl _ _).alloc (Nat.le_refl _) (.cells #[Value.int .i64 (m : Int), .int .i64 (e : Int)] 60)); have d0 := T2.c0; have d1 := T2.c1; have g0 := T2.f0; have g1 := T2.f1; have T2 := hid T2; have T1 := hid T1)
    have U := T2.out.two (b : Int) (m : Int)
    refine bodyPost_ret (v := sg b m) (results_cell_row rfl _ _ (w.heap.size + 1) 60 #[.int .i64 (b : Int), .int .i64 (m : Int)] (0, 0) _ rfl U Tryz.underlying60 rfl sizeSp8) rfl ⟨rfl, ?_⟩
    have z1 := z1.out
    have z0 := z0.out
    exact ((((B1.out.alloc (by omega) _).alloc (by rw [size_alloc]; omega) _).setCell (p := ⟨w.heap.size + 1, 0, none⟩) (by show w.heap.size ≤ w.heap.size + 1; omega) _).setCell (p := ⟨w.heap.size + 1, 1, none⟩) (by show w.heap.size ≤ w.heap.size + 1; omega) _)
theorem toward_any (b e i : Nat) (h2 : 2 ≤ e - b) (he : e ≤ 1099511627776) (w : World) :
    Calls Tryz.prog 140 #[sg b e, .int .i64 (i : Int)] w fun r w' => r = .returned (sg (Tree.twd i (b, e)).1 (Tree.twd i (b, e)).2) ∧ Below w.heap.size w w' := by
  refine (toward_at b e _ i h2 he rfl w).mono ?_
  rintro r w' ⟨rfl, h⟩
  refine ⟨?_, h⟩
  unfold Tree.twd
  by_cases hi : i < b + Tree.sp (e - b)
  · simp only [if_pos hi]
  · simp only [if_neg hi]
theorem beside_any (b e i : Nat) (h2 : 2 ≤ e - b) (he : e ≤ 1099511627776) (w : World) :
    Calls Tryz.prog 116 #[sg b e, .int .i64 (i : Int)] w fun r w' => r = .returned (sg (Tree.osd i (b, e)).1 (Tree.osd i (b, e)).2) ∧ Below w.heap.size w w' := by
  refine (beside_at b e _ i h2 he rfl w).mono ?_
  rintro r w' ⟨rfl, h⟩
  refine ⟨?_, h⟩
  unfold Tree.osd
  by_cases hi : i < b + Tree.sp (e - b)
  · simp only [if_pos hi]
  · simp only [if_neg hi]
end Go.Proofs.YtjcapdkibbjmiaaGreatDoor
