import Derived.Test.YtjcapdkibbjmiaaGreatDoorPkFL2
import Derived.Test.YtjcapdkibbjmiaaGreatDoorPkTL12
import Derived.Test.YtjcapdkibbjmiaaGreatDoorPkCP4
import Derived.Test.YtjcapdkibbjmiaaGreatDoorPkSP28
import Derived.Test.YtjcapdkibbjmiaaGreatDoorPkI1
import Derived.Test.YtjcapdkibbjmiaaGreatDoorPkI10
import Derived.Test.YtjcapdkibbjmiaaGreatDoorPkO3
import Derived.Test.YtjcapdkibbjmiaaGreatDoorPkCG2
import Derived.Deep.CutRange
namespace Go.Proofs.YtjcapdkibbjmiaaGreatDoor
open Go.RowKit Go.Shelf
namespace Chn
set_option maxRecDepth 100000 in
set_option maxHeartbeats 800000 in
theorem texts13_yes (l : List (List UInt8)) (a d : Option Addr) (ca cd : Nat) (w : World) (ha : At w a l) (hd : At w d l) (hll : l.length ≤ 9223372036854775807) :
    Calls Tryz.prog 38 #[.slice a l.length ca, .slice d l.length cd] w fun e w' => e = .returned (.bool true) ∧ Below w.heap.size w w' ∧ w'.heap = w.heap := by
  have Ha := hid ha
  have Hd := hid hd
  clear ha hd
  go_enter Tryz.func38, Tryz.ntmps38
  go_wp2
  go_loopw [5] (fun i w' => ∃ k : Nat, k ≤ l.length ∧ i = .int .i64 k ∧ Hid (Below w.heap.size w w' ∧ w'.heap = w.heap)) (fun i _ => l.length - (intOf i).toNat)
  case atStart => exact ⟨0, by omega, rfl, hid ⟨Below.refl _ _, rfl⟩⟩
  case round =>
    obtain ⟨k, hk, rfl, hw'⟩ := hrel
    by_cases hlt : k < l.length
    · have b0 : (k : Int) < (l.length : Int) := by omega
      obtain ⟨x, rfl, xb, hx⟩ := Ha.out k l[k] (List.getElem?_eq_getElem hlt)
      rw [← hw'.out.1.cell (p := x.add k) (by rw [addr_block]; exact xb)] at hx
      clear xb
      obtain ⟨y, rfl, yb, hy⟩ := Hd.out k l[k] (List.getElem?_eq_getElem hlt)
      rw [← hw'.out.1.cell (p := y.add k) (by rw [addr_block]; exact yb)] at hy
      clear yb
      rw [svS] at hx hy
      generalize ByteArray.mk (l[k]).toArray = p at *
      have y1 : (p.toList == p.toList) = true := by simp
      have y2 : (p.toList != p.toList) = false := by simp
      go_wp2
      go_quiet (fail)
      go_wp2
      exact ⟨⟨k + 1, by omega, by go_num, hid ⟨below_drewN hw'.out.1 _, hw'.out.2⟩⟩, by simp [intOf]; omega⟩
    · have b0 : ¬ (k : Int) < (l.length : Int) := by omega
      go_wp2
      go_ret
      exact ⟨rfl, hw'.out.1, hw'.out.2⟩
end Chn
end Go.Proofs.YtjcapdkibbjmiaaGreatDoor

namespace Go.Proofs.YtjcapdkibbjmiaaGreatDoor
open Go.RowKit Go.Shelf
namespace Chn
namespace Gb
set_option maxRecDepth 100000 in
set_option maxHeartbeats 800000 in
theorem ints13_yes (l : List Int) (n : Nat) (hn : Hid (l.length = n)) (a d : Option Addr) (ca cd : Nat) (w : World) (ha : AtI w a l) (hd : AtI w d l) (hll : n ≤ 9223372036854775807) :
    Calls Tryz.prog 66 #[.slice a n ca, .slice d n cd] w fun e w' => e = .returned (.bool true) ∧ Below w.heap.size w w' ∧ w'.heap = w.heap := by
  have Ha := hid ha
  have Hd := hid hd
  clear ha hd
  go_enter Tryz.func66, Tryz.ntmps66
  go_wp2
  go_loopw [5] (fun i w' => ∃ k : Nat, k ≤ n ∧ i = .int .i64 k ∧ Hid (Below w.heap.size w w' ∧ w'.heap = w.heap)) (fun i _ => n - (intOf i).toNat)
  case atStart => exact ⟨0, by omega, rfl, hid ⟨Below.refl _ _, rfl⟩⟩
  case round =>
    obtain ⟨k, hk, rfl, hw'⟩ := hrel
    by_cases hlt : k < n
    · have b0 : (k : Int) < (n : Int) := by omega
      have hkl : k < l.length := by rw [hn.out]; exact hlt
      obtain ⟨x, rfl, xb, hx⟩ := Ha.out k l[k] (List.getElem?_eq_getElem hkl)
      rw [← hw'.out.1.cell (p := x.add k) (by rw [addr_block]; exact xb)] at hx
      clear xb
      obtain ⟨y, rfl, yb, hy⟩ := Hd.out k l[k] (List.getElem?_eq_getElem hkl)
      rw [← hw'.out.1.cell (p := y.add k) (by rw [addr_block]; exact yb)] at hy
      clear yb
      generalize l[k] = p at *
      have y1 : (p == p) = true := by simp
      have y2 : (p != p) = false := by simp
      go_wp2
      go_quiet (fail)
      go_wp2
      exact ⟨⟨k + 1, by omega, by go_num, hid ⟨below_drewN hw'.out.1 _, hw'.out.2⟩⟩, by simp [intOf]; omega⟩
    · have b0 : ¬ (k : Int) < (n : Int) := by omega
      go_wp2
      go_ret
      exact ⟨rfl, hw'.out.1, hw'.out.2⟩
theorem conv_three (n : Nat) (hn : n ≤ 255) (w : World) : (convert 40 9 (.slice (some ⟨w.heap.size, 0, none⟩) 3 3)).run Tryz.prog (w.alloc (.cells #[.int .u8 (n : Int), .int .u8 0, .int .u8 0] 5)) = .ok (sv [UInt8.ofNat n, 0, 0]) (w.alloc (.cells #[.int .u8 (n : Int), .int .u8 0, .int .u8 0] 5)) := by
  refine run_conv_bytes (P := Tryz.prog) _ 40 9 5 w.heap.size 0 3 3 [UInt8.ofNat n, 0, 0] rfl Tryz.underlying40 Tryz.underlying5 Tryz.underlying9 ?_
  intro j v hv
  have hX := heap_alloc_new w (.cells #[.int .u8 (n : Int), .int .u8 0, .int .u8 0] 5)
  match j, hv with
  | 0, hv =>
    have e : v = .int .u8 (n : Int) := by
      simp [bv] at hv
      rw [← hv]; congr 1; omega
    rw [e, cell_of_row _ _ _ _ _ _ hX]; rfl
  | 1, hv =>
    have e : v = .int .u8 0 := by simp [bv] at hv; rw [← hv]
    rw [e, cell_of_row _ _ _ _ _ _ hX]; rfl
  | 2, hv =>
    have e : v = .int .u8 0 := by simp [bv] at hv; rw [← hv]
    rw [e, cell_of_row _ _ _ _ _ _ hX]; rfl
  | j + 3, hv => simp [bv] at hv
def mrkT (n : Nat) : List UInt8 := [109, 97, 114, 107, UInt8.ofNat n, 0, 0]
set_option maxRecDepth 100000 in
set_option maxHeartbeats 800000 in
theorem mark13_any (n : Nat) (hn : n ≤ 255) (w : World) :
    Calls Tryz.prog 37 #[.int .i64 n] w fun e w' => e = .returned (sv (mrkT n)) ∧ Below w.heap.size w w' := by
  have hcv := conv_three n hn w
  have e0 : (n : Int) / 256 = 0 := by omega
  have e1 : (n : Int) / 65536 = 0 := by omega
  rw [svS] at hcv
  have key : Calls Tryz.prog 37 #[.int .i64 n] w fun e w' => ∃ m : ByteArray, e = .returned (.string m) ∧ m.data.toList = [109, 97, 114, 107, UInt8.ofNat n, 0, 0] ∧ Below w.heap.size w w' := by
    go_enter Tryz.func37, Tryz.ntmps37
    go_wp2
    go_ret
    exact ⟨_, rfl, by simp [ByteArray.data_append], (Below.refl _ _).alloc (Nat.le_refl _) _⟩
  refine key.mono ?_
  rintro e w' ⟨m, rfl, hm, hb⟩
  refine ⟨?_, hb⟩
  unfold mrkT
  rw [← hm]
  cases m
  rfl
end Gb
end Chn
end Go.Proofs.YtjcapdkibbjmiaaGreatDoor

namespace Go.Proofs.YtjcapdkibbjmiaaGreatDoor
open Go.RowKit Go.Shelf
namespace Chn
namespace Gb
def OkT (w : World) (aH aW : Option Addr) (j : Nat) : Prop := ∃ (W : List (List UInt8)) (gh gw : Nat) (a : Option Addr) (c : Nat) (a' : Option Addr) (c' : Nat), aH = some ⟨gh, 0, none⟩ ∧ aW = some ⟨gw, 0, none⟩ ∧ gh < w.heap.size ∧ gw < w.heap.size ∧ w.cell? ⟨gh, j, none⟩ = some (.slice a W.length c) ∧ w.cell? ⟨gw, j, none⟩ = some (.slice a' W.length c') ∧ At w a W ∧ At w a' W ∧ W.length ≤ 1099511627776
theorem OkT.below {w w' : World} {aH aW : Option Addr} {j : Nat} (h : OkT w aH aW j) (hb : Below w.heap.size w w') : OkT w' aH aW j := by
  obtain ⟨W, gh, gw, a, c, a', c', e1, e2, l1, l2, c1, c2, h1, h2, hl⟩ := h
  exact ⟨W, gh, gw, a, c, a', c', e1, e2, Nat.lt_of_lt_of_le l1 hb.size, Nat.lt_of_lt_of_le l2 hb.size, (hb.cell (p := ⟨gh, j, none⟩) l1).trans c1, (hb.cell (p := ⟨gw, j, none⟩) l2).trans c2, h1.below hb (Nat.le_refl _), h2.below hb (Nat.le_refl _), hl⟩
def OkI (w : World) (aH aW : Option Addr) (j : Nat) : Prop := ∃ (W : List Int) (gh gw : Nat) (a : Option Addr) (c : Nat) (a' : Option Addr) (c' : Nat), aH = some ⟨gh, 0, none⟩ ∧ aW = some ⟨gw, 0, none⟩ ∧ gh < w.heap.size ∧ gw < w.heap.size ∧ w.cell? ⟨gh, j, none⟩ = some (.slice a W.length c) ∧ w.cell? ⟨gw, j, none⟩ = some (.slice a' W.length c') ∧ AtI w a W ∧ AtI w a' W ∧ W.length ≤ 1099511627776
theorem OkI.below {w w' : World} {aH aW : Option Addr} {j : Nat} (h : OkI w aH aW j) (hb : Below w.heap.size w w') : OkI w' aH aW j := by
  obtain ⟨W, gh, gw, a, c, a', c', e1, e2, l1, l2, c1, c2, h1, h2, hl⟩ := h
  exact ⟨W, gh, gw, a, c, a', c', e1, e2, Nat.lt_of_lt_of_le l1 hb.size, Nat.lt_of_lt_of_le l2 hb.size, (hb.cell (p := ⟨gh, j, none⟩) l1).trans c1, (hb.cell (p := ⟨gw, j, none⟩) l2).trans c2, h1.below hb (Nat.le_refl _), h2.below hb (Nat.le_refl _), hl⟩
theorem drewBelowG {w w' : World} (h : Below w.drew.heap.size w.drew w') : Below w.heap.size w w' := ⟨h.os, h.tape, h.output, h.size, h.block⟩
set_option maxRecDepth 100000 in
set_option maxHeartbeats 4000000 in
theorem stay_any (X t s cT cI : Nat) (aH aW aI aJ : Option Addr) (kH kW kI kJ : Nat) (w : World) (lX : X < w.heap.size)
    (x0 : w.cell? ⟨X, 0, none⟩ = some (.slice aH cT kH)) (x1 : w.cell? ⟨X, 1, none⟩ = some (.slice aW cT kW)) (x3 : w.cell? ⟨X, 3, none⟩ = some (.slice none 0 0)) (x6 : w.cell? ⟨X, 6, none⟩ = some (.slice aI cI kI)) (x7 : w.cell? ⟨X, 7, none⟩ = some (.slice aJ cI kJ))
    (ht : t ≤ cT) (hs : s ≤ cI) (hcT : cT ≤ 1000) (hcI : cI ≤ 1000) (HT : Hid (∀ j, t ≤ j → j < cT → OkT w aH aW j)) (HI : Hid (∀ j, s ≤ j → j < cI → OkI w aI aJ j)) :
    Calls Tryz.prog 36 #[.pointer (some ⟨X, 0, none⟩), .int .i64 (t : Int), .int .i64 0, .int .i64 (s : Int)] w fun r w' => r = .returned (.bool true) ∧ Below w.heap.size w w' := by
  have FX := hid (And.intro x0 (And.intro x1 (And.intro x3 (And.intro x6 x7))))
  clear x0 x1 x3 x6 x7
  go_enter Tryz.func36, Tryz.ntmps36
  go_wp2
  go_loopw [9, 10] (fun j _ w' => ∃ J : Nat, t ≤ J ∧ J ≤ cT ∧ j = .int .i64 (J : Int) ∧ Hid (Below w.heap.size w w')) (fun j _ _ => cT - (intOf j).toNat)
  case atStart => exact ⟨t, Nat.le_refl _, ht, by first | rfl | go_num, Below.refl _ _⟩
  case round =>
    obtain ⟨J, hJ1, hJ2, rfl, hBw⟩ := hrel
    have x0 := (hBw.out.cell (p := ⟨X, 0, none⟩) lX).trans FX.out.1
    have x1 := (hBw.out.cell (p := ⟨X, 1, none⟩) lX).trans FX.out.2.1
    have lX2 : X < wr.heap.size := Nat.lt_of_lt_of_le lX hBw.out.size
    by_cases hJc : J < cT
    · have b5 : (J : Int) < (cT : Int) := by omega
      have j0 : (0 : Int) ≤ (J : Int) := by omega
      obtain ⟨W, gh, gw, a, c, a', c', rfl, rfl, l1, l2, c1, c2, h1, h2, hl⟩ := (HT.out J hJ1 hJc).below hBw.out
      have hy := texts13_yes W a a' c c' wr.drew h1 h2 (by omega)
      obtain ⟨n, hn⟩ : ∃ n, W.length = n := ⟨_, rfl⟩
      rw [hn] at hy c1 c2
      clear h1 h2 hl hn
      go_wp2
      go_region_held3 (fun w' => w'.cell? ⟨X, 0, none⟩ = some (.slice (some ⟨gh, 0, none⟩) cT kH) ∧ w'.cell? ⟨X, 1, none⟩ = some (.slice (some ⟨gw, 0, none⟩) cT kW) ∧ w'.cell? ⟨gh, J, none⟩ = some (.slice a n c) ∧ w'.cell? ⟨gw, J, none⟩ = some (.slice a' n c')) (first | exact e4 | exact ⟨x0, x1, c1, c2⟩)
        (first | (go_at_call 38; (with_reducible refine hy.mono ?_); rintro e w2 ⟨rfl, hw2', _⟩; have hw2 := drewBelowG hw2'; have e4 := And.intro ((hw2.cell (p := ⟨X, 0, none⟩) lX2).trans x0) (And.intro ((hw2.cell (p := ⟨X, 1, none⟩) lX2).trans x1) (And.intro ((hw2.cell (p := ⟨gh, J, none⟩) l1).trans c1) ((hw2.cell (p := ⟨gw, J, none⟩) l2).trans c2)))))
      all_goals
        have B2 := hid (hBw.out.trans (hw2.mono hBw.out.size))
        clear hw2 hw2' e4 hy
        go_wp2
        exact ⟨⟨J + 1, by omega, by omega, by go_num, B2⟩, by simp [intOf]; omega⟩
    · obtain rfl : J = cT := by omega
      have b5 : ¬ (J : Int) < (J : Int) := by omega
      have x3 := (hBw.out.cell (p := ⟨X, 3, none⟩) lX).trans FX.out.2.2.1
      obtain ⟨wE, hwE⟩ : ∃ wE, wr = wE := ⟨_, rfl⟩
      rw [hwE] at x0 x1 x3 hBw lX2 ⊢
      clear hwE
      go_wp2
      go_loopw [11, 12] (fun i _ w' => i = .int .i64 0 ∧ w' = wE) (fun _ _ _ => 0)
      case atStart => exact ⟨rfl, rfl⟩
      case round =>
        obtain ⟨rfl, hwq⟩ := hrel
        rw [hwq]
        clear hwq
        go_wp2
        clear x0 x1 x3
        go_loopw [13, 14] (fun j _ w' => ∃ K : Nat, s ≤ K ∧ K ≤ cI ∧ j = .int .i64 (K : Int) ∧ Hid (Below w.heap.size w w')) (fun j _ _ => cI - (intOf j).toNat)
        case atStart => exact ⟨s, Nat.le_refl _, hs, by first | rfl | go_num, hBw⟩
        case round =>
          clear hBw lX2
          obtain ⟨K, hK1, hK2, rfl, hBw⟩ := hrel
          have x6 := (hBw.out.cell (p := ⟨X, 6, none⟩) lX).trans FX.out.2.2.2.1
          have x7 := (hBw.out.cell (p := ⟨X, 7, none⟩) lX).trans FX.out.2.2.2.2
          have lX2 : X < wr.heap.size := Nat.lt_of_lt_of_le lX hBw.out.size
          by_cases hKc : K < cI
          · have b6 : (K : Int) < (cI : Int) := by omega
            have k0 : (0 : Int) ≤ (K : Int) := by omega
            obtain ⟨W, gh, gw, a, c, a', c', rfl, rfl, l1, l2, c1, c2, h1, h2, hl⟩ := (HI.out K hK1 hKc).below hBw.out
            obtain ⟨n, hn⟩ : ∃ n, W.length = n := ⟨_, rfl⟩
            have hy := ints13_yes W n hn a a' c c' wr.drew h1 h2 (by omega)
            rw [hn] at c1 c2
            clear h1 h2 hl hn
            go_wp2
            go_region_held3 (fun w' => w'.cell? ⟨X, 6, none⟩ = some (.slice (some ⟨gh, 0, none⟩) cI kI) ∧ w'.cell? ⟨X, 7, none⟩ = some (.slice (some ⟨gw, 0, none⟩) cI kJ) ∧ w'.cell? ⟨gh, K, none⟩ = some (.slice a n c) ∧ w'.cell? ⟨gw, K, none⟩ = some (.slice a' n c')) (first | exact e4 | exact ⟨x6, x7, c1, c2⟩)
              (first | (go_at_call 66; (with_reducible refine hy.mono ?_); rintro e w2 ⟨rfl, hw2', _⟩; have hw2 := drewBelowG hw2'; have e4 := And.intro ((hw2.cell (p := ⟨X, 6, none⟩) lX2).trans x6) (And.intro ((hw2.cell (p := ⟨X, 7, none⟩) lX2).trans x7) (And.intro ((hw2.cell (p := ⟨gh, K, none⟩) l1).trans c1) ((hw2.cell (p := ⟨gw, K, none⟩) l2).trans c2)))))
            all_goals
              have B2 := hid (hBw.out.trans (hw2.mono hBw.out.size))
              clear hw2 hw2' e4 hy
              go_wp2
              exact ⟨⟨K + 1, by omega, by omega, by go_num, B2⟩, by simp [intOf]; omega⟩
          · obtain rfl : K = cI := by omega
            have b6 : ¬ (K : Int) < (K : Int) := by omega
            go_wp2
            go_ret
            exact ⟨rfl, hBw.out⟩
end Gb
end Chn
end Go.Proofs.YtjcapdkibbjmiaaGreatDoor

namespace Go.Proofs.YtjcapdkibbjmiaaGreatDoor
open Go.RowKit Go.Shelf
namespace Chn
namespace Gb
def mkT (i : Nat) : Value := sv (mrkT i)
def mkI (i : Nat) : Value := .int .i64 (-5 - (i : Int))
def fT (gh kH gw kW cT gi kI gj kJ cI : Nat) (vl : Value) : Array Value := #[.slice (some ⟨gh, 0, none⟩) cT kH, .slice (some ⟨gw, 0, none⟩) cT kW, vl, .slice none 0 0, .slice none 0 0, .slice none 0 0, .slice (some ⟨gi, 0, none⟩) cI kI, .slice (some ⟨gj, 0, none⟩) cI kJ, .slice none 0 0]
def fI (gh kH gw kW cT gi kI gj kJ cI : Nat) (VL : Value) (vm : Value) : Array Value := #[.slice (some ⟨gh, 0, none⟩) cT kH, .slice (some ⟨gw, 0, none⟩) cT kW, VL, .slice none 0 0, .slice none 0 0, .slice none 0 0, .slice (some ⟨gi, 0, none⟩) cI kI, .slice (some ⟨gj, 0, none⟩) cI kJ, vm]
theorem fT_set (gh kH gw kW cT gi kI gj kJ cI : Nat) : ∀ v v', (fT gh kH gw kW cT gi kI gj kJ cI v).setIfInBounds 2 v' = fT gh kH gw kW cT gi kI gj kJ cI v' := fun _ _ => rfl
theorem fI_set (gh kH gw kW cT gi kI gj kJ cI : Nat) (VL : Value) : ∀ v v', (fI gh kH gw kW cT gi kI gj kJ cI VL v).setIfInBounds 8 v' = fI gh kH gw kW cT gi kI gj kJ cI VL v' := fun _ _ => rfl
structure Ce (w : World) (X gh kH gw kW cT gi kI gj kJ cI : Nat) (vl vm : Value) : Prop where
  row : w.heap[X]? = some (.cells (fI gh kH gw kW cT gi kI gj kJ cI vl vm) 35 (0, 0))
theorem Ce.all {w : World} {X gh kH gw kW cT gi kI gj kJ cI : Nat} {vl vm : Value} (h : Ce w X gh kH gw kW cT gi kI gj kJ cI vl vm) :
    w.cell? ⟨X, 0, none⟩ = some (.slice (some ⟨gh, 0, none⟩) cT kH) ∧ w.cell? ⟨X, 1, none⟩ = some (.slice (some ⟨gw, 0, none⟩) cT kW) ∧ w.cell? ⟨X, 2, none⟩ = some vl ∧ w.cell? ⟨X, 3, none⟩ = some (.slice none 0 0) ∧ w.cell? ⟨X, 5, none⟩ = some (.slice none 0 0) ∧ w.cell? ⟨X, 6, none⟩ = some (.slice (some ⟨gi, 0, none⟩) cI kI) ∧ w.cell? ⟨X, 7, none⟩ = some (.slice (some ⟨gj, 0, none⟩) cI kJ) ∧ w.cell? ⟨X, 8, none⟩ = some vm ∧ w.frozen? ⟨X, 2, none⟩ = false ∧ w.frozen? ⟨X, 8, none⟩ = false :=
  ⟨by rw [cell_of_row _ _ _ _ _ _ h.row]; rfl, by rw [cell_of_row _ _ _ _ _ _ h.row]; rfl, by rw [cell_of_row _ _ _ _ _ _ h.row]; rfl, by rw [cell_of_row _ _ _ _ _ _ h.row]; rfl, by rw [cell_of_row _ _ _ _ _ _ h.row]; rfl, by rw [cell_of_row _ _ _ _ _ _ h.row]; rfl, by rw [cell_of_row _ _ _ _ _ _ h.row]; rfl, by rw [cell_of_row _ _ _ _ _ _ h.row]; rfl, frozen_of_row _ _ _ _ _ h.row, frozen_of_row _ _ _ _ _ h.row⟩
theorem atT {w : World} {a : Option Addr} {L : List (List UInt8)} (h : AtV w a (svs L)) : At w a L := fun j p hp => by
  obtain ⟨g, e, h1, h2⟩ := h j (sv p) (by simp [svs, hp])
  exact ⟨⟨g, 0, none⟩, e, h1, by rw [Addr.add_mid, Nat.zero_add]; exact h2⟩
theorem atN {w : World} {a : Option Addr} {L : List Int} (h : AtV w a (L.map fun x => .int .i64 x)) : AtI w a L := fun j p hp => by
  obtain ⟨g, e, h1, h2⟩ := h j (.int .i64 p) (by simp [hp])
  exact ⟨⟨g, 0, none⟩, e, h1, by rw [Addr.add_mid, Nat.zero_add]; exact h2⟩
theorem Cb.okT {mk : Nat → Value} {B0 X gh gw : Nat} {F : Value → Array Value} {hv wv : List Value} {Ws : List (List Value)} {w0 w : World} {ρ : Nat → Nat} {p : Nat} {vl : Value} {ls : List Value} (h : Cb mk B0 X gh gw F hv wv Ws w0 ρ w p vl ls) (TX : ∀ W ∈ Ws, W.length ≤ 1099511627776 ∧ ∃ L : List (List UInt8), W = svs L) {j : Nat} (hp : p ≤ j) (hj : j < Ws.length) : OkT w (some ⟨gh, 0, none⟩) (some ⟨gw, 0, none⟩) j := by
  obtain ⟨W, hW⟩ : ∃ W, Ws[j]? = some W := ⟨_, List.getElem?_eq_getElem hj⟩
  obtain ⟨hl, L, rfl⟩ := TX W (List.mem_of_getElem? hW)
  obtain ⟨v, e1, e2, e3⟩ := h.own j _ hp hW
  obtain ⟨a', c', f1, f2, f3⟩ := h.want j _ hW
  obtain ⟨a, c, rfl, hA⟩ := AtV.own e2
  have hsl : (svs L).length = L.length := by simp [svs]
  have d0 := h.hr j _ e1
  have d1 := h.wr j _ f1
  rw [Nat.zero_add, hsl] at d0 d1
  exact ⟨L, gh, gw, a, c, a', c', rfl, rfl, h.lh, h.lw, d0, d1, atT hA, atT f2, by omega⟩
theorem Cb.okI {mk : Nat → Value} {B0 X gh gw : Nat} {F : Value → Array Value} {hv wv : List Value} {Ws : List (List Value)} {w0 w : World} {ρ : Nat → Nat} {p : Nat} {vl : Value} {ls : List Value} (h : Cb mk B0 X gh gw F hv wv Ws w0 ρ w p vl ls) (TX : ∀ W ∈ Ws, W.length ≤ 1099511627776 ∧ ∃ L : List Int, W = L.map fun x => .int .i64 x) {j : Nat} (hp : p ≤ j) (hj : j < Ws.length) : OkI w (some ⟨gh, 0, none⟩) (some ⟨gw, 0, none⟩) j := by
  obtain ⟨W, hW⟩ : ∃ W, Ws[j]? = some W := ⟨_, List.getElem?_eq_getElem hj⟩
  obtain ⟨hl, L, rfl⟩ := TX W (List.mem_of_getElem? hW)
  obtain ⟨v, e1, e2, e3⟩ := h.own j _ hp hW
  obtain ⟨a', c', f1, f2, f3⟩ := h.want j _ hW
  obtain ⟨a, c, rfl, hA⟩ := AtV.own e2
  have hsl : (L.map fun x => Value.int .i64 x).length = L.length := by simp
  have d0 := h.hr j _ e1
  have d1 := h.wr j _ f1
  rw [Nat.zero_add, hsl] at d0 d1
  exact ⟨L, gh, gw, a, c, a', c', rfl, rfl, h.lh, h.lw, d0, d1, atN hA, atN f2, by omega⟩
theorem infoLT : (Tryz.prog.info? 22).map (fun i => (i.zero, i.size, i.bytes)) = some (some (.slice none 0 0), 1, 24) := by kernel_rfl
theorem infoLI : (Tryz.prog.info? 23).map (fun i => (i.zero, i.size, i.bytes)) = some (some (.slice none 0 0), 1, 24) := by kernel_rfl
theorem append_lsT (w : World) (v : Value) (ls : List Value) (a : Option Addr) (n c : Nat) (h : OwnM 1 w v ls.length ls) (hl : ls.length ≤ 1000000) :
    ∃ v' w', (Builtin.append_ #[31, 31] 31 #[v, .slice (some ⟨w.heap.size, 0, none⟩) 1 1]).run Tryz.prog (w.alloc (.cells #[.slice a n c] 22)) = .ok v' w' ∧ OwnM 1 w' v' (ls.length + 1) (ls ++ [.slice a n c]) ∧ Grow w w' v v' :=
  append_oneL 31 22 _ 24 Tryz.underlying31 infoLT rfl w v ls.length ls [.slice a n c] rfl (fun u hu => by
    simp only [List.mem_cons, List.not_mem_nil, or_false] at hu
    subst hu; rfl) h (by omega) (by rw [maxLen]; omega)
theorem append_lsI (w : World) (v : Value) (ls : List Value) (a : Option Addr) (n c : Nat) (h : OwnM 1 w v ls.length ls) (hl : ls.length ≤ 1000000) :
    ∃ v' w', (Builtin.append_ #[33, 33] 33 #[v, .slice (some ⟨w.heap.size, 0, none⟩) 1 1]).run Tryz.prog (w.alloc (.cells #[.slice a n c] 23)) = .ok v' w' ∧ OwnM 1 w' v' (ls.length + 1) (ls ++ [.slice a n c]) ∧ Grow w w' v v' :=
  append_oneL 33 23 _ 24 Tryz.underlying33 infoLI rfl w v ls.length ls [.slice a n c] rfl (fun u hu => by
    simp only [List.mem_cons, List.not_mem_nil, or_false] at hu
    subst hu; rfl) h (by omega) (by rw [maxLen]; omega)
theorem append_mkT (w : World) (v : Value) (n i : Nat) (h : OwnM 1 w v n (List.replicate n (mkT i))) (hl : n ≤ 2000000000000) :
    ∃ v' w', (Builtin.append_ #[22, 22] 22 #[v, .slice (some ⟨w.heap.size, 0, none⟩) 1 1]).run Tryz.prog (w.alloc (.cells #[mkT i] 9)) = .ok v' w' ∧ OwnM 1 w' v' (n + 1) (List.replicate (n + 1) (mkT i)) ∧ Grow w w' v v' := by
  obtain ⟨v', w', h1, h2, h3⟩ := append_oneL 22 9 _ 16 Tryz.underlying22 infoS rfl w v n (List.replicate n (mkT i)) [mkT i] rfl (fun u hu => by
    simp only [List.mem_cons, List.not_mem_nil, or_false] at hu
    subst hu; rfl) h (by omega) (by rw [maxLen]; omega)
  exact ⟨v', w', h1, by rw [List.replicate_succ']; exact h2, h3⟩
theorem append_mkI (w : World) (v : Value) (n i : Nat) (h : OwnM 1 w v n (List.replicate n (mkI i))) (hl : n ≤ 2000000000000) :
    ∃ v' w', (Builtin.append_ #[23, 23] 23 #[v, .slice (some ⟨w.heap.size, 0, none⟩) 1 1]).run Tryz.prog (w.alloc (.cells #[mkI i] 3)) = .ok v' w' ∧ OwnM 1 w' v' (n + 1) (List.replicate (n + 1) (mkI i)) ∧ Grow w w' v v' := by
  obtain ⟨v', w', h1, h2, h3⟩ := append_oneL 23 3 _ 8 Tryz.underlying23 infoIC rfl w v n (List.replicate n (mkI i)) [mkI i] rfl (fun u hu => by
    simp only [List.mem_cons, List.not_mem_nil, or_false] at hu
    subst hu; rfl) h (by omega) (by rw [maxLen]; omega)
  exact ⟨v', w', h1, by rw [List.replicate_succ']; exact h2, h3⟩
theorem rx_eq {ρ ρ0 : Nat → Nat} {w0 w : World} {r : Nat} (h : ∀ k, k < w0.heap.size → ρ k = ρ0 k) (hs : w0.heap.size ≤ w.heap.size) : ∀ k, k < w0.heap.size → rx ρ w r k = ρ0 k := fun k hk => by rw [rx_old (Nat.lt_of_lt_of_le hk hs)]; exact h k hk
end Gb
end Chn
end Go.Proofs.YtjcapdkibbjmiaaGreatDoor
