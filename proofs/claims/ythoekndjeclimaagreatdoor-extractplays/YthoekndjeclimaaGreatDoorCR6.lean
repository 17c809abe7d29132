import Derived.Test.YthoekndjeclimaaGreatDoorCR5
import Derived.Test.YthoekndjeclimaaGreatDoorCW1
import Derived.Test.YthoekndjeclimaaGreatDoorCO1
import Derived.Lib.Strings
import Derived.Lib.Slices
import Derived.Lib.Small
import Derived.Lib.Walk
import Derived.Lib.BitFns
import Derived.Test.YthoekndjeclimaaGreatDoorCK4
namespace Go.Proofs.YthoekndjeclimaaGreatDoor
open Go.RowKit

theorem app_data (a b : ByteArray) : (a ++ b).data.toList = a.data.toList ++ b.data.toList := by
  have h := ByteArray.mk_append_mk a.data.toList b.data.toList
  rw [Array.toArray_toList, Array.toArray_toList] at h
  have h2 : a ++ b = ⟨(a.data.toList ++ b.data.toList).toArray⟩ := h
  rw [h2]
theorem app_size (a b : ByteArray) : (a ++ b).size = a.size + b.size := by rw [← data_length, app_data, List.length_append, data_length, data_length]
theorem joined_size (l r : ByteArray) (hl : l.size = 32) (hr : r.size = 32) : ({ data := #[1] } ++ l ++ r : ByteArray).size = 65 := by
  rw [app_size, app_size, hl, hr]; rfl
theorem joined_data (l r : ByteArray) : ({ data := #[1] } ++ l ++ r : ByteArray).data.toList = 1 :: (l.data.toList ++ r.data.toList) := by
  rw [app_data, app_data, List.append_assoc]; rfl
theorem rsum_at (s : ByteArray) (D : List UInt8) (hs : s.size ≤ 140737488355000) (hD : Hid (Sha.sha s.data.toList = D)) (w : World) :
    Calls Tryz.prog 54 #[.string s] w fun e w' => e = .returned (sv D) ∧ Below w.heap.size w w' := by
  have := rsum_any s hs w
  rwa [hD.out] at this
set_option maxRecDepth 100000 in
set_option maxHeartbeats 1000000 in
theorem rnode_ok (l r : ByteArray) (hl : l.size = 32) (hr : r.size = 32) (w : World) :
    Calls Tryz.prog 105 #[.string l, .string r] w fun e w' => e = .returned (.tuple #[sv (Sha.sha (1 :: (l.data.toList ++ r.data.toList))), .int .i64 0]) ∧ Below w.heap.size w w' := by
  go_enter Tryz.func105, Tryz.ntmps105
  obtain ⟨q, hq⟩ : ∃ q, q = ({ data := #[1] } ++ l ++ r : ByteArray) := ⟨_, rfl⟩
  have hqs := joined_size l r hl hr
  have hqd := joined_data l r
  rw [← hq] at hqs hqd
  obtain ⟨D, hD⟩ : ∃ D, Sha.sha (1 :: (l.data.toList ++ r.data.toList)) = D := ⟨_, rfl⟩
  rw [hD]
  rw [← hqd] at hD
  have HD := hid hD
  clear hD hqd
  go_wp2_with (go_at_call 54; fail)
  rw [← hq]
  clear hq
  refine (rsum_at q D (by omega) HD _).mono ?_
  rintro e w1 ⟨rfl, hw1⟩
  go_wp2
  go_ret2
  exact ⟨rfl, hw1⟩
set_option maxRecDepth 100000 in
set_option maxHeartbeats 400000 in
theorem rnode_bad1 (l r : ByteArray) (hl : ¬ l.size = 32) (w : World) :
    Calls Tryz.prog 105 #[.string l, .string r] w fun e w' => e = .returned (.tuple #[sv [], .int .i64 12]) ∧ w' = w := by
  have h1 : ((l.size : Int) != 32) = true := by simp; omega
  go_enter Tryz.func105, Tryz.ntmps105
  go_wp2
  go_ret2
  exact ⟨rfl, rfl⟩
set_option maxRecDepth 100000 in
set_option maxHeartbeats 400000 in
theorem rnode_bad2 (l r : ByteArray) (hl : l.size = 32) (hr : ¬ r.size = 32) (w : World) :
    Calls Tryz.prog 105 #[.string l, .string r] w fun e w' => e = .returned (.tuple #[sv [], .int .i64 12]) ∧ w' = w := by
  have h1 : ((r.size : Int) != 32) = true := by simp; omega
  go_enter Tryz.func105, Tryz.ntmps105
  go_wp2
  go_ret2
  exact ⟨rfl, rfl⟩
theorem rnode_any (l r : ByteArray) (w : World) :
    Calls Tryz.prog 105 #[.string l, .string r] w fun e w' => e = .returned (.tuple #[sv (nodeOf l.data.toList r.data.toList).1, .int .i64 (nodeOf l.data.toList r.data.toList).2]) ∧ Below w.heap.size w w' := by
  unfold nodeOf
  rw [data_length, data_length]
  by_cases hl : l.size = 32
  · by_cases hr : r.size = 32
    · rw [if_pos ⟨hl, hr⟩]; exact rnode_ok l r hl hr w
    · rw [if_neg (fun h => hr h.2)]
      refine (rnode_bad2 l r hl hr w).mono ?_
      rintro e w' ⟨rfl, rfl⟩
      exact ⟨rfl, Below.refl _ _⟩
  · rw [if_neg (fun h => hl h.1)]
    refine (rnode_bad1 l r hl w).mono ?_
    rintro e w' ⟨rfl, rfl⟩
    exact ⟨rfl, Below.refl _ _⟩
end Go.Proofs.YthoekndjeclimaaGreatDoor

namespace Go.Proofs.YthoekndjeclimaaGreatDoor
open Go.RowKit

theorem bitLen_log : ∀ (f x : Nat), x ≤ f → 1 ≤ x → x < 18446744073709551616 → Lib.bitLen x = x.log2 + 1
  | 0, x, h, h1, _ => by omega
  | f + 1, x, h, h1, h2 => by
    rw [Lib.bitLen_half x (by omega) h2]
    by_cases hx : x = 1
    · subst hx; decide
    · rw [bitLen_log f (x / 2) (by omega) (by omega) (by omega), Nat.log2_def x, if_pos (by omega)]; omega
theorem fold_tab (a b c d : List UInt8) (h : (a.append b).append (c.append d) = Lib.len8tab.data.toList) : ByteArray.mk ((a.append b).append (c.append d)).toArray = Lib.len8tab := by
  rw [h]
theorem tab_get (y : Int) (hb : y.toNat < Lib.len8tab.size) : (((Lib.len8tab[y.toNat]'hb).toNat : Nat) : Int) = Lib.len8 y := by
  unfold Lib.len8
  rw [ByteArray.getElem?_lt' _ _ hb]
  rfl
/-- s digits behind, the first ones by the table -/
theorem len_end {x y : Int} (s : Nat) (hx0 : 0 ≤ x) (hx : x < 18446744073709551616) (hs : s ≤ 56) (h : s = 0 ∨ 2 ^ s ≤ x.toNat) (hy : x.toNat / 2 ^ s = y.toNat) (hy0 : 0 ≤ y) (hy2 : y ≤ 255) (hb : y.toNat < Lib.len8tab.size) :
    wrap64 ((s : Int) + wrap64 (((Lib.len8tab[y.toNat]'hb).toNat : Nat) : Int)) = ((Lib.bitLen x.toNat : Nat) : Int) := by
  have h8 := Lib.bitLen_le8' y hy0 hy2
  rw [tab_get y hb, Lib.len8_of y hy0 hy2]
  have e1 : wrap64 ((Lib.bitLen y.toNat : Nat) : Int) = (Lib.bitLen y.toNat : Nat) := by unfold wrap64; omega
  have e2 : wrap64 ((s : Int) + ((Lib.bitLen y.toNat : Nat) : Int)) = (s : Int) + (Lib.bitLen y.toNat : Nat) := by unfold wrap64; omega
  rw [e1, e2]
  rcases h with rfl | h
  · rw [show x.toNat = y.toNat from by simpa using hy]; omega
  · rw [Lib.bitLen_shift s x.toNat h (by omega), hy]; omega
set_option maxRecDepth 100000 in
set_option maxHeartbeats 2000000 in
theorem len64_any (x : Int) (h0 : 0 ≤ x) (hx : x < 18446744073709551616) (w : World) :
    Calls Tryz.prog 98 #[.int .u64 x] w fun e w' => e = .returned (.int .i64 (Lib.bitLen x.toNat : Nat)) ∧ w' = w := by
  have h := Tryz.func98
  unfold Tryz.f98 at h
  rw [fold_tab _ _ _ _ (by decide +kernel)] at h
  go_enter h, Tryz.ntmps98
  clear h
  go_wp2
  all_goals first | (exfalso; have := Lib.len8tab_size; omega) | skip
  all_goals go_ret
  all_goals refine ⟨congrArg Ending.returned (congrArg (Value.int IntKind.i64) ?_), rfl⟩
  all_goals first
    | exact len_end 56 h0 hx (by omega) (.inr (by omega)) (by omega) (by omega) (by omega) _
    | exact len_end 48 h0 hx (by omega) (.inr (by omega)) (by omega) (by omega) (by omega) _
    | exact len_end 40 h0 hx (by omega) (.inr (by omega)) (by omega) (by omega) (by omega) _
    | exact len_end 32 h0 hx (by omega) (.inr (by omega)) (by omega) (by omega) (by omega) _
    | exact len_end 24 h0 hx (by omega) (.inr (by omega)) (by omega) (by omega) (by omega) _
    | exact len_end 16 h0 hx (by omega) (.inr (by omega)) (by omega) (by omega) (by omega) _
    | exact len_end 8 h0 hx (by omega) (.inr (by omega)) (by omega) (by omega) (by omega) _
    | (have e := len_end 0 h0 hx (by omega) (.inl rfl) (by omega) h0 (by omega) (by omega); rw [show ((0 : Nat) : Int) = 0 from rfl, Int.zero_add] at e; exact e)
set_option maxRecDepth 100000 in
set_option maxHeartbeats 2000000 in
theorem lenU_any (x : Int) (h0 : 0 ≤ x) (hx : x < 18446744073709551616) (w : World) :
    Calls Tryz.prog 72 #[.int .u64 x] w fun e w' => e = .returned (.int .i64 (Lib.bitLen x.toNat : Nat)) ∧ w' = w := by
  go_enter Tryz.func72, Tryz.ntmps72
  go_wp2_with (go_at_call 98; refine (len64_any x h0 hx _).mono ?_; rintro e w' ⟨rfl, rfl⟩)
  go_ret
  exact ⟨rfl, rfl⟩
end Go.Proofs.YthoekndjeclimaaGreatDoor

namespace Go.Proofs.YthoekndjeclimaaGreatDoor
open Go.RowKit

/-- T1 -/
def spI (n : Int) : Int := (Tree.sp n.toNat : Nat)
theorem log_le {x : Nat} (h1 : 1 ≤ x) (h : x < 9223372036854775808) : x.log2 ≤ 62 := by
  have := (Nat.log2_lt (n := x) (k := 63) (by omega)).2 h
  omega
theorem wrap_pow {L : Nat} (h : L ≤ 62) : wrap64 ((2 : Int) ^ L) = ((2 ^ L : Nat) : Int) := by
  have := Nat.pow_le_pow_right (n := 2) (by decide) h
  have e : ((2 : Int) ^ L) = ((2 ^ L : Nat) : Int) := by simp
  rw [e]
  generalize 2 ^ L = x at *
  unfold wrap64
  omega
set_option maxRecDepth 100000 in
set_option maxHeartbeats 2000000 in
theorem split_any (n : Int) (h0 : -9223372036854775808 ≤ n) (h1 : n ≤ 9223372036854775807) (w : World) :
    Calls Tryz.prog 52 #[.int .i64 n] w fun e w' => e = .returned (.int .i64 (spI n)) ∧ w' = w := by
  by_cases hn : n < 2
  · go_enter Tryz.func52, Tryz.ntmps52
    go_wp2
    go_ret
    exact ⟨by rw [spI, Tree.sp_small (by omega)]; rfl, rfl⟩
  · have hb := bitLen_log _ (n - 1).toNat (Nat.le_refl _) (by omega) (by omega)
    have hL := log_le (x := (n - 1).toNat) (by omega) (by omega)
    have e := hid (show spI n = ((2 ^ (n - 1).toNat.log2 : Nat) : Int) by rw [spI, Tree.sp_eq (by omega), show n.toNat - 1 = (n - 1).toNat from by omega])
    have hc := lenU_any (n - 1) (by omega) (by omega)
    rw [hb] at hc
    clear hb
    generalize (n - 1).toNat.log2 = L at *
    go_enter Tryz.func52, Tryz.ntmps52
    go_wp2_with (go_at_call 72; refine (hc _).mono ?_; rintro e w' ⟨rfl, rfl⟩)
    go_ret
    exact ⟨by rw [e.out, ← wrap_pow hL]; rfl, rfl⟩
set_option maxRecDepth 100000 in
set_option maxHeartbeats 2000000 in
theorem rsplit_any (n : Int) (h0 : -9223372036854775808 ≤ n) (h1 : n ≤ 9223372036854775807) (w : World) :
    Calls Tryz.prog 34 #[.int .i64 n] w fun e w' => e = .returned (.int .i64 (spI n)) ∧ w' = w := by
  by_cases hn : n < 2
  · go_enter Tryz.func34, Tryz.ntmps34
    go_wp2
    go_ret
    exact ⟨by rw [spI, Tree.sp_small (by omega)]; rfl, rfl⟩
  · go_enter Tryz.func34, Tryz.ntmps34
    go_wp2
    go_loopw [3] (fun k w' => ∃ a x : Nat, Hid (2 ^ a = x) ∧ k = .int .i64 (x : Int) ∧ (x : Int) < n ∧ 0 < x ∧ w' = w) (fun k _ => n.toNat - (intOf k).toNat)
    case atStart => exact ⟨0, 1, rfl, rfl, by omega, by omega, rfl⟩
    case round =>
      obtain ⟨a, x, hx, rfl, hlt, hpos, rfl⟩ := hrel
      by_cases hk : 2 * (x : Int) < n
      · have b0 : (x : Int) < n - (x : Int) := by omega
        go_wp2
        exact ⟨⟨a + 1, 2 * x, by rw [Hid, Nat.pow_succ, hx.out, Nat.mul_comm], by go_num, by omega, by omega, trivial⟩, by simp [intOf]; omega⟩
      · have b0 : ¬ (x : Int) < n - (x : Int) := by omega
        have e := hid (show spI n = (x : Int) by rw [spI, Tree.sp_one (by omega) a (by rw [hx.out]; omega) (by rw [hx.out]; omega), hx.out])
        go_wp2
        go_ret
        exact ⟨by rw [e.out]; rfl, rfl⟩
end Go.Proofs.YthoekndjeclimaaGreatDoor

namespace Go.Proofs.YthoekndjeclimaaGreatDoor
open Go.RowKit

theorem nodeOf_nd (l r : List UInt8) : (nodeOf l r).1 = Tree.nd l r := by unfold nodeOf Tree.nd; split <;> rfl
theorem node_at {l r n : List UInt8} {c : Int} (h : Hid (nodeOf l r = (n, c))) (w : World) (T : Tabs w) :
    Calls Tryz.prog 65 #[sv l, sv r] w fun e w' => e = .returned (.tuple #[sv n, .int .i64 c]) ∧ Below w.heap.size w w' := by
  have := node_any ⟨l.toArray⟩ ⟨r.toArray⟩ w T
  rw [show (ByteArray.mk l.toArray).data.toList = l from rfl, show (ByteArray.mk r.toArray).data.toList = r from rfl, h.out] at this
  exact this
theorem rnode_at {l r n : List UInt8} {c : Int} (h : Hid (nodeOf l r = (n, c))) (w : World) :
    Calls Tryz.prog 105 #[sv l, sv r] w fun e w' => e = .returned (.tuple #[sv n, .int .i64 c]) ∧ Below w.heap.size w w' := by
  have := rnode_any ⟨l.toArray⟩ ⟨r.toArray⟩ w
  rw [show (ByteArray.mk l.toArray).data.toList = l from rfl, show (ByteArray.mk r.toArray).data.toList = r from rfl, h.out] at this
  exact this
theorem emptySize' : (ByteArray.mk #[]).size = 0 := rfl
theorem rsum_nil {D : List UInt8} (hD : Hid (Sha.sha [] = D)) (w : World) :
    Calls Tryz.prog 54 #[.string ⟨#[]⟩] w fun e w' => e = .returned (sv D) ∧ Below w.heap.size w w' := by
  have h := rsum_any ⟨#[]⟩ (by rw [emptySize']; omega) w
  rw [show (ByteArray.mk #[]).data.toList = [] from rfl, hD.out] at h
  exact h
set_option maxRecDepth 100000 in
set_option maxHeartbeats 400000 in
theorem rempty_any {D : List UInt8} (hD : Hid (Sha.sha [] = D)) (w : World) :
    Calls Tryz.prog 104 #[] w fun e w' => e = .returned (sv D) ∧ Below w.heap.size w w' := by
  go_enter Tryz.func104, Tryz.ntmps104
  go_wp2_with (go_at_call 54; fail)
  refine (rsum_nil hD _).mono ?_
  rintro e w1 ⟨rfl, hw1⟩
  go_wp2
  go_ret
  exact ⟨rfl, hw1⟩

/-- texts that lie at an address -/
def At (w : World) (a : Option Addr) (l : List (List UInt8)) : Prop := ∀ j p, l[j]? = some p → ∃ x : Addr, a = some x ∧ x.block < w.heap.size ∧ w.cell? (x.add j) = some (sv p)
theorem addr_block (x : Addr) (j : Nat) : (x.add j).block = x.block := by unfold Addr.add; split <;> rfl
theorem addr_zero (x : Addr) : x.add 0 = x := rfl
theorem addr_add (x : Addr) (i j : Nat) : (x.add i).add j = x.add (i + j) := by
  unfold Addr.add
  by_cases hi : i = 0
  · subst hi; simp
  · by_cases hj : j = 0
    · subst hj; simp
    · rw [if_neg hi, if_neg hj, if_neg (by omega)]; simp; omega
theorem At.nil (w : World) (a : Option Addr) : At w a [] := fun j p h => by simp at h
theorem At.below {w w' : World} {a : Option Addr} {l : List (List UInt8)} {B : Nat} (h : At w a l) (hb : Below B w w') (hB : w.heap.size ≤ B) : At w' a l := fun j p hp => by
  obtain ⟨x, rfl, hx, hc⟩ := h j p hp
  exact ⟨x, rfl, Nat.lt_of_lt_of_le hx hb.size, (hb.cell (p := x.add j) (by rw [addr_block]; omega)).trans hc⟩
theorem At.heap {w w' : World} {a : Option Addr} {l : List (List UInt8)} (h : At w a l) (e : w'.heap = w.heap) : At w' a l := fun j p hp => by
  obtain ⟨x, rfl, hx, hc⟩ := h j p hp
  refine ⟨x, rfl, by rw [e]; exact hx, ?_⟩
  rw [← hc]
  exact World.cell?_of_block (w := w) (by rw [e])
theorem At.take {w : World} {a : Option Addr} {l : List (List UInt8)} (h : At w a l) (k : Nat) : At w a (l.take k) := fun j p hp => by
  rw [List.getElem?_take] at hp
  split at hp
  · exact h j p hp
  · cases hp
theorem At.drop {w : World} {x : Addr} {l : List (List UInt8)} (h : At w (some x) l) (k : Nat) : At w (some (x.add k)) (l.drop k) := fun j p hp => by
  rw [List.getElem?_drop] at hp
  obtain ⟨y, hy, hx, hc⟩ := h (k + j) p hp
  obtain rfl := Option.some.inj hy
  exact ⟨_, rfl, by rw [addr_block]; exact hx, by rw [addr_add]; exact hc⟩
theorem At.pos {w : World} {a : Option Addr} {l : List (List UInt8)} (h : At w a l) (hl : 0 < l.length) : ∃ x, a = some x := by
  obtain ⟨x, hx, _⟩ := h 0 _ (List.getElem?_eq_getElem hl)
  exact ⟨x, hx⟩
theorem At.cell {w : World} {x : Addr} {l : List (List UInt8)} (h : At w (some x) l) (j : Nat) (hj : j < l.length) : ∃ s : ByteArray, Hid (s.data.toList = l[j]) ∧ w.cell? (x.add j) = some (.string s) := by
  obtain ⟨y, hy, _, hc⟩ := h j _ (List.getElem?_eq_getElem hj)
  obtain rfl := Option.some.inj hy
  exact ⟨⟨(l[j]).toArray⟩, rfl, hc⟩

set_option maxRecDepth 100000 in
set_option maxHeartbeats 2000000 in
theorem cut_any (x : Addr) (n cap k : Nat) (hk : k < n) (hn : n ≤ cap) (w : World) :
    Calls Tryz.prog 64 #[.slice (some x) n cap, .int .i64 k] w fun e w' =>
      e = .returned (.tuple #[.slice (some x) k k, .slice (some (x.add k)) (n - k) (n - k)]) ∧ Below w.heap.size w w' ∧ w'.heap = w.heap := by
  have hne : ¬ n = k := by omega
  go_enter Tryz.func64, Tryz.ntmps64
  go_wp2
  go_quiet (fail)
  go_wp2
  go_ret2
  exact ⟨rfl, below_drewN (Below.refl _ _) _, rfl⟩
end Go.Proofs.YthoekndjeclimaaGreatDoor

namespace Go.Proofs.YthoekndjeclimaaGreatDoor
open Go.RowKit

set_option maxRecDepth 100000 in
set_option maxHeartbeats 400000 in
theorem R_nil (a : Option Addr) (cap : Nat) (w : World) :
    Calls Tryz.prog 81 #[.slice a 0 cap] w fun e w' => e = .returned (sv (Tree.root [])) ∧ Below w.heap.size w w' := by
  rw [Tree.root_nil]
  obtain ⟨D, hD⟩ : ∃ D, Sha.sha [] = D := ⟨_, rfl⟩
  rw [hD]
  have HD := hid hD
  clear hD
  go_enter Tryz.func81, Tryz.ntmps81
  go_wp2_with (go_at_call 104; refine (rempty_any HD _).mono ?_; rintro e w1 ⟨rfl, hw1⟩)
  go_ret
  exact ⟨rfl, hw1⟩
set_option maxRecDepth 100000 in
set_option maxHeartbeats 400000 in
theorem R_one (p : List UInt8) (a : Option Addr) (cap : Nat) (w : World) (hA : At w a [p]) :
    Calls Tryz.prog 81 #[.slice a 1 cap] w fun e w' => e = .returned (sv (Tree.root [p])) ∧ Below w.heap.size w w' := by
  rw [Tree.root_one]
  obtain ⟨x, rfl, hx, hc⟩ := hA 0 p rfl
  rw [addr_zero] at hc
  go_enter Tryz.func81, Tryz.ntmps81
  go_wp2
  go_ret
  exact ⟨rfl, Below.refl _ _⟩
set_option maxRecDepth 100000 in
set_option maxHeartbeats 2000000 in
/-- the document's R -/
theorem R_any : ∀ (f : Nat) (l : List (List UInt8)) (a : Option Addr) (cap : Nat) (w : World), l.length ≤ f → l.length ≤ cap → cap ≤ 9223372036854775807 → At w a l →
    Calls Tryz.prog 81 #[.slice a l.length cap] w fun e w' => e = .returned (sv (Tree.root l)) ∧ Below w.heap.size w w' := by
  intro f
  induction f with
  | zero =>
    intro l a cap w hf hl hc hA
    obtain rfl : l = [] := List.length_eq_zero_iff.1 (by omega)
    exact R_nil a cap w
  | succ f ih =>
    intro l a cap w hf hl hc hA
    match l, hf, hl, hA with
    | [], _, _, _ => exact R_nil a cap w
    | [p], _, _, hA => exact R_one p a cap w hA
    | p :: q :: t, hf, hl, hA =>
      obtain ⟨n, hn⟩ : ∃ n, (p :: q :: t).length = n := ⟨_, rfl⟩
      have h2 : 2 ≤ n := by rw [← hn]; simp
      obtain ⟨x, rfl⟩ := hA.pos (by rw [hn]; omega)
      have e := hid (Tree.root_cut (l := p :: q :: t) (by rw [hn]; exact h2))
      generalize p :: q :: t = l at *
      rw [hn] at e hf hl ⊢
      have k1 := Tree.sp_lt h2
      have k2 := Tree.sp_pos h2
      have hs : spI (n : Int) = ((Tree.sp n : Nat) : Int) := rfl
      generalize Tree.sp n = k at *
      have l1 : (l.take k).length = k := by rw [List.length_take, hn]; omega
      have l2 : (l.drop k).length = n - k := by rw [List.length_drop, hn]
      have c1 := fun w' (h : At w' (some x) (l.take k)) => ih (l.take k) (some x) cap w' (by omega) (by omega) hc h
      have c2 := fun w' (h : At w' (some (x.add k)) (l.drop k)) => ih (l.drop k) (some (x.add k)) (cap - k) w' (by omega) (by omega) (by omega) h
      rw [l1] at c1
      rw [l2] at c2
      have n1 : ((n : Int) == 0) = false := by simp; omega
      have n2 : ((n : Int) == 1) = false := by simp; omega
      have hne : ¬ cap = k := by omega
      have A1 := hid (hA.take k)
      have A2 := hid (hA.drop k)
      generalize hp1 : Tree.root (l.take k) = r1 at *
      generalize hp2 : Tree.root (l.drop k) = r2 at *
      obtain ⟨m, c, hm⟩ : ∃ m c, Hid (nodeOf r1 r2 = (m, c)) := ⟨_, _, rfl⟩
      have e' := hid (show Tree.root l = m by rw [e.out, ← nodeOf_nd, hm.out])
      clear hA ih hn e hp1 hp2
      go_enter Tryz.func81, Tryz.ntmps81
      go_wp2_with (first
        | (go_at_call 34; refine (rsplit_any (n : Int) (by omega) (by omega) _).mono ?_; rintro e w0 ⟨rfl, rfl⟩; rw [hs])
        | (go_at_call 81; with_reducible refine (c1 _ A1.out).mono ?_; rintro e w1 ⟨rfl, hw1⟩)
        | (go_at_call 81; go_must (with_reducible refine (c2 _ (A2.out.below hw1 (Nat.le_refl _))).mono ?_); rintro e w2 ⟨rfl, hw2⟩)
        | (go_at_call 105; refine (rnode_at hm _).mono ?_; rintro e w3 ⟨rfl, hw3⟩))
      go_ret
      refine ⟨by rw [e'.out]; rfl, ?_⟩
      have s1 := hw1.size
      have s2 := hw2.size
      exact (hw1.trans (hw2.mono s1)).trans (hw3.mono (by omega))
end Go.Proofs.YthoekndjeclimaaGreatDoor
