import Derived.Test.YtnecfodlhjjpcaaDoorCR5
import Derived.Test.YtnecfodlhjjpcaaDoorCFN1
namespace Go.Proofs.YtnecfodlhjjpcaaDoor
open Go.RowKit

theorem app_data (a b : ByteArray) : (a ++ b).data.toList = a.data.toList ++ b.data.toList := by
  have h := ByteArray.mk_append_mk a.data.toList b.data.toList
  rw [Array.toArray_toList, Array.toArray_toList] at h
  have h2 : a ++ b = ⟨(a.data.toList ++ b.data.toList).toArray⟩ := h
  rw [h2]
theorem app_size (a b : ByteArray) : (a ++ b).size = a.size + b.size := by rw [← data_length, app_data, List.length_append, data_length, data_length]
theorem joined_size (l r : ByteArray) (hl : l.size = 32) (hr : r.size = 32) : ({ data := #[1] } ++ l ++ r : ByteArray).size = 65 := by
  rw [app_size, app_size, hl, hr]; rfl
theorem joined_data (l r : ByteArray) : ({ data := #[1] } ++ l ++ r : ByteArray).data.toList = 1 :: (l.data.toList ++ r.data.toList) := by
  rw [app_data, app_data, List.append_assoc]; rfl
theorem rsum_at (s : ByteArray) (D : List UInt8) (hs : s.size ≤ 140737488355000) (hD : Hid (Sha.sha s.data.toList = D)) (w : World) :
    Calls Tryd.prog 84 #[.string s] w fun e w' => e = .returned (sv D) ∧ Below w.heap.size w w' := by
  have := rsum_any s hs w
  rwa [hD.out] at this
set_option maxRecDepth 100000 in
set_option maxHeartbeats 1000000 in
theorem rnode_ok (l r : ByteArray) (hl : l.size = 32) (hr : r.size = 32) (w : World) :
    Calls Tryd.prog 76 #[.string l, .string r] w fun e w' => e = .returned (.tuple #[sv (Sha.sha (1 :: (l.data.toList ++ r.data.toList))), .int .i64 0]) ∧ Below w.heap.size w w' := by
  go_enter Tryd.func76, Tryd.ntmps76
  obtain ⟨q, hq⟩ : ∃ q, q = ({ data := #[1] } ++ l ++ r : ByteArray) := ⟨_, rfl⟩
  have hqs := joined_size l r hl hr
  have hqd := joined_data l r
  rw [← hq] at hqs hqd
  obtain ⟨D, hD⟩ : ∃ D, Sha.sha (1 :: (l.data.toList ++ r.data.toList)) = D := ⟨_, rfl⟩
  rw [hD]
  rw [← hqd] at hD
  have HD := hid hD
  clear hD hqd
  go_wp2_with (go_at_call 84; fail)
  rw [← hq]
  clear hq
  refine (rsum_at q D (by omega) HD _).mono ?_
  rintro e w1 ⟨rfl, hw1⟩
  go_wp2
  go_ret2
  exact ⟨rfl, hw1⟩
set_option maxRecDepth 100000 in
set_option maxHeartbeats 400000 in
theorem rnode_bad1 (l r : ByteArray) (hl : ¬ l.size = 32) (w : World) :
    Calls Tryd.prog 76 #[.string l, .string r] w fun e w' => e = .returned (.tuple #[sv [], .int .i64 12]) ∧ w' = w := by
  have h1 : ((l.size : Int) != 32) = true := by simp; omega
  go_enter Tryd.func76, Tryd.ntmps76
  go_wp2
  go_ret2
  exact ⟨rfl, rfl⟩
set_option maxRecDepth 100000 in
set_option maxHeartbeats 400000 in
theorem rnode_bad2 (l r : ByteArray) (hl : l.size = 32) (hr : ¬ r.size = 32) (w : World) :
    Calls Tryd.prog 76 #[.string l, .string r] w fun e w' => e = .returned (.tuple #[sv [], .int .i64 12]) ∧ w' = w := by
  have h1 : ((r.size : Int) != 32) = true := by simp; omega
  go_enter Tryd.func76, Tryd.ntmps76
  go_wp2
  go_ret2
  exact ⟨rfl, rfl⟩
theorem rnode_any (l r : ByteArray) (w : World) :
    Calls Tryd.prog 76 #[.string l, .string r] w fun e w' => e = .returned (.tuple #[sv (nodeOf l.data.toList r.data.toList).1, .int .i64 (nodeOf l.data.toList r.data.toList).2]) ∧ Below w.heap.size w w' := by
  unfold nodeOf
  rw [data_length, data_length]
  by_cases hl : l.size = 32
  · by_cases hr : r.size = 32
    · rw [if_pos ⟨hl, hr⟩]; exact rnode_ok l r hl hr w
    · rw [if_neg (fun h => hr h.2)]
      refine (rnode_bad2 l r hl hr w).mono ?_
      rintro e w' ⟨rfl, rfl⟩
      exact ⟨rfl, Below.refl _ _⟩
  · rw [if_neg (fun h => hl h.1)]
    refine (rnode_bad1 l r hl w).mono ?_
    rintro e w' ⟨rfl, rfl⟩
    exact ⟨rfl, Below.refl _ _⟩
end Go.Proofs.YtnecfodlhjjpcaaDoor

namespace Go.Proofs.YtnecfodlhjjpcaaDoor
open Go.RowKit

theorem nodeOf_nd (l r : List UInt8) : (nodeOf l r).1 = Tree.nd l r := by unfold nodeOf Tree.nd; split <;> rfl
theorem node_at {l r n : List UInt8} {c : Int} (h : Hid (nodeOf l r = (n, c))) (w : World) (T : Tabs w) :
    Calls Tryd.prog 37 #[sv l, sv r] w fun e w' => e = .returned (.tuple #[sv n, .int .i64 c]) ∧ Below w.heap.size w w' := by
  have := node_any ⟨l.toArray⟩ ⟨r.toArray⟩ w T
  rw [show (ByteArray.mk l.toArray).data.toList = l from rfl, show (ByteArray.mk r.toArray).data.toList = r from rfl, h.out] at this
  exact this
theorem rnode_at {l r n : List UInt8} {c : Int} (h : Hid (nodeOf l r = (n, c))) (w : World) :
    Calls Tryd.prog 76 #[sv l, sv r] w fun e w' => e = .returned (.tuple #[sv n, .int .i64 c]) ∧ Below w.heap.size w w' := by
  have := rnode_any ⟨l.toArray⟩ ⟨r.toArray⟩ w
  rw [show (ByteArray.mk l.toArray).data.toList = l from rfl, show (ByteArray.mk r.toArray).data.toList = r from rfl, h.out] at this
  exact this
theorem emptySize' : (ByteArray.mk #[]).size = 0 := rfl
theorem rsum_nil {D : List UInt8} (hD : Hid (Sha.sha [] = D)) (w : World) :
    Calls Tryd.prog 84 #[.string ⟨#[]⟩] w fun e w' => e = .returned (sv D) ∧ Below w.heap.size w w' := by
  have h := rsum_any ⟨#[]⟩ (by rw [emptySize']; omega) w
  rw [show (ByteArray.mk #[]).data.toList = [] from rfl, hD.out] at h
  exact h
set_option maxRecDepth 100000 in
set_option maxHeartbeats 400000 in
theorem rempty_any {D : List UInt8} (hD : Hid (Sha.sha [] = D)) (w : World) :
    Calls Tryd.prog 75 #[] w fun e w' => e = .returned (sv D) ∧ Below w.heap.size w w' := by
  go_enter Tryd.func75, Tryd.ntmps75
  go_wp2_with (go_at_call 84; fail)
  refine (rsum_nil hD _).mono ?_
  rintro e w1 ⟨rfl, hw1⟩
  go_wp2
  go_ret
  exact ⟨rfl, hw1⟩

/-- texts that lie at an address -/
def At (w : World) (a : Option Addr) (l : List (List UInt8)) : Prop := ∀ j p, l[j]? = some p → ∃ x : Addr, a = some x ∧ x.block < w.heap.size ∧ w.cell? (x.add j) = some (sv p)
theorem addr_block (x : Addr) (j : Nat) : (x.add j).block = x.block := by unfold Addr.add; split <;> rfl
theorem addr_zero (x : Addr) : x.add 0 = x := rfl
theorem addr_add (x : Addr) (i j : Nat) : (x.add i).add j = x.add (i + j) := by
  unfold Addr.add
  by_cases hi : i = 0
  · subst hi; simp
  · by_cases hj : j = 0
    · subst hj; simp
    · rw [if_neg hi, if_neg hj, if_neg (by omega)]; simp; omega
theorem At.nil (w : World) (a : Option Addr) : At w a [] := fun j p h => by simp at h
theorem At.below {w w' : World} {a : Option Addr} {l : List (List UInt8)} {B : Nat} (h : At w a l) (hb : Below B w w') (hB : w.heap.size ≤ B) : At w' a l := fun j p hp => by
  obtain ⟨x, rfl, hx, hc⟩ := h j p hp
  exact ⟨x, rfl, Nat.lt_of_lt_of_le hx hb.size, (hb.cell (p := x.add j) (by rw [addr_block]; omega)).trans hc⟩
theorem At.heap {w w' : World} {a : Option Addr} {l : List (List UInt8)} (h : At w a l) (e : w'.heap = w.heap) : At w' a l := fun j p hp => by
  obtain ⟨x, rfl, hx, hc⟩ := h j p hp
  refine ⟨x, rfl, by rw [e]; exact hx, ?_⟩
  rw [← hc]
  exact World.cell?_of_block (w := w) (by rw [e])
theorem At.take {w : World} {a : Option Addr} {l : List (List UInt8)} (h : At w a l) (k : Nat) : At w a (l.take k) := fun j p hp => by
  rw [List.getElem?_take] at hp
  split at hp
  · exact h j p hp
  · cases hp
theorem At.drop {w : World} {x : Addr} {l : List (List UInt8)} (h : At w (some x) l) (k : Nat) : At w (some (x.add k)) (l.drop k) := fun j p hp => by
  rw [List.getElem?_drop] at hp
  obtain ⟨y, hy, hx, hc⟩ := h (k + j) p hp
  obtain rfl := Option.some.inj hy
  exact ⟨_, rfl, by rw [addr_block]; exact hx, by rw [addr_add]; exact hc⟩
theorem At.pos {w : World} {a : Option Addr} {l : List (List UInt8)} (h : At w a l) (hl : 0 < l.length) : ∃ x, a = some x := by
  obtain ⟨x, hx, _⟩ := h 0 _ (List.getElem?_eq_getElem hl)
  exact ⟨x, hx⟩
theorem At.cell {w : World} {x : Addr} {l : List (List UInt8)} (h : At w (some x) l) (j : Nat) (hj : j < l.length) : ∃ s : ByteArray, Hid (s.data.toList = l[j]) ∧ w.cell? (x.add j) = some (.string s) := by
  obtain ⟨y, hy, _, hc⟩ := h j _ (List.getElem?_eq_getElem hj)
  obtain rfl := Option.some.inj hy
  exact ⟨⟨(l[j]).toArray⟩, rfl, hc⟩

set_option maxRecDepth 100000 in
set_option maxHeartbeats 2000000 in
theorem cut_any (x : Addr) (n cap k : Nat) (hk : k < n) (hn : n ≤ cap) (w : World) :
    Calls Tryd.prog 70 #[.slice (some x) n cap, .int .i64 k] w fun e w' =>
      e = .returned (.tuple #[.slice (some x) k k, .slice (some (x.add k)) (n - k) (n - k)]) ∧ Below w.heap.size w w' ∧ w'.heap = w.heap := by
  have hne : ¬ n = k := by omega
  go_enter Tryd.func70, Tryd.ntmps70
  go_wp2
  go_quiet (fail)
  go_wp2
  go_ret2
  exact ⟨rfl, below_drewN (Below.refl _ _) _, rfl⟩
end Go.Proofs.YtnecfodlhjjpcaaDoor

namespace Go.Proofs.YtnecfodlhjjpcaaDoor
open Go.RowKit

set_option maxRecDepth 100000 in
set_option maxHeartbeats 400000 in
theorem R_nil (a : Option Addr) (cap : Nat) (w : World) :
    Calls Tryd.prog 62 #[.slice a 0 cap] w fun e w' => e = .returned (sv (Tree.root [])) ∧ Below w.heap.size w w' := by
  rw [Tree.root_nil]
  obtain ⟨D, hD⟩ : ∃ D, Sha.sha [] = D := ⟨_, rfl⟩
  rw [hD]
  have HD := hid hD
  clear hD
  go_enter Tryd.func62, Tryd.ntmps62
  go_wp2_with (go_at_call 75; refine (rempty_any HD _).mono ?_; rintro e w1 ⟨rfl, hw1⟩)
  go_ret
  exact ⟨rfl, hw1⟩
set_option maxRecDepth 100000 in
set_option maxHeartbeats 400000 in
theorem R_one (p : List UInt8) (a : Option Addr) (cap : Nat) (w : World) (hA : At w a [p]) :
    Calls Tryd.prog 62 #[.slice a 1 cap] w fun e w' => e = .returned (sv (Tree.root [p])) ∧ Below w.heap.size w w' := by
  rw [Tree.root_one]
  obtain ⟨x, rfl, hx, hc⟩ := hA 0 p rfl
  rw [addr_zero] at hc
  go_enter Tryd.func62, Tryd.ntmps62
  go_wp2
  go_ret
  exact ⟨rfl, Below.refl _ _⟩
set_option maxRecDepth 100000 in
set_option maxHeartbeats 2000000 in
/-- the document's R -/
theorem R_any : ∀ (f : Nat) (l : List (List UInt8)) (a : Option Addr) (cap : Nat) (w : World), l.length ≤ f → l.length ≤ cap → cap ≤ 9223372036854775807 → At w a l →
    Calls Tryd.prog 62 #[.slice a l.length cap] w fun e w' => e = .returned (sv (Tree.root l)) ∧ Below w.heap.size w w' := by
  intro f
  induction f with
  | zero =>
    intro l a cap w hf hl hc hA
    obtain rfl : l = [] := List.length_eq_zero_iff.1 (by omega)
    exact R_nil a cap w
  | succ f ih =>
    intro l a cap w hf hl hc hA
    match l, hf, hl, hA with
    | [], _, _, _ => exact R_nil a cap w
    | [p], _, _, hA => exact R_one p a cap w hA
    | p :: q :: t, hf, hl, hA =>
      obtain ⟨n, hn⟩ : ∃ n, (p :: q :: t).length = n := ⟨_, rfl⟩
      have h2 : 2 ≤ n := by rw [← hn]; simp
      obtain ⟨x, rfl⟩ := hA.pos (by rw [hn]; omega)
      have e := hid (Tree.root_cut (l := p :: q :: t) (by rw [hn]; exact h2))
      generalize p :: q :: t = l at *
      rw [hn] at e hf hl ⊢
      have k1 := Tree.sp_lt h2
      have k2 := Tree.sp_pos h2
      have hs : spI (n : Int) = ((Tree.sp n : Nat) : Int) := rfl
      generalize Tree.sp n = k at *
      have l1 : (l.take k).length = k := by rw [List.length_take, hn]; omega
      have l2 : (l.drop k).length = n - k := by rw [List.length_drop, hn]
      have c1 := fun w' (h : At w' (some x) (l.take k)) => ih (l.take k) (some x) cap w' (by omega) (by omega) hc h
      have c2 := fun w' (h : At w' (some (x.add k)) (l.drop k)) => ih (l.drop k) (some (x.add k)) (cap - k) w' (by omega) (by omega) (by omega) h
      rw [l1] at c1
      rw [l2] at c2
      have n1 : ((n : Int) == 0) = false := by simp; omega
      have n2 : ((n : Int) == 1) = false := by simp; omega
      have hne : ¬ cap = k := by omega
      have A1 := hid (hA.take k)
      have A2 := hid (hA.drop k)
      generalize hp1 : Tree.root (l.take k) = r1 at *
      generalize hp2 : Tree.root (l.drop k) = r2 at *
      obtain ⟨m, c, hm⟩ : ∃ m c, Hid (nodeOf r1 r2 = (m, c)) := ⟨_, _, rfl⟩
      have e' := hid (show Tree.root l = m by rw [e.out, ← nodeOf_nd, hm.out])
      clear hA ih hn e hp1 hp2
      go_enter Tryd.func62, Tryd.ntmps62
      go_wp2_with (first
        | (go_at_call 77; refine (rsplit_any (n : Int) (by omega) (by omega) _).mono ?_; rintro e w0 ⟨rfl, rfl⟩; rw [hs])
        | (go_at_call 62; with_reducible refine (c1 _ A1.out).mono ?_; rintro e w1 ⟨rfl, hw1⟩)
        | (go_at_call 62; go_must (with_reducible refine (c2 _ (A2.out.below hw1 (Nat.le_refl _))).mono ?_); rintro e w2 ⟨rfl, hw2⟩)
        | (go_at_call 76; refine (rnode_at hm _).mono ?_; rintro e w3 ⟨rfl, hw3⟩))
      go_ret
      refine ⟨by rw [e'.out]; rfl, ?_⟩
      have s1 := hw1.size
      have s2 := hw2.size
      exact (hw1.trans (hw2.mono s1)).trans (hw3.mono (by omega))
end Go.Proofs.YtnecfodlhjjpcaaDoor

namespace Go.Proofs.YtnecfodlhjjpcaaDoor
open Go.RowKit

/-- the closure that calls itself, in its own variable -/
def rootFn (c : Nat) : Value := .func (.func 69) #[] #[.pointer (some ⟨c, 0, none⟩)]
set_option maxRecDepth 100000 in
set_option maxHeartbeats 400000 in
theorem root1_nil (a : Option Addr) (cap c : Nat) (w : World) (T : Tabs w) :
    Calls Tryd.prog 69 #[.slice a 0 cap, .pointer (some ⟨c, 0, none⟩)] w fun e w' => e = .returned (sv (Tree.root [])) ∧ Below w.heap.size w w' := by
  rw [Tree.root_nil]
  have he := empty_any w T
  obtain ⟨D, hD⟩ : ∃ D, Sha.sha [] = D := ⟨_, rfl⟩
  rw [hD] at he ⊢
  clear hD
  go_enter Tryd.func69, Tryd.ntmps69
  go_wp2_with (go_at_call 68; refine he.mono ?_; rintro e w1 ⟨rfl, hw1⟩)
  go_ret
  exact ⟨rfl, hw1⟩
set_option maxRecDepth 100000 in
set_option maxHeartbeats 400000 in
theorem root1_one (p : List UInt8) (a : Option Addr) (cap c : Nat) (w : World) (hA : At w a [p]) :
    Calls Tryd.prog 69 #[.slice a 1 cap, .pointer (some ⟨c, 0, none⟩)] w fun e w' => e = .returned (sv (Tree.root [p])) ∧ Below w.heap.size w w' := by
  rw [Tree.root_one]
  obtain ⟨x, rfl, hx, hc⟩ := hA 0 p rfl
  rw [addr_zero] at hc
  go_enter Tryd.func69, Tryd.ntmps69
  go_wp2
  go_ret
  exact ⟨rfl, Below.refl _ _⟩
theorem cell_below {w w' : World} {c : Nat} {v : Value} (h : w.cell? ⟨c, 0, none⟩ = some v) (hb : Below w.heap.size w w') : w'.cell? ⟨c, 0, none⟩ = some v :=
  (hb.cell (p := ⟨c, 0, none⟩) (block_lt_of_cell h)).trans h
set_option maxRecDepth 100000 in
set_option maxHeartbeats 2000000 in
theorem root1_any : ∀ (f : Nat) (l : List (List UInt8)) (a : Option Addr) (cap c : Nat) (w : World), l.length ≤ f → l.length ≤ cap → cap ≤ 9223372036854775807 → At w a l → Tabs w →
    w.cell? ⟨c, 0, none⟩ = some (.func (.func 69) #[] #[.pointer (some ⟨c, 0, none⟩)]) →
    Calls Tryd.prog 69 #[.slice a l.length cap, .pointer (some ⟨c, 0, none⟩)] w fun e w' => e = .returned (sv (Tree.root l)) ∧ Below w.heap.size w w' := by
  intro f
  induction f with
  | zero =>
    intro l a cap c w hf hl hc hA T hcl
    obtain rfl : l = [] := List.length_eq_zero_iff.1 (by omega)
    exact root1_nil a cap c w T
  | succ f ih =>
    intro l a cap c w hf hl hc hA T hcl
    match l, hf, hl, hA with
    | [], _, _, _ => exact root1_nil a cap c w T
    | [p], _, _, hA => exact root1_one p a cap c w hA
    | p :: q :: t, hf, hl, hA =>
      obtain ⟨n, hn⟩ : ∃ n, (p :: q :: t).length = n := ⟨_, rfl⟩
      have h2 : 2 ≤ n := by rw [← hn]; simp
      obtain ⟨x, rfl⟩ := hA.pos (by rw [hn]; omega)
      have e := hid (Tree.root_cut (l := p :: q :: t) (by rw [hn]; exact h2))
      generalize p :: q :: t = l at *
      rw [hn] at e hf hl ⊢
      have k1 := Tree.sp_lt h2
      have k2 := Tree.sp_pos h2
      have hs : spI (n : Int) = ((Tree.sp n : Nat) : Int) := rfl
      generalize Tree.sp n = k at *
      have l1 : (l.take k).length = k := by rw [List.length_take, hn]; omega
      have l2 : (l.drop k).length = n - k := by rw [List.length_drop, hn]
      have c1 := fun w' (h : At w' (some x) (l.take k)) => ih (l.take k) (some x) k c w' (by omega) (by omega) (by omega) h
      have c2 := fun w' (h : At w' (some (x.add k)) (l.drop k)) => ih (l.drop k) (some (x.add k)) (n - k) c w' (by omega) (by omega) (by omega) h
      rw [l1] at c1
      rw [l2] at c2
      have n1 : ((n : Int) == 0) = false := by simp; omega
      have n2 : ((n : Int) == 1) = false := by simp; omega
      have A1 := hid (hA.take k)
      have A2 := hid (hA.drop k)
      generalize hp1 : Tree.root (l.take k) = r1 at *
      generalize hp2 : Tree.root (l.drop k) = r2 at *
      obtain ⟨m, d, hm⟩ : ∃ m d, Hid (nodeOf r1 r2 = (m, d)) := ⟨_, _, rfl⟩
      have e' := hid (show Tree.root l = m by rw [e.out, ← nodeOf_nd, hm.out])
      have HT := hid T
      clear hA ih hn e hp1 hp2 T
      go_enter Tryd.func69, Tryd.ntmps69
      go_wp2_with (first
        | (go_at_call 71; refine (split_any (n : Int) (by omega) (by omega) _).mono ?_; rintro e w0 ⟨rfl, rfl⟩; rw [hs])
        | (go_at_call 70; refine (cut_any x n cap k k1 hl _).mono ?_; rintro e wc ⟨rfl, hbc, hhc⟩; have hcl0 := cell_below hcl hbc))
      have Bc := hid hbc.drew
      have A1c := hid (A1.out.heap (w' := wc.drew) hhc)
      have A2c := hid (A2.out.heap (w' := wc.drew) hhc)
      have Tc := hid (HT.out.below hbc.drew HT.out.lt)
      have hcl1 : wc.drew.cell? ⟨c, 0, none⟩ = some (.func (.func 69) #[] #[.pointer (some ⟨c, 0, none⟩)]) := hcl0
      clear hbc hhc A1 A2 HT hcl hcl0
      go_region_with (first
        | (go_at_call 69; with_reducible refine (c1 _ A1c.out Tc.out hcl1).mono ?_; rintro e w1 ⟨rfl, hw1⟩; have hcl2 := cell_below hcl1 hw1)
        | (go_at_call 69; with_reducible refine (c2 _ (A2c.out.below hw1 (Nat.le_refl _)) (Tc.out.below hw1 Tc.out.lt) hcl2).mono ?_; rintro e w2 ⟨rfl, hw2⟩)
        | (go_at_call 37; refine (node_at hm _ ((Tc.out.below hw1 Tc.out.lt).below hw2 (Tc.out.below hw1 Tc.out.lt).lt)).mono ?_; rintro e w3 ⟨rfl, hw3⟩))
      all_goals
        have s1 := hw1.size
        have s2 := hw2.size
        have s3 := Bc.out.size
        have Bf := hid (((Bc.out.trans (hw1.mono (by omega))).trans (hw2.mono (by omega))).trans (hw3.mono (by omega)))
        clear hw1 hw2 hw3 s1 s2 s3 Bc
        go_wp2
        go_ret
        exact ⟨by rw [e'.out]; rfl, Bf.out⟩
end Go.Proofs.YtnecfodlhjjpcaaDoor
