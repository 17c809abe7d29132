import Derived.Test.YtkbngmhhlpdpnaaDoorR6
import Derived.Test.YtkbngmhhlpdpnaaDoorO2Q
namespace Go.Proofs.YtkbngmhhlpdpnaaDoor
open Go.RowKit

theorem nodeOf_nd (l r : List UInt8) : (nodeOf l r).1 = Tree.nd l r := by unfold nodeOf Tree.nd; split <;> rfl
theorem node_at {l r n : List UInt8} {c : Int} (h : Hid (nodeOf l r = (n, c))) (w : World) (T : Tabs w) :
    Calls Tryd.prog 76 #[sv l, sv r] w fun e w' => e = .returned (.tuple #[sv n, .int .i64 c]) ∧ Below w.heap.size w w' := by
  have := node_any ⟨l.toArray⟩ ⟨r.toArray⟩ w T
  rw [show (ByteArray.mk l.toArray).data.toList = l from rfl, show (ByteArray.mk r.toArray).data.toList = r from rfl, h.out] at this
  exact this
theorem rnode_at {l r n : List UInt8} {c : Int} (h : Hid (nodeOf l r = (n, c))) (w : World) :
    Calls Tryd.prog 85 #[sv l, sv r] w fun e w' => e = .returned (.tuple #[sv n, .int .i64 c]) ∧ Below w.heap.size w w' := by
  have := rnode_any ⟨l.toArray⟩ ⟨r.toArray⟩ w
  rw [show (ByteArray.mk l.toArray).data.toList = l from rfl, show (ByteArray.mk r.toArray).data.toList = r from rfl, h.out] at this
  exact this
theorem emptySize' : (ByteArray.mk #[]).size = 0 := rfl
theorem rsum_nil {D : List UInt8} (hD : Hid (Sha.sha [] = D)) (w : World) :
    Calls Tryd.prog 59 #[.string ⟨#[]⟩] w fun e w' => e = .returned (sv D) ∧ Below w.heap.size w w' := by
  have h := rsum_any ⟨#[]⟩ (by rw [emptySize']; omega) w
  rw [show (ByteArray.mk #[]).data.toList = [] from rfl, hD.out] at h
  exact h
set_option maxRecDepth 100000 in
set_option maxHeartbeats 400000 in
theorem rempty_any {D : List UInt8} (hD : Hid (Sha.sha [] = D)) (w : World) :
    Calls Tryd.prog 104 #[] w fun e w' => e = .returned (sv D) ∧ Below w.heap.size w w' := by
  go_enter Tryd.func104, Tryd.ntmps104
  go_wp2_with (go_at_call 59; fail)
  refine (rsum_nil hD _).mono ?_
  rintro e w1 ⟨rfl, hw1⟩
  go_wp2
  go_ret
  exact ⟨rfl, hw1⟩

/-- texts that lie at an address -/
def At (w : World) (a : Option Addr) (l : List (List UInt8)) : Prop := ∀ j p, l[j]? = some p → ∃ x : Addr, a = some x ∧ x.block < w.heap.size ∧ w.cell? (x.add j) = some (sv p)
theorem addr_block (x : Addr) (j : Nat) : (x.add j).block = x.block := by unfold Addr.add; split <;> rfl
theorem addr_zero (x : Addr) : x.add 0 = x := rfl
theorem addr_add (x : Addr) (i j : Nat) : (x.add i).add j = x.add (i + j) := by
  unfold Addr.add
  by_cases hi : i = 0
  · subst hi; simp
  · by_cases hj : j = 0
    · subst hj; simp
    · rw [if_neg hi, if_neg hj, if_neg (by omega)]; simp; omega
theorem At.nil (w : World) (a : Option Addr) : At w a [] := fun j p h => by simp at h
theorem At.below {w w' : World} {a : Option Addr} {l : List (List UInt8)} {B : Nat} (h : At w a l) (hb : Below B w w') (hB : w.heap.size ≤ B) : At w' a l := fun j p hp => by
  obtain ⟨x, rfl, hx, hc⟩ := h j p hp
  exact ⟨x, rfl, Nat.lt_of_lt_of_le hx hb.size, (hb.cell (p := x.add j) (by rw [addr_block]; omega)).trans hc⟩
theorem At.heap {w w' : World} {a : Option Addr} {l : List (List UInt8)} (h : At w a l) (e : w'.heap = w.heap) : At w' a l := fun j p hp => by
  obtain ⟨x, rfl, hx, hc⟩ := h j p hp
  refine ⟨x, rfl, by rw [e]; exact hx, ?_⟩
  rw [← hc]
  exact World.cell?_of_block (w := w) (by rw [e])
theorem At.take {w : World} {a : Option Addr} {l : List (List UInt8)} (h : At w a l) (k : Nat) : At w a (l.take k) := fun j p hp => by
  rw [List.getElem?_take] at hp
  split at hp
  · exact h j p hp
  · cases hp
theorem At.drop {w : World} {x : Addr} {l : List (List UInt8)} (h : At w (some x) l) (k : Nat) : At w (some (x.add k)) (l.drop k) := fun j p hp => by
  rw [List.getElem?_drop] at hp
  obtain ⟨y, hy, hx, hc⟩ := h (k + j) p hp
  obtain rfl := Option.some.inj hy
  exact ⟨_, rfl, by rw [addr_block]; exact hx, by rw [addr_add]; exact hc⟩
theorem At.pos {w : World} {a : Option Addr} {l : List (List UInt8)} (h : At w a l) (hl : 0 < l.length) : ∃ x, a = some x := by
  obtain ⟨x, hx, _⟩ := h 0 _ (List.getElem?_eq_getElem hl)
  exact ⟨x, hx⟩
theorem At.cell {w : World} {x : Addr} {l : List (List UInt8)} (h : At w (some x) l) (j : Nat) (hj : j < l.length) : ∃ s : ByteArray, Hid (s.data.toList = l[j]) ∧ w.cell? (x.add j) = some (.string s) := by
  obtain ⟨y, hy, _, hc⟩ := h j _ (List.getElem?_eq_getElem hj)
  obtain rfl := Option.some.inj hy
  exact ⟨⟨(l[j]).toArray⟩, rfl, hc⟩

set_option maxRecDepth 100000 in
set_option maxHeartbeats 2000000 in
theorem cut_any (x : Addr) (n cap k : Nat) (hk : k < n) (hn : n ≤ cap) (w : World) :
    Calls Tryd.prog 78 #[.slice (some x) n cap, .int .i64 k] w fun e w' =>
      e = .returned (.tuple #[.slice (some x) k k, .slice (some (x.add k)) (n - k) (n - k)]) ∧ Below w.heap.size w w' ∧ w'.heap = w.heap := by
  have hne : ¬ n = k := by omega
  go_enter Tryd.func78, Tryd.ntmps78
  go_wp2
  go_quiet (fail)
  go_wp2
  go_ret2
  exact ⟨rfl, below_drewN (Below.refl _ _) _, rfl⟩
end Go.Proofs.YtkbngmhhlpdpnaaDoor

namespace Go.Proofs.YtkbngmhhlpdpnaaDoor
open Go.RowKit

set_option maxRecDepth 100000 in
set_option maxHeartbeats 400000 in
theorem R_nil (a : Option Addr) (cap : Nat) (w : World) :
    Calls Tryd.prog 80 #[.slice a 0 cap] w fun e w' => e = .returned (sv (Tree.root [])) ∧ Below w.heap.size w w' := by
  rw [Tree.root_nil]
  obtain ⟨D, hD⟩ : ∃ D, Sha.sha [] = D := ⟨_, rfl⟩
  rw [hD]
  have HD := hid hD
  clear hD
  go_enter Tryd.func80, Tryd.ntmps80
  go_wp2_with (go_at_call 104; refine (rempty_any HD _).mono ?_; rintro e w1 ⟨rfl, hw1⟩)
  go_ret
  exact ⟨rfl, hw1⟩
set_option maxRecDepth 100000 in
set_option maxHeartbeats 400000 in
theorem R_one (p : List UInt8) (a : Option Addr) (cap : Nat) (w : World) (hA : At w a [p]) :
    Calls Tryd.prog 80 #[.slice a 1 cap] w fun e w' => e = .returned (sv (Tree.root [p])) ∧ Below w.heap.size w w' := by
  rw [Tree.root_one]
  obtain ⟨x, rfl, hx, hc⟩ := hA 0 p rfl
  rw [addr_zero] at hc
  go_enter Tryd.func80, Tryd.ntmps80
  go_wp2
  go_ret
  exact ⟨rfl, Below.refl _ _⟩
set_option maxRecDepth 100000 in
set_option maxHeartbeats 2000000 in
/-- the document's R -/
theorem R_any : ∀ (f : Nat) (l : List (List UInt8)) (a : Option Addr) (cap : Nat) (w : World), l.length ≤ f → l.length ≤ cap → cap ≤ 9223372036854775807 → At w a l →
    Calls Tryd.prog 80 #[.slice a l.length cap] w fun e w' => e = .returned (sv (Tree.root l)) ∧ Below w.heap.size w w' := by
  intro f
  induction f with
  | zero =>
    intro l a cap w hf hl hc hA
    obtain rfl : l = [] := List.length_eq_zero_iff.1 (by omega)
    exact R_nil a cap w
  | succ f ih =>
    intro l a cap w hf hl hc hA
    match l, hf, hl, hA with
    | [], _, _, _ => exact R_nil a cap w
    | [p], _, _, hA => exact R_one p a cap w hA
    | p :: q :: t, hf, hl, hA =>
      obtain ⟨n, hn⟩ : ∃ n, (p :: q :: t).length = n := ⟨_, rfl⟩
      have h2 : 2 ≤ n := by rw [← hn]; simp
      obtain ⟨x, rfl⟩ := hA.pos (by rw [hn]; omega)
      have e := hid (Tree.root_cut (l := p :: q :: t) (by rw [hn]; exact h2))
      generalize p :: q :: t = l at *
      rw [hn] at e hf hl ⊢
      have k1 := Tree.sp_lt h2
      have k2 := Tree.sp_pos h2
      have hs : spI (n : Int) = ((Tree.sp n : Nat) : Int) := rfl
      generalize Tree.sp n = k at *
      have l1 : (l.take k).length = k := by rw [List.length_take, hn]; omega
      have l2 : (l.drop k).length = n - k := by rw [List.length_drop, hn]
      have c1 := fun w' (h : At w' (some x) (l.take k)) => ih (l.take k) (some x) cap w' (by omega) (by omega) hc h
      have c2 := fun w' (h : At w' (some (x.add k)) (l.drop k)) => ih (l.drop k) (some (x.add k)) (cap - k) w' (by omega) (by omega) (by omega) h
      rw [l1] at c1
      rw [l2] at c2
      have n1 : ((n : Int) == 0) = false := by simp; omega
      have n2 : ((n : Int) == 1) = false := by simp; omega
      have hne : ¬ cap = k := by omega
      have A1 := hid (hA.take k)
      have A2 := hid (hA.drop k)
      generalize hp1 : Tree.root (l.take k) = r1 at *
      generalize hp2 : Tree.root (l.drop k) = r2 at *
      obtain ⟨m, c, hm⟩ : ∃ m c, Hid (nodeOf r1 r2 = (m, c)) := ⟨_, _, rfl⟩
      have e' := hid (show Tree.root l = m by rw [e.out, ← nodeOf_nd, hm.out])
      clear hA ih hn e hp1 hp2
      go_enter Tryd.func80, Tryd.ntmps80
      go_wp2_with (first
        | (go_at_call 79; refine (rsplit_any (n : Int) (by omega) (by omega) _).mono ?_; rintro e w0 ⟨rfl, rfl⟩; rw [hs])
        | (go_at_call 80; with_reducible refine (c1 _ A1.out).mono ?_; rintro e w1 ⟨rfl, hw1⟩)
        | (go_at_call 80; go_must (with_reducible refine (c2 _ (A2.out.below hw1 (Nat.le_refl _))).mono ?_); rintro e w2 ⟨rfl, hw2⟩)
        | (go_at_call 85; refine (rnode_at hm _).mono ?_; rintro e w3 ⟨rfl, hw3⟩))
      go_ret
      refine ⟨by rw [e'.out]; rfl, ?_⟩
      have s1 := hw1.size
      have s2 := hw2.size
      exact (hw1.trans (hw2.mono s1)).trans (hw3.mono (by omega))
end Go.Proofs.YtkbngmhhlpdpnaaDoor
