import Derived.Test.YtkbngmhhlpdpnaaDoorO17Q
namespace Go.Proofs.YtkbngmhhlpdpnaaDoor.Tree
/-- how many stand ahead of the first that is not below p -/
def cnt (p : Nat) (is : List Nat) : Nat := (is.takeWhile (fun i => decide (i < p))).length
theorem cnt_of (p : Nat) : ∀ (is : List Nat) (k : Nat), k ≤ is.length → (∀ j x, j < k → is[j]? = some x → x < p) → (∀ x, is[k]? = some x → ¬ x < p) → cnt p is = k
  | [], k, h, _, _ => by simp at h; subst h; rfl
  | i :: is, 0, _, _, h => by
    have := h i rfl
    simp [cnt, this]
  | i :: is, k + 1, hk, h1, h2 => by
    have hi := h1 0 i (by omega) rfl
    have := cnt_of p is k (by simpa using hk) (fun j x hj hx => h1 (j + 1) x (by omega) (by simpa using hx)) (fun x hx => h2 x (by simpa using hx))
    rw [cnt] at this ⊢
    rw [List.takeWhile_cons_of_pos (by simpa using hi), List.length_cons, this]
theorem cnt_le (p : Nat) (is : List Nat) : cnt p is ≤ is.length := by
  induction is with
  | nil => simp [cnt]
  | cons i is ih =>
    by_cases h : i < p
    · rw [cnt] at ih ⊢; rw [List.takeWhile_cons_of_pos (by simpa using h)]; simpa using ih
    · rw [cnt, List.takeWhile_cons_of_neg (by simpa using h)]; simp
theorem cnt_take (p : Nat) : ∀ (is : List Nat), is.Pairwise (· < ·) → is.take (cnt p is) = is.filter (· < p)
  | [], _ => rfl
  | i :: is, hp => by
    rw [List.pairwise_cons] at hp
    by_cases h : i < p
    · rw [cnt, List.takeWhile_cons_of_pos (by simpa using h), List.length_cons, List.take_succ_cons, List.filter_cons_of_pos (by simpa using h)]
      congr 1
      exact cnt_take p is hp.2
    · rw [cnt, List.takeWhile_cons_of_neg (by simpa using h)]
      symm
      rw [List.length_nil, List.take_zero, List.filter_eq_nil_iff]
      intro x hx
      rcases List.mem_cons.1 hx with rfl | hx
      · simpa using h
      · have := hp.1 x hx
        simp; omega
theorem cnt_drop (p : Nat) : ∀ (is : List Nat), is.Pairwise (· < ·) → is.drop (cnt p is) = is.filter (p ≤ ·)
  | [], _ => rfl
  | i :: is, hp => by
    rw [List.pairwise_cons] at hp
    by_cases h : i < p
    · rw [cnt, List.takeWhile_cons_of_pos (by simpa using h), List.length_cons, List.drop_succ_cons, List.filter_cons_of_neg (by simp; omega)]
      exact cnt_drop p is hp.2
    · rw [cnt, List.takeWhile_cons_of_neg (by simpa using h)]
      symm
      rw [List.length_nil, List.drop_zero, List.filter_eq_self]
      intro x hx
      rcases List.mem_cons.1 hx with rfl | hx
      · simp; omega
      · have := hp.1 x hx
        simp; omega
end Go.Proofs.YtkbngmhhlpdpnaaDoor.Tree
namespace Go.Proofs.YtkbngmhhlpdpnaaDoor
open Go.RowKit
/-- indices as whole numbers -/
def ix (is : List Nat) : List Int := is.map fun (i : Nat) => (i : Int)
theorem ix_len (is : List Nat) : (ix is).length = is.length := by simp [ix]
theorem AtI.nil (w : World) (a : Option Addr) : AtI w a [] := fun j p h => by simp at h
theorem AtI.heap {w w' : World} {a : Option Addr} {l : List Int} (h : AtI w a l) (e : w'.heap = w.heap) : AtI w' a l := fun j p hp => by
  obtain ⟨x, rfl, hx, hc⟩ := h j p hp
  refine ⟨x, rfl, by rw [e]; exact hx, ?_⟩
  rw [← hc]
  exact World.cell?_of_block (w := w) (by rw [e])
theorem AtI.take {w : World} {a : Option Addr} {l : List Int} (h : AtI w a l) (k : Nat) : AtI w a (l.take k) := fun j p hp => by
  rw [List.getElem?_take] at hp
  split at hp
  · exact h j p hp
  · cases hp
theorem AtI.drop {w : World} {x : Addr} {l : List Int} (h : AtI w (some x) l) (k : Nat) : AtI w (some (x.add k)) (l.drop k) := fun j p hp => by
  rw [List.getElem?_drop] at hp
  obtain ⟨y, hy, hx, hc⟩ := h (k + j) p hp
  obtain rfl := Option.some.inj hy
  exact ⟨_, rfl, by rw [addr_block]; exact hx, by rw [addr_add]; exact hc⟩
set_option maxRecDepth 100000 in
set_option maxHeartbeats 400000 in
theorem below_any (is : List Nat) (p : Nat) (a : Option Addr) (cap : Nat) (w : World) (hn : is.length ≤ 9223372036854775807) (hA : AtI w a (ix is)) :
    Calls Tryd.prog 84 #[.slice a is.length cap, .int .i64 p] w fun e w' => e = .returned (.int .i64 (Tree.cnt p is : Nat)) ∧ w' = w := by
  have HA := hid hA
  clear hA
  generalize hl : is.length = n at *
  go_enter Tryd.func84, Tryd.ntmps84
  go_wp2
  go_loopw [5] (fun i w' => ∃ k : Nat, k ≤ n ∧ i = .int .i64 (k : Int) ∧ Hid (∀ j x, j < k → is[j]? = some x → x < p) ∧ w' = w) (fun i _ => n - (intOf i).toNat)
  case atStart => exact ⟨0, by omega, rfl, fun j x hj => by omega, rfl⟩
  case round =>
    obtain ⟨k, hk, rfl, hall, rfl⟩ := hrel
    by_cases hkn : k < n
    · have b0 : (k : Int) < (n : Int) := by omega
      obtain ⟨x, rfl⟩ := HA.out.pos (by rw [ix_len]; omega)
      have hcell := HA.out.cell k (by rw [ix_len]; omega)
      have hi : is[k]? = some is[k] := List.getElem?_eq_getElem (by omega)
      have hv : (ix is)[k]'(by rw [ix_len]; omega) = ((is[k] : Nat) : Int) := by simp [ix]
      rw [hv] at hcell
      generalize is[k] = i at *
      by_cases hip : i < p
      · have b1 : (i : Int) < (p : Int) := by omega
        have hall' : Hid (∀ j x, j < k + 1 → is[j]? = some x → x < p) := fun j x hj hx => by
          by_cases e : j = k
          · subst e; rw [hi] at hx; obtain rfl := Option.some.inj hx; exact hip
          · exact hall.out j x (by omega) hx
        clear HA hi hall
        go_wp2
        exact ⟨⟨k + 1, by omega, by go_num, hall', trivial⟩, by simp [intOf]; omega⟩
      · have b1 : ¬ (i : Int) < (p : Int) := by omega
        have e := hid (Tree.cnt_of p is k (by omega) hall.out (fun y hy => by rw [hi] at hy; obtain rfl := Option.some.inj hy; exact hip))
        clear HA hi hall
        go_wp2
        go_ret
        exact ⟨by rw [e.out]; rfl, rfl⟩
    · have b0 : ¬ (k : Int) < (n : Int) := by omega
      have e := hid (Tree.cnt_of p is k (by omega) hall.out (fun y hy => by rw [List.getElem?_eq_none (by omega)] at hy; cases hy))
      clear HA hall
      go_wp2
      go_ret
      exact ⟨by rw [e.out]; rfl, rfl⟩
set_option maxRecDepth 100000 in
set_option maxHeartbeats 2000000 in
theorem cutI_lt (x : Addr) (n cap k : Nat) (hk : k < n) (hn : n ≤ cap) (w : World) :
    Calls Tryd.prog 83 #[.slice (some x) n cap, .int .i64 k] w fun e w' =>
      e = .returned (.tuple #[.slice (some x) k k, .slice (some (x.add k)) (n - k) (n - k)]) ∧ Below w.heap.size w w' ∧ w'.heap = w.heap := by
  have hne : ¬ n = k := by omega
  go_enter Tryd.func83, Tryd.ntmps83
  go_wp2
  go_quiet (fail)
  go_wp2
  go_ret2
  exact ⟨rfl, below_drewN (Below.refl _ _) _, rfl⟩
set_option maxRecDepth 100000 in
set_option maxHeartbeats 2000000 in
theorem cutI_eq (x : Addr) (n cap : Nat) (hn : n ≤ cap) (w : World) :
    Calls Tryd.prog 83 #[.slice (some x) n cap, .int .i64 n] w fun e w' =>
      e = .returned (.tuple #[.slice (some x) n n, .slice (some x) 0 0]) ∧ Below w.heap.size w w' ∧ w'.heap = w.heap := by
  go_enter Tryd.func83, Tryd.ntmps83
  go_wp2
  go_quiet (fail)
  go_wp2
  go_ret2
  exact ⟨by simp, below_drewN (Below.refl _ _) _, rfl⟩
/-- the indices are cut -/
theorem cutI_any (is : List Nat) (p : Nat) (x : Addr) (cap : Nat) (hn : is.length ≤ cap) (w : World) (hA : AtI w (some x) (ix is)) (hs : is.Pairwise (· < ·)) :
    Calls Tryd.prog 83 #[.slice (some x) is.length cap, .int .i64 (Tree.cnt p is : Nat)] w fun e w' => ∃ y : Addr,
      e = .returned (.tuple #[.slice (some x) (is.filter (· < p)).length (is.filter (· < p)).length, .slice (some y) (is.filter (p ≤ ·)).length (is.filter (p ≤ ·)).length]) ∧ AtI w' (some x) (ix (is.filter (· < p))) ∧ AtI w' (some y) (ix (is.filter (p ≤ ·))) ∧ Below w.heap.size w w' ∧ w'.heap = w.heap := by
  have h1 := Tree.cnt_take p is hs
  have h2 := Tree.cnt_drop p is hs
  have hk := Tree.cnt_le p is
  generalize Tree.cnt p is = k at *
  have l1 : (is.filter (· < p)).length = k := by rw [← h1, List.length_take]; omega
  have l2 : (is.filter (p ≤ ·)).length = is.length - k := by rw [← h2, List.length_drop]
  have hA1 : AtI w (some x) (ix (is.filter (· < p))) := by
    have := hA.take k
    rwa [ix, ← List.map_take, h1] at this
  by_cases hlt : k < is.length
  · refine (cutI_lt x is.length cap k hlt hn w).mono ?_
    rintro e w' ⟨rfl, hb, hh⟩
    have hA2 : AtI w (some (x.add k)) (ix (is.filter (p ≤ ·))) := by
      have := hA.drop k
      rwa [ix, ← List.map_drop, h2] at this
    exact ⟨_, by rw [l1, l2], hA1.heap hh, hA2.heap hh, hb, hh⟩
  · obtain rfl : k = is.length := by omega
    refine (cutI_eq x is.length cap hn w).mono ?_
    rintro e w' ⟨rfl, hb, hh⟩
    have e2 : is.filter (p ≤ ·) = [] := by rw [← h2, List.drop_length]
    exact ⟨x, by rw [l1, e2]; rfl, hA1.heap hh, by rw [e2]; exact AtI.nil _ _, hb, hh⟩
end Go.Proofs.YtkbngmhhlpdpnaaDoor
