import Derived.Test.YticjokhfjkebpaaGreatDoorPkO7
import Derived.Deep.RegionLaw
namespace Go.Proofs.YticjokhfjkebpaaGreatDoor
open Go.RowKit

theorem own_one (w : World) (base : Nat) (r : List UInt8) (hb : base ≤ w.heap.size) : Own (w.alloc (.cells #[sv r] 9)) base (.slice (some ⟨w.heap.size, 0, none⟩) 1 1) (svs [r]) := by
  refine .inr ⟨w.heap.size, 1, rfl, hb, by simp [svs], by simp [maxLen], ?_, ?_, by rw [size_alloc]; omega⟩
  · intro j v hv
    rw [cell_of_row _ _ _ _ _ _ (heap_alloc_new w _), Nat.zero_add]
    simpa [svs] using hv
  · exact there_of_row (heap_alloc_new w _) 0 1 (by simp)
end Go.Proofs.YticjokhfjkebpaaGreatDoor

namespace Go.Proofs.YticjokhfjkebpaaGreatDoor
open Go.RowKit

/-- T4 -/
def proofOut (l : List (List UInt8)) (m : Int) : List (List UInt8) × Int := if wrg l = 0 then (if 1 ≤ m ∧ m ≤ l.length then (Tree.proof m.toNat l true, 0) else ([], 31)) else ([], wrg l)
end Go.Proofs.YticjokhfjkebpaaGreatDoor

namespace Go.Proofs.YticjokhfjkebpaaGreatDoor
open Go.RowKit

/-- T3 -/
def partOut (l : List (List UInt8)) (b e : Int) : List UInt8 × Int := if wrg l = 0 then (if 0 ≤ b ∧ b ≤ e ∧ e ≤ l.length then (Tree.root ((l.take e.toNat).drop b.toNat), 0) else ([], 30)) else ([], wrg l)
end Go.Proofs.YticjokhfjkebpaaGreatDoor

namespace Go.Proofs.YticjokhfjkebpaaGreatDoor
open Go.RowKit

/-- which of n things -/
def pk (c n : Int) : Int := (if c < 0 then -(c + 1) else c) % n
theorem pk_nonneg (c n : Int) (hn : 0 < n) : 0 ≤ pk c n := Int.emod_nonneg _ (by omega)
theorem pk_lt (c n : Int) (hn : 0 < n) : pk c n < n := Int.emod_lt_of_pos _ hn
set_option maxRecDepth 100000 in
set_option maxHeartbeats 400000 in
theorem pick_any (c n : Int) (hc1 : -9223372036854775808 ≤ c) (hc2 : c ≤ 9223372036854775807) (hn : 0 < n) (hn2 : n ≤ 9223372036854775807) (w : World) :
    Calls Tryz.prog 11 #[.int .i64 c, .int .i64 n] w fun e w' => e = .returned (.int .i64 (pk c n)) ∧ w' = w := by
  have hp0 := pk_nonneg c n hn
  have hp1 := pk_lt c n hn
  have hn0 : ¬ n = 0 := by omega
  by_cases h : c < 0
  · have e1 : IntKind.i64.wrap (c + 1) = c + 1 := by rw [IntKind.wrap_i64]; omega
    have e2 : IntKind.i64.wrap (-(c + 1)) = -(c + 1) := by rw [IntKind.wrap_i64]; omega
    have e3 : Int.tmod (-(c + 1)) n = pk c n := by rw [Int.tmod_eq_emod_of_nonneg (by omega), pk, if_pos h]
    have e4 : IntKind.i64.wrap (pk c n) = pk c n := wrap_small _ (by omega) (by omega)
    go_enter Tryz.func11, Tryz.ntmps11
    go_wp2
    go_ret
    exact ⟨rfl, rfl⟩
  · have e3 : Int.tmod c n = pk c n := by rw [Int.tmod_eq_emod_of_nonneg (by omega), pk, if_neg h]
    have e4 : IntKind.i64.wrap (pk c n) = pk c n := wrap_small _ (by omega) (by omega)
    go_enter Tryz.func11, Tryz.ntmps11
    go_wp2
    go_ret
    exact ⟨rfl, rfl⟩


theorem AtI.below {w w' : World} {a : Option Addr} {l : List Int} {B : Nat} (h : AtI w a l) (hb : Below B w w') (hB : w.heap.size ≤ B) : AtI w' a l := fun j p hp => by
  obtain ⟨x, rfl, hx, hc⟩ := h j p hp
  exact ⟨x, rfl, Nat.lt_of_lt_of_le hx hb.size, (hb.cell (p := x.add j) (by rw [addr_block]; omega)).trans hc⟩
theorem AtI.pos {w : World} {a : Option Addr} {l : List Int} (h : AtI w a l) (hl : 0 < l.length) : ∃ x, a = some x := by
  obtain ⟨x, hx, _⟩ := h 0 _ (List.getElem?_eq_getElem hl)
  exact ⟨x, hx⟩
theorem AtI.cell {w : World} {x : Addr} {l : List Int} (h : AtI w (some x) l) (j : Nat) (hj : j < l.length) : w.cell? (x.add j) = some (.int .i64 l[j]) := by
  obtain ⟨y, hy, _, hc⟩ := h j _ (List.getElem?_eq_getElem hj)
  obtain rfl := Option.some.inj hy
  exact hc
def nums (cs : List Int) (k : Nat) : List (List UInt8) := (cs.take k).map lf
theorem nums_succ (cs : List Int) (k : Nat) (h : k < cs.length) : nums cs (k + 1) = nums cs k ++ [lf cs[k]] := by
  rw [nums, nums, List.take_add_one, List.getElem?_eq_getElem h, List.map_append]; rfl
theorem nums_len (cs : List Int) (k : Nat) : (nums cs k).length = min k cs.length := by simp [nums]
theorem nums_hs (cs : List Int) (k : Nat) : Tree.Hs (nums cs k) := fun x hx => by
  simp only [nums, List.mem_map] at hx
  obtain ⟨c, _, rfl⟩ := hx
  exact lf_length c
set_option maxRecDepth 100000 in
set_option maxHeartbeats 400000 in
theorem numbered_any (cs : List Int) (M : Nat) (hM : M ≤ 1000) (a : Option Addr) (cap : Nat) (w : World) (hc : cs.length ≤ 9223372036854775807) (hA : AtI w a cs) :
    Calls Tryz.prog 9 #[.slice a cs.length cap, .int .i64 M] w (Out w (nums cs M)) := by
  have HA := hid hA
  clear hA
  generalize hn : cs.length = n at *
  go_enter Tryz.func9, Tryz.ntmps9
  go_wp2
  go_loopw [5, 6] (fun v i w' => ∃ k : Nat, k ≤ n ∧ k ≤ M ∧ i = .int .i64 (k : Int) ∧ Hid (Own w' w.heap.size v (svs (nums cs k))) ∧ Hid (Below w.heap.size w w')) (fun _ i _ => M - (intOf i).toNat)
  case atStart => exact ⟨0, by omega, by omega, rfl, Own.nil _ _, Below.refl _ _⟩
  case round =>
    obtain ⟨k, hk, hkM, rfl, hO, hB⟩ := hrel
    by_cases hkn : k < n ∧ k < M
    · obtain ⟨h1, h2⟩ := hkn
      have b0 : (k : Int) < (n : Int) := by omega
      have b1 : (k : Int) < (M : Int) := by omega
      obtain ⟨x, rfl⟩ := HA.out.pos (by omega)
      have hcell := (HA.out.below hB.out (Nat.le_refl _)).cell k (by omega)
      have hnx := hid (nums_succ cs k (by omega))
      have hl := nums_len cs k
      generalize cs[k] = c at *
      obtain ⟨r, hr⟩ : ∃ r, Hid (lf c = r) := ⟨_, rfl⟩
      have hlt := (HA.out.below hB.out (Nat.le_refl _))
      clear hlt
      go_wp2_with (first
        | (go_at_call 19; refine (lleaf_at c r hr _).mono ?_; rintro e w2 ⟨rfl, hw2⟩; obtain ⟨v3, w3, hap, hO3, hb3⟩ := append_text w2 w.heap.size _ (nums cs k) r (hO.out.below hw2 (Nat.le_refl _)) (by omega) (Nat.le_trans hB.out.size hw2.size); rw [show sv r = Value.string ⟨r.toArray⟩ from rfl] at hap ⊢)
        | (at_builtin; go_must (refine Lib.wpList_append_run _ rfl _ _ 24 24 rfl _ _ rfl rfl _ _ hap ?_)))
      exact ⟨⟨k + 1, by omega, by omega, by go_num, by unfold Hid; rw [hnx.out, hr.out]; exact hO3, (hB.out.trans (hw2.mono hB.out.size)).trans hb3⟩, by simp [intOf]; omega⟩
    · have e : nums cs k = nums cs M := by
        by_cases h : k < n
        · rw [show k = M from by omega]
        · rw [nums, nums, List.take_of_length_le (by omega), List.take_of_length_le (by omega)]
      rw [e] at hO
      by_cases h1 : k < n
      · have b0 : (k : Int) < (n : Int) := by omega
        have b1 : ¬ (k : Int) < (M : Int) := by omega
        go_wp2
        go_ret
        exact ⟨_, rfl, hO.out, hB.out⟩
      · have b0 : ¬ (k : Int) < (n : Int) := by omega
        go_wp2
        go_ret
        exact ⟨_, rfl, hO.out, hB.out⟩
end Go.Proofs.YticjokhfjkebpaaGreatDoor

namespace Go.Proofs.YticjokhfjkebpaaGreatDoor.Tree
/-- the root of the first m, where m goes past the first part -/
theorem root_past {l : List T} {m : Nat} (h1 : sp l.length < m) (h2 : m ≤ l.length) (hl : 2 ≤ l.length) : root (l.take m) = nd (root (l.take (sp l.length))) (root ((l.drop (sp l.length)).take (m - sp l.length))) := by
  have a := sp_lt hl
  have b := sp_ge hl
  have c := sp_pos hl
  have hlen : (l.take m).length = m := by simp; omega
  have hs : sp m = sp l.length := by
    have e := sp_eq hl
    rw [e] at h1 b
    rw [sp_one (n := m) (by rw [← e] at h1; omega) _ h1 (by omega), e]
  rw [root_cut (l := l.take m) (by rw [hlen]; omega), hlen, hs, List.take_take, Nat.min_eq_left (by omega), List.drop_take]
end Go.Proofs.YticjokhfjkebpaaGreatDoor.Tree
namespace Go.Proofs.YticjokhfjkebpaaGreatDoor
open Go.RowKit
theorem At.init {w : World} {a : Option Addr} {l : List (List UInt8)} {r : List UInt8} (h : At w a (l ++ [r])) : At w a l := fun j p hp => h j p (by
  rw [List.getElem?_append_left (List.getElem?_eq_some_iff.1 hp).1]; exact hp)
theorem At.last {w : World} {x : Addr} {l : List (List UInt8)} {r : List UInt8} (h : At w (some x) (l ++ [r])) : w.cell? (x.add l.length) = some (.string ⟨r.toArray⟩) := by
  obtain ⟨y, hy, _, hc⟩ := h l.length r (by simp)
  obtain rfl := Option.some.inj hy
  exact hc
end Go.Proofs.YticjokhfjkebpaaGreatDoor

namespace Go.Proofs.YticjokhfjkebpaaGreatDoor
open Go.RowKit
theorem Own.at {w : World} {base : Nat} {v : Value} {L : List (List UInt8)} (h : Own w base v (svs L)) : ∃ a cap, v = .slice a L.length cap ∧ At w a L ∧ L.length ≤ cap ∧ cap ≤ 9223372036854775807 := by
  rcases h with ⟨rfl, h⟩ | ⟨g, cap, rfl, h1, h2, h3, h4, h5, h6⟩
  · obtain rfl : L = [] := by simpa [svs] using h
    exact ⟨none, 0, rfl, At.nil _ _, by simp, by omega⟩
  · rw [svs_length] at h2
    refine ⟨some ⟨g, 0, none⟩, cap, by rw [svs_length], fun j p hp => ⟨_, rfl, h6, ?_⟩, h2, h3⟩
    rw [Addr.add_mid]
    exact h4 j (sv p) (by simp [svs, hp])
theorem wrg_hs {l : List (List UInt8)} (h : Tree.Hs l) (hl : l.length ≤ 4096) : wrg l = 0 := by
  rw [wrg, if_neg (by omega), if_pos]
  rw [List.all_eq_true]
  intro x hx
  simpa using h x hx
theorem Root_hs {l : List (List UInt8)} (h : Tree.Hs l) (hl : l.length ≤ 4096) (a : Option Addr) (cap : Nat) (w : World) (hlc : l.length ≤ cap) (hc : cap ≤ 9223372036854775807) (hA : At w a l) (T : Tabs w) :
    Calls Tryz.prog 14 #[.slice a l.length cap] w fun e w' => e = .returned (.tuple #[sv (Tree.root l), .int .i64 0]) ∧ Below w.heap.size w w' := by
  have := Root_any l a cap w hlc hc hA T
  rwa [rootOut, if_pos (wrg_hs h hl)] at this
theorem Tabs.next {w w' : World} (h : Tabs w) (hb : Below w.heap.size w w') : Tabs w' := h.below hb h.lt
end Go.Proofs.YticjokhfjkebpaaGreatDoor

namespace Go.Proofs.YticjokhfjkebpaaGreatDoor.Tree
/-- how many stand ahead of the first that is not below p -/
def cnt (p : Nat) (is : List Nat) : Nat := (is.takeWhile (fun i => decide (i < p))).length
theorem cnt_of (p : Nat) : ∀ (is : List Nat) (k : Nat), k ≤ is.length → (∀ j x, j < k → is[j]? = some x → x < p) → (∀ x, is[k]? = some x → ¬ x < p) → cnt p is = k
  | [], k, h, _, _ => by simp at h; subst h; rfl
  | i :: is, 0, _, _, h => by
    have := h i rfl
    simp [cnt, this]
  | i :: is, k + 1, hk, h1, h2 => by
    have hi := h1 0 i (by omega) rfl
    have := cnt_of p is k (by simpa using hk) (fun j x hj hx => h1 (j + 1) x (by omega) (by simpa using hx)) (fun x hx => h2 x (by simpa using hx))
    rw [cnt] at this ⊢
    rw [List.takeWhile_cons_of_pos (by simpa using hi), List.length_cons, this]
theorem cnt_le (p : Nat) (is : List Nat) : cnt p is ≤ is.length := by
  induction is with
  | nil => simp [cnt]
  | cons i is ih =>
    by_cases h : i < p
    · rw [cnt] at ih ⊢; rw [List.takeWhile_cons_of_pos (by simpa using h)]; simpa using ih
    · rw [cnt, List.takeWhile_cons_of_neg (by simpa using h)]; simp
theorem cnt_take (p : Nat) : ∀ (is : List Nat), is.Pairwise (· < ·) → is.take (cnt p is) = is.filter (· < p)
  | [], _ => rfl
  | i :: is, hp => by
    rw [List.pairwise_cons] at hp
    by_cases h : i < p
    · rw [cnt, List.takeWhile_cons_of_pos (by simpa using h), List.length_cons, List.take_succ_cons, List.filter_cons_of_pos (by simpa using h)]
      congr 1
      exact cnt_take p is hp.2
    · rw [cnt, List.takeWhile_cons_of_neg (by simpa using h)]
      symm
      rw [List.length_nil, List.take_zero, List.filter_eq_nil_iff]
      intro x hx
      rcases List.mem_cons.1 hx with rfl | hx
      · simpa using h
      · have := hp.1 x hx
        simp; omega
theorem cnt_drop (p : Nat) : ∀ (is : List Nat), is.Pairwise (· < ·) → is.drop (cnt p is) = is.filter (p ≤ ·)
  | [], _ => rfl
  | i :: is, hp => by
    rw [List.pairwise_cons] at hp
    by_cases h : i < p
    · rw [cnt, List.takeWhile_cons_of_pos (by simpa using h), List.length_cons, List.drop_succ_cons, List.filter_cons_of_neg (by simp; omega)]
      exact cnt_drop p is hp.2
    · rw [cnt, List.takeWhile_cons_of_neg (by simpa using h)]
      symm
      rw [List.length_nil, List.drop_zero, List.filter_eq_self]
      intro x hx
      rcases List.mem_cons.1 hx with rfl | hx
      · simp; omega
      · have := hp.1 x hx
        simp; omega
end Go.Proofs.YticjokhfjkebpaaGreatDoor.Tree
namespace Go.Proofs.YticjokhfjkebpaaGreatDoor
open Go.RowKit
/-- indices as whole numbers -/
def ix (is : List Nat) : List Int := is.map fun (i : Nat) => (i : Int)
theorem ix_len (is : List Nat) : (ix is).length = is.length := by simp [ix]
theorem AtI.nil (w : World) (a : Option Addr) : AtI w a [] := fun j p h => by simp at h
theorem AtI.heap {w w' : World} {a : Option Addr} {l : List Int} (h : AtI w a l) (e : w'.heap = w.heap) : AtI w' a l := fun j p hp => by
  obtain ⟨x, rfl, hx, hc⟩ := h j p hp
  refine ⟨x, rfl, by rw [e]; exact hx, ?_⟩
  rw [← hc]
  exact World.cell?_of_block (w := w) (by rw [e])
theorem AtI.take {w : World} {a : Option Addr} {l : List Int} (h : AtI w a l) (k : Nat) : AtI w a (l.take k) := fun j p hp => by
  rw [List.getElem?_take] at hp
  split at hp
  · exact h j p hp
  · cases hp
theorem AtI.drop {w : World} {x : Addr} {l : List Int} (h : AtI w (some x) l) (k : Nat) : AtI w (some (x.add k)) (l.drop k) := fun j p hp => by
  rw [List.getElem?_drop] at hp
  obtain ⟨y, hy, hx, hc⟩ := h (k + j) p hp
  obtain rfl := Option.some.inj hy
  exact ⟨_, rfl, by rw [addr_block]; exact hx, by rw [addr_add]; exact hc⟩
set_option maxRecDepth 100000 in
set_option maxHeartbeats 400000 in
theorem below_any (is : List Nat) (p : Nat) (a : Option Addr) (cap : Nat) (w : World) (hn : is.length ≤ 9223372036854775807) (hA : AtI w a (ix is)) :
    Calls Tryz.prog 91 #[.slice a is.length cap, .int .i64 p] w fun e w' => e = .returned (.int .i64 (Tree.cnt p is : Nat)) ∧ w' = w := by
  have HA := hid hA
  clear hA
  generalize hl : is.length = n at *
  go_enter Tryz.func91, Tryz.ntmps91
  go_wp2
  go_loopw [5] (fun i w' => ∃ k : Nat, k ≤ n ∧ i = .int .i64 (k : Int) ∧ Hid (∀ j x, j < k → is[j]? = some x → x < p) ∧ w' = w) (fun i _ => n - (intOf i).toNat)
  case atStart => exact ⟨0, by omega, rfl, fun j x hj => by omega, rfl⟩
  case round =>
    obtain ⟨k, hk, rfl, hall, rfl⟩ := hrel
    by_cases hkn : k < n
    · have b0 : (k : Int) < (n : Int) := by omega
      obtain ⟨x, rfl⟩ := HA.out.pos (by rw [ix_len]; omega)
      have hcell := HA.out.cell k (by rw [ix_len]; omega)
      have hi : is[k]? = some is[k] := List.getElem?_eq_getElem (by omega)
      have hv : (ix is)[k]'(by rw [ix_len]; omega) = ((is[k] : Nat) : Int) := by simp [ix]
      rw [hv] at hcell
      generalize is[k] = i at *
      by_cases hip : i < p
      · have b1 : (i : Int) < (p : Int) := by omega
        have hall' : Hid (∀ j x, j < k + 1 → is[j]? = some x → x < p) := fun j x hj hx => by
          by_cases e : j = k
          · subst e; rw [hi] at hx; obtain rfl := Option.some.inj hx; exact hip
          · exact hall.out j x (by omega) hx
        clear HA hi hall
        go_wp2
        exact ⟨⟨k + 1, by omega, by go_num, hall', trivial⟩, by simp [intOf]; omega⟩
      · have b1 : ¬ (i : Int) < (p : Int) := by omega
        have e := hid (Tree.cnt_of p is k (by omega) hall.out (fun y hy => by rw [hi] at hy; obtain rfl := Option.some.inj hy; exact hip))
        clear HA hi hall
        go_wp2
        go_ret
        exact ⟨by rw [e.out]; rfl, rfl⟩
    · have b0 : ¬ (k : Int) < (n : Int) := by omega
      have e := hid (Tree.cnt_of p is k (by omega) hall.out (fun y hy => by rw [List.getElem?_eq_none (by omega)] at hy; cases hy))
      clear HA hall
      go_wp2
      go_ret
      exact ⟨by rw [e.out]; rfl, rfl⟩
set_option maxRecDepth 100000 in
set_option maxHeartbeats 2000000 in
theorem cutI_lt (x : Addr) (n cap k : Nat) (hk : k < n) (hn : n ≤ cap) (w : World) :
    Calls Tryz.prog 90 #[.slice (some x) n cap, .int .i64 k] w fun e w' =>
      e = .returned (.tuple #[.slice (some x) k k, .slice (some (x.add k)) (n - k) (n - k)]) ∧ Below w.heap.size w w' ∧ w'.heap = w.heap := by
  have hne : ¬ n = k := by omega
  go_enter Tryz.func90, Tryz.ntmps90
  go_wp2
  go_quiet (fail)
  go_wp2
  go_ret2
  exact ⟨rfl, below_drewN (Below.refl _ _) _, rfl⟩
set_option maxRecDepth 100000 in
set_option maxHeartbeats 2000000 in
theorem cutI_eq (x : Addr) (n cap : Nat) (hn : n ≤ cap) (w : World) :
    Calls Tryz.prog 90 #[.slice (some x) n cap, .int .i64 n] w fun e w' =>
      e = .returned (.tuple #[.slice (some x) n n, .slice (some x) 0 0]) ∧ Below w.heap.size w w' ∧ w'.heap = w.heap := by
  go_enter Tryz.func90, Tryz.ntmps90
  go_wp2
  go_quiet (fail)
  go_wp2
  go_ret2
  exact ⟨by simp, below_drewN (Below.refl _ _) _, rfl⟩
/-- the indices are cut -/
theorem cutI_any (is : List Nat) (p : Nat) (x : Addr) (cap : Nat) (hn : is.length ≤ cap) (w : World) (hA : AtI w (some x) (ix is)) (hs : is.Pairwise (· < ·)) :
    Calls Tryz.prog 90 #[.slice (some x) is.length cap, .int .i64 (Tree.cnt p is : Nat)] w fun e w' => ∃ y : Addr,
      e = .returned (.tuple #[.slice (some x) (is.filter (· < p)).length (is.filter (· < p)).length, .slice (some y) (is.filter (p ≤ ·)).length (is.filter (p ≤ ·)).length]) ∧ AtI w' (some x) (ix (is.filter (· < p))) ∧ AtI w' (some y) (ix (is.filter (p ≤ ·))) ∧ Below w.heap.size w w' ∧ w'.heap = w.heap := by
  have h1 := Tree.cnt_take p is hs
  have h2 := Tree.cnt_drop p is hs
  have hk := Tree.cnt_le p is
  generalize Tree.cnt p is = k at *
  have l1 : (is.filter (· < p)).length = k := by rw [← h1, List.length_take]; omega
  have l2 : (is.filter (p ≤ ·)).length = is.length - k := by rw [← h2, List.length_drop]
  have hA1 : AtI w (some x) (ix (is.filter (· < p))) := by
    have := hA.take k
    rwa [ix, ← List.map_take, h1] at this
  by_cases hlt : k < is.length
  · refine (cutI_lt x is.length cap k hlt hn w).mono ?_
    rintro e w' ⟨rfl, hb, hh⟩
    have hA2 : AtI w (some (x.add k)) (ix (is.filter (p ≤ ·))) := by
      have := hA.drop k
      rwa [ix, ← List.map_drop, h2] at this
    exact ⟨_, by rw [l1, l2], hA1.heap hh, hA2.heap hh, hb, hh⟩
  · obtain rfl : k = is.length := by omega
    refine (cutI_eq x is.length cap hn w).mono ?_
    rintro e w' ⟨rfl, hb, hh⟩
    have e2 : is.filter (p ≤ ·) = [] := by rw [← h2, List.drop_length]
    exact ⟨x, by rw [l1, e2]; rfl, hA1.heap hh, by rw [e2]; exact AtI.nil _ _, hb, hh⟩
end Go.Proofs.YticjokhfjkebpaaGreatDoor

namespace Go.Proofs.YticjokhfjkebpaaGreatDoor
open Go.RowKit
theorem append_zero (w : World) (x : Value) (hs : Src Tryz.prog 1 24 x 0 [] w) :
    (Builtin.append_ #[24, 24] 24 #[.slice none 0 0, x]).run Tryz.prog w = .ok (.slice none 0 0) w := by
  obtain ⟨i0, hi, hz0, hz1, hz2⟩ := info_parts infoS
  have hc := hs.cells
  rw [← hz1] at hc
  simp [Builtin.append_, run_underlying Tryz.underlying24, sizeOf, typeInfo, hi, hs.len, hc]
theorem svs_one {L : List (List UInt8)} {v : Value} (h : v ∈ svs L) : v.oneCell' = true := by
  simp only [svs, List.mem_map] at h
  obtain ⟨n, _, rfl⟩ := h
  rfl
/-- append(l, m...) -/
theorem append_list (w : World) (base base2 : Nat) (v v2 : Value) (L L2 : List (List UInt8)) (hown : Own w base v (svs L)) (hown2 : Own w base2 v2 (svs L2)) (hlen : L.length + L2.length ≤ 2000000) (hbase : base ≤ w.heap.size) :
    ∃ v' w', (Builtin.append_ #[24, 24] 24 #[v, v2]).run Tryz.prog w = .ok v' w' ∧ Own w' base v' (svs (L ++ L2)) ∧ Below base w w' := by
  obtain ⟨i0, hi, hz0, hz1, hz2⟩ := info_parts infoS
  have hsrc : Src Tryz.prog 1 24 v2 L2.length (svs L2) w := by
    rcases hown2 with ⟨rfl, h⟩ | ⟨g, cap, rfl, h1, h2, h3, h4, h5, h6⟩
    · obtain rfl : L2 = [] := by simpa [svs] using h
      exact Src.ofNil w Tryz.underlying24 0
    · rw [svs_length]
      exact Src.ofSlice w Tryz.underlying24 ⟨g, 0, none⟩ L2.length cap (svs L2) (by rw [svs_length, Nat.mul_one]) (fun j u hj => by rw [Addr.add_mid]; exact h4 j u hj) (fun u hu => svs_one hu)
  by_cases h0 : v = .slice none 0 0 ∧ L2.length = 0
  · obtain ⟨rfl, h0⟩ := h0
    obtain rfl : L2 = [] := List.length_eq_zero_iff.1 h0
    have hL : L = [] := by
      rcases hown with ⟨_, h⟩ | ⟨g, cap, h, _⟩
      · simpa [svs] using h
      · cases h
    subst hL
    exact ⟨_, w, append_zero w v2 hsrc, Own.nil _ _, Below.refl _ _⟩
  · obtain ⟨v', w', h1, h2, h3, h4⟩ := run_append_O (P := Tryz.prog) w base 24 24 24 9 i0 (.string ⟨#[]⟩) Tryz.underlying24 hi hz0 hz1 rfl v (svs L) hown v2 L2.length (svs L2) hsrc
      (by rw [svs_length, hz2]; omega) (by rw [svs_length, maxLen]; omega) hbase (fun e => by
        have : ¬ L2.length = 0 := fun h => h0 ⟨e, h⟩
        omega)
    exact ⟨v', w', h1, by simpa [svs] using h2, Below.ofGrown h3 hown.ge hbase⟩
/-- an append whose run is known, as one step of a region that draws -/
theorem step_append_run {P : Program} {ops : Array Oper} {o : Oper} {a : Act} {w : World} {K : Act → World → Prop} {Q : Exit → Act → World → Prop} {E : Prop}
    (hg : o.guard = none) (s x : Operand) (t : TypeId) (hop : o.op = Op.call { callee := Callee.builtin Builtin.append, args := #[s, x], argTypes := #[t, t] })
    (v1 v2 v' : Value) (w' : World) (hs : a.eval s = v1) (hx : a.eval x = v2) (hrun : (Builtin.append_ #[t, t] o.type #[v1, v2]).run P w = .ok v' w') (hK : K (a.put o.dst v') w') :
    if Region.wanted o (yielded ops a.tmps) = true then Oper.wp P o a w K Q else E := by
  have hw : Region.wanted o (yielded ops a.tmps) = true := by simp [Region.wanted, hg]
  rw [if_pos hw]
  unfold Oper.wp
  simp [execOp, hop, resolve, invoke, builtin, hs, hx, hrun, Result.andThen]
  exact hK
set_option maxRecDepth 100000 in
set_option maxHeartbeats 400000 in
theorem many1_none (l : List (List UInt8)) (ai a : Option Addr) (capi cap c : Nat) (b : Int) (w : World) (hl : l.length ≤ cap) (hc : cap ≤ 9223372036854775807) (hA : At w a l) (T : Tabs w) :
    Calls Tryz.prog 87 #[.slice ai 0 capi, .slice a l.length cap, .int .i64 b, .pointer (some ⟨c, 0, none⟩)] w (Out w [Tree.root l]) := by
  have h2 := root_any l a cap w hl hc hA T
  generalize Tree.root l = r at *
  generalize l.length = n at *
  go_enter Tryz.func87, Tryz.ntmps87
  go_wp2_with (go_at_call 46; refine h2.mono ?_; rintro e w1 ⟨rfl, hw1⟩; rw [show sv r = Value.string ⟨r.toArray⟩ from rfl])
  go_ret
  exact ⟨_, rfl, own_one w1 w.heap.size r hw1.size, hw1.alloc hw1.size _⟩
set_option maxRecDepth 100000 in
set_option maxHeartbeats 400000 in
theorem many1_one (ai a : Option Addr) (ni capi cap c : Nat) (b : Int) (w : World) (hi : 0 < ni) :
    Calls Tryz.prog 87 #[.slice ai ni capi, .slice a 1 cap, .int .i64 b, .pointer (some ⟨c, 0, none⟩)] w (Out w []) := by
  have n0 : ((ni : Int) == 0) = false := by simp; omega
  go_enter Tryz.func87, Tryz.ntmps87
  go_wp2
  go_ret
  exact ⟨_, rfl, Own.nil _ _, Below.refl _ _⟩
set_option maxRecDepth 100000 in
set_option maxHeartbeats 2000000 in
theorem many1_any : ∀ (f : Nat) (l : List (List UInt8)) (is : List Nat) (b : Nat) (ai a : Option Addr) (capi cap c : Nat) (w : World), l.length ≤ f → l.length ≤ 1000000 → b ≤ 1000000 → 1 ≤ l.length → l.length ≤ cap → cap ≤ 9223372036854775807 → At w a l → Tabs w →
    is.length ≤ capi → capi ≤ 9223372036854775807 → AtI w ai (ix is) → is.Pairwise (· < ·) → b + l.length ≤ 1000000 →
    w.cell? ⟨c, 0, none⟩ = some (.func (.func 87) #[] #[.pointer (some ⟨c, 0, none⟩)]) →
    Calls Tryz.prog 87 #[.slice ai is.length capi, .slice a l.length cap, .int .i64 b, .pointer (some ⟨c, 0, none⟩)] w (Out w (Tree.many is b l)) := by
  intro f
  induction f with
  | zero => intro l is b ai a capi cap c w hf _ _ h1; omega
  | succ f ih =>
    intro l is b ai a capi cap c w hf hM hb hl1 hl hc hA T hil hic hAi hso hbl hcl
    by_cases hi : is = []
    · subst hi
      rw [Tree.many_none hl1]
      exact many1_none l ai a capi cap c b w hl hc hA T
    · have hi0 : 0 < is.length := List.length_pos_iff.2 hi
      by_cases h1 : l.length = 1
      · rw [Tree.many_one hi h1, h1]
        exact many1_one ai a is.length capi cap c b w hi0
      · obtain ⟨n, hn⟩ : ∃ n, l.length = n := ⟨_, rfl⟩
        have h2 : 2 ≤ n := by omega
        obtain ⟨x, rfl⟩ := hA.pos (by rw [hn]; omega)
        obtain ⟨xi, rfl⟩ := hAi.pos (by rw [ix_len]; omega)
        have e := hid (Tree.many_cut (b := b) hi (l := l) (by rw [hn]; exact h2))
        rw [hn] at e hf hl hM h1 hbl ⊢
        have k1 := Tree.sp_lt h2
        have k2 := Tree.sp_pos h2
        have hs : spI (n : Int) = ((Tree.sp n : Nat) : Int) := rfl
        generalize Tree.sp n = k at *
        have l1 : (l.take k).length = k := by rw [List.length_take, hn]; omega
        have l2 : (l.drop k).length = n - k := by rw [List.length_drop, hn]
        have n0 : ((is.length : Int) == 0) = false := by simp; omega
        have n2 : ((n : Int) == 1) = false := by simp; omega
        have A1 := hid (hA.take k)
        have A2 := hid (hA.drop k)
        obtain ⟨q, hq⟩ : ∃ q : Nat, b + k = q := ⟨_, rfl⟩
        have ebk : (b : Int) + (k : Int) = (q : Int) := by omega
        have hwq : IntKind.i64.wrap (q : Int) = (q : Int) := wrap_small _ (by omega) (by omega)
        rw [hq] at e
        have cB := below_any is q (some xi) capi
        have cC := cutI_any is q xi capi hil
        have hso1 : (is.filter (· < q)).Pairwise (· < ·) := hso.filter _
        have hso2 : (is.filter (q ≤ ·)).Pairwise (· < ·) := hso.filter _
        have c1 := fun w' (h : At w' (some x) (l.take k)) hT (g : AtI w' (some xi) (ix (is.filter (· < q)))) => ih (l.take k) (is.filter (· < q)) b (some xi) (some x) (is.filter (· < q)).length k c w' (by omega) (by omega) hb (by omega) (by omega) (by omega) h hT (Nat.le_refl _) (by have := List.length_filter_le (fun i => decide (i < q)) is; omega) g hso1 (by omega)
        have c2 := fun w' (y : Addr) (h : At w' (some (x.add k)) (l.drop k)) hT (g : AtI w' (some y) (ix (is.filter (q ≤ ·)))) => ih (l.drop k) (is.filter (q ≤ ·)) q (some y) (some (x.add k)) (is.filter (q ≤ ·)).length (n - k) c w' (by omega) (by omega) (by omega) (by omega) (by omega) (by omega) h hT (Nat.le_refl _) (by have := List.length_filter_le (fun i => decide (q ≤ i)) is; omega) g hso2 (by omega)
        rw [l1] at c1
        rw [l2] at c2
        have m1 := Tree.many_length _ (is.filter (· < q)) b (l.take k) (Nat.le_refl _) (by omega)
        have m2 := Tree.many_length _ (is.filter (q ≤ ·)) q (l.drop k) (Nat.le_refl _) (by omega)
        generalize Tree.many (is.filter (· < q)) b (l.take k) = L1 at *
        generalize Tree.many (is.filter (q ≤ ·)) q (l.drop k) = L2 at *
        generalize is.filter (· < q) = F1 at *
        generalize is.filter (q ≤ ·) = F2 at *
        generalize Tree.cnt q is = t at *
        generalize F1.length = f1 at *
        generalize F2.length = f2 at *
        have HT := hid T
        have HI := hid hAi
        have HQ := hid hq
        clear hA ih hn hAi T hq
        go_enter Tryz.func87, Tryz.ntmps87
        go_wp2_with (first
          | (go_at_call 88; refine (split_any (n : Int) (by omega) (by omega) _).mono ?_; rintro e w0 ⟨rfl, rfl⟩; rw [hs])
          | (go_at_call 89; refine (cut_any x n cap k k1 hl _).mono ?_; rintro e wc ⟨rfl, hbc, hhc⟩; have hcl0 := cell_below hcl hbc)
          | (go_at_call 91; refine (cB _ (by omega) (HI.out.heap hhc)).mono ?_; rintro e wb ⟨rfl, rfl⟩)
          | (go_at_call 90; refine (cC _ (HI.out.heap hhc) hso).mono ?_; rintro e wi ⟨y, rfl, hI1, hI2, hbi, hhi⟩; have hcl1 := cell_below hcl0 hbi))
        have Bc := hid ((hbc.trans (hbi.mono hbc.size)).drew)
        have A1c := hid ((A1.out.heap hhc).heap (w' := wi.drew) hhi)
        have A2c := hid ((A2.out.heap hhc).heap (w' := wi.drew) hhi)
        have I1c := hid (hI1.heap (w' := wi.drew) rfl)
        have I2c := hid (hI2.heap (w' := wi.drew) rfl)
        have Tc := hid (HT.out.below Bc.out HT.out.lt)
        have hcl2 : wi.drew.cell? ⟨c, 0, none⟩ = some (.func (.func 87) #[] #[.pointer (some ⟨c, 0, none⟩)]) := hcl1
        clear hbc hhc hbi hhi hI1 hI2 A1 A2 HT HI hcl hcl0 hcl1 cB cC
        go_region_law (first
          | (refine step_append_run rfl _ _ 24 rfl v1 v2 v3 w3 rfl rfl hap ?_)
          | (go_simp; go_at_call 87; (with_reducible refine (c1 _ A1c.out Tc.out I1c.out hcl2).mono ?_); rintro e w1 ⟨v1, rfl, hO1, hw1⟩; have hcl3 := cell_below hcl2 hw1; dsimp only)
          | (go_simp; go_at_call 87; (with_reducible refine (c2 _ y (A2c.out.below hw1 (Nat.le_refl _)) (Tc.out.below hw1 Tc.out.lt) (I2c.out.below hw1 (Nat.le_refl _)) hcl3).mono ?_); rintro e w2 ⟨v2, rfl, hO2, hw2⟩; obtain ⟨v3, w3, hap, hO3, hb3⟩ := append_list w2 wi.drew.heap.size w1.heap.size v1 v2 L1 L2 (hO1.below hw2 (Nat.le_refl _)) hO2 (by omega) (Nat.le_trans hw1.size hw2.size); dsimp only))
        all_goals
          have s1 := hw1.size
          have s2 := hw2.size
          have s3 := Bc.out.size
          have Bf := hid (((Bc.out.trans (hw1.mono s3)).trans (hw2.mono (Nat.le_trans s3 s1))).trans (hb3.mono s3))
          have Of := hid (hO3.mono s3)
          clear hw1 hw2 hb3 s1 s2 s3 Bc hO3
          go_wp2
          go_ret
          exact ⟨_, rfl, by rw [e.out]; exact Of.out, Bf.out⟩
end Go.Proofs.YticjokhfjkebpaaGreatDoor
