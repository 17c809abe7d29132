import Derived.Test.YtfddkmkibfmmgaaDoorCFR6
namespace Go.Proofs.YtfddkmkibfmmgaaDoor
open Go.RowKit

theorem own_one (w : World) (base : Nat) (r : List UInt8) (hb : base ≤ w.heap.size) : Own (w.alloc (.cells #[sv r] 9)) base (.slice (some ⟨w.heap.size, 0, none⟩) 1 1) (svs [r]) := by
  refine .inr ⟨w.heap.size, 1, rfl, hb, by simp [svs], by simp [maxLen], ?_, ?_, by rw [size_alloc]; omega⟩
  · intro j v hv
    rw [cell_of_row _ _ _ _ _ _ (heap_alloc_new w _), Nat.zero_add]
    simpa [svs] using hv
  · exact there_of_row (heap_alloc_new w _) 0 1 (by simp)
end Go.Proofs.YtfddkmkibfmmgaaDoor

namespace Go.Proofs.YtfddkmkibfmmgaaDoor
open Go.RowKit

/-- T4 -/
def proofOut (l : List (List UInt8)) (m : Int) : List (List UInt8) × Int := if wrg l = 0 then (if 1 ≤ m ∧ m ≤ l.length then (Tree.proof m.toNat l true, 0) else ([], 31)) else ([], wrg l)
end Go.Proofs.YtfddkmkibfmmgaaDoor

namespace Go.Proofs.YtfddkmkibfmmgaaDoor
open Go.RowKit

/-- T3 -/
def partOut (l : List (List UInt8)) (b e : Int) : List UInt8 × Int := if wrg l = 0 then (if 0 ≤ b ∧ b ≤ e ∧ e ≤ l.length then (Tree.root ((l.take e.toNat).drop b.toNat), 0) else ([], 30)) else ([], wrg l)
set_option maxRecDepth 100000 in
set_option maxHeartbeats 1000000 in
theorem Part_any (l : List (List UInt8)) (b e : Int) (a : Option Addr) (cap : Nat) (w : World) (hl : l.length ≤ cap) (hc : cap ≤ 9223372036854775807) (hA : At w a l) (T : Tabs w) :
    Calls Tryd.prog 24 #[.slice a l.length cap, .agg #[.int .i64 b, .int .i64 e]] w fun x w' => x = .returned (.tuple #[sv (partOut l b e).1, .int .i64 (partOut l b e).2]) ∧ Below w.heap.size w w' := by
  have hb0 := (Below.refl w.heap.size w).alloc (Nat.le_refl _) (.cells #[.int .i64 b, .int .i64 e] 47)
  have hA1 := hA.below hb0 (Nat.le_refl _)
  have h1 := check_any l a cap _ (by omega) hA1
  have d0 : (w.alloc (.cells #[.int .i64 b, .int .i64 e] 47)).cell? ⟨w.heap.size, 0, none⟩ = some (.int .i64 b) := by rw [cell_of_row _ _ _ _ _ _ (heap_alloc_new w _)]; rfl
  have d1 : (w.alloc (.cells #[.int .i64 b, .int .i64 e] 47)).cell? ⟨w.heap.size, 1, none⟩ = some (.int .i64 e) := by rw [cell_of_row _ _ _ _ _ _ (heap_alloc_new w _)]; rfl
  have T1 := T.below hb0 T.lt
  by_cases h : wrg l = 0
  · rw [h] at h1
    by_cases hbe : 0 ≤ b ∧ b ≤ e ∧ e ≤ l.length
    · have ho : partOut l b e = (Tree.root ((l.take e.toNat).drop b.toNat), 0) := by rw [partOut, if_pos h, if_pos hbe]
      rw [ho]
      obtain ⟨B, rfl⟩ : ∃ B : Nat, b = (B : Int) := ⟨b.toNat, by omega⟩
      obtain ⟨E, rfl⟩ : ∃ E : Nat, e = (E : Int) := ⟨e.toNat, by omega⟩
      rw [Int.toNat_natCast, Int.toNat_natCast]
      have q1 : B ≤ E := by omega
      have q2 : E ≤ l.length := by omega
      have hlen : ((l.take E).drop B).length = E - B := by simp; omega
      by_cases heq : E = B
      · subst heq
        rw [List.drop_eq_nil_of_le (by simp; omega)]
        have h2 := root_any [] a 0 _ (by simp) (by omega) (At.nil _ _) T1
        rw [List.length_nil] at h2
        generalize Tree.root [] = r at *
        generalize l.length = n at *
        clear h hbe ho hA hA1 T T1 hlen
        go_enter Tryd.func24, Tryd.ntmps24
        go_wp2_with (first
          | (go_at_call 40; refine h1.mono ?_; rintro e w1 ⟨rfl, hw1⟩; rw [hw1]; clear hw1)
          | (go_at_call 41; refine h2.mono ?_; rintro e w2 ⟨rfl, hw2⟩))
        go_ret2
        exact ⟨rfl, hb0.trans (hw2.mono hb0.size)⟩
      · obtain ⟨x, rfl⟩ := hA.pos (by omega)
        have A2 := (hA1.take E).drop B
        have h2 := root_any _ (some (x.add B)) (E - B) _ (by omega) (by omega) A2 T1
        rw [hlen] at h2
        generalize Tree.root ((l.take E).drop B) = r at *
        generalize l.length = n at *
        have hne : ¬ E = B := heq
        clear h hbe ho hA hA1 hlen A2 T T1
        go_enter Tryd.func24, Tryd.ntmps24
        go_wp2_with (first
          | (go_at_call 40; refine h1.mono ?_; rintro e w1 ⟨rfl, hw1⟩; rw [hw1]; clear hw1)
          | (go_at_call 41; refine h2.mono ?_; rintro e w2 ⟨rfl, hw2⟩))
        go_ret2
        exact ⟨rfl, hb0.trans (hw2.mono hb0.size)⟩
    · have ho : partOut l b e = ([], 30) := by rw [partOut, if_pos h, if_neg hbe]
      rw [ho]
      generalize l.length = n at *
      clear h hA hA1 ho T T1
      by_cases b1 : b < 0
      · clear hbe
        go_enter Tryd.func24, Tryd.ntmps24
        go_wp2_with (go_at_call 40; refine h1.mono ?_; rintro e w1 ⟨rfl, hw1⟩; rw [hw1]; clear hw1)
        go_ret2
        exact ⟨rfl, hb0⟩
      · by_cases b2 : e < b
        · clear hbe
          go_enter Tryd.func24, Tryd.ntmps24
          go_wp2_with (go_at_call 40; refine h1.mono ?_; rintro e w1 ⟨rfl, hw1⟩; rw [hw1]; clear hw1)
          go_ret2
          exact ⟨rfl, hb0⟩
        · have b3 : (n : Int) < e := by omega
          clear hbe
          go_enter Tryd.func24, Tryd.ntmps24
          go_wp2_with (go_at_call 40; refine h1.mono ?_; rintro e w1 ⟨rfl, hw1⟩; rw [hw1]; clear hw1)
          go_ret2
          exact ⟨rfl, hb0⟩
  · have ho : partOut l b e = ([], wrg l) := by rw [partOut, if_neg h]
    rw [ho]
    generalize wrg l = z at *
    generalize l.length = n at *
    have b0 : (z != 0) = true := by simpa using h
    clear hA hA1 ho T T1
    go_enter Tryd.func24, Tryd.ntmps24
    go_wp2_with (go_at_call 40; refine h1.mono ?_; rintro e w1 ⟨rfl, hw1⟩; rw [hw1]; clear hw1)
    go_ret2
    exact ⟨rfl, hb0⟩
end Go.Proofs.YtfddkmkibfmmgaaDoor

namespace Go.Proofs.YtfddkmkibfmmgaaDoor
open Go.RowKit

/-- which of n things -/
def pk (c n : Int) : Int := (if c < 0 then -(c + 1) else c) % n
theorem pk_nonneg (c n : Int) (hn : 0 < n) : 0 ≤ pk c n := Int.emod_nonneg _ (by omega)
theorem pk_lt (c n : Int) (hn : 0 < n) : pk c n < n := Int.emod_lt_of_pos _ hn
set_option maxRecDepth 100000 in
set_option maxHeartbeats 400000 in
theorem pick_any (c n : Int) (hc1 : -9223372036854775808 ≤ c) (hc2 : c ≤ 9223372036854775807) (hn : 0 < n) (hn2 : n ≤ 9223372036854775807) (w : World) :
    Calls Tryd.prog 28 #[.int .i64 c, .int .i64 n] w fun e w' => e = .returned (.int .i64 (pk c n)) ∧ w' = w := by
  have hp0 := pk_nonneg c n hn
  have hp1 := pk_lt c n hn
  have hn0 : ¬ n = 0 := by omega
  by_cases h : c < 0
  · have e1 : IntKind.i64.wrap (c + 1) = c + 1 := by rw [IntKind.wrap_i64]; omega
    have e2 : IntKind.i64.wrap (-(c + 1)) = -(c + 1) := by rw [IntKind.wrap_i64]; omega
    have e3 : Int.tmod (-(c + 1)) n = pk c n := by rw [Int.tmod_eq_emod_of_nonneg (by omega), pk, if_pos h]
    have e4 : IntKind.i64.wrap (pk c n) = pk c n := wrap_small _ (by omega) (by omega)
    go_enter Tryd.func28, Tryd.ntmps28
    go_wp2
    go_ret
    exact ⟨rfl, rfl⟩
  · have e3 : Int.tmod c n = pk c n := by rw [Int.tmod_eq_emod_of_nonneg (by omega), pk, if_neg h]
    have e4 : IntKind.i64.wrap (pk c n) = pk c n := wrap_small _ (by omega) (by omega)
    go_enter Tryd.func28, Tryd.ntmps28
    go_wp2
    go_ret
    exact ⟨rfl, rfl⟩


theorem AtI.below {w w' : World} {a : Option Addr} {l : List Int} {B : Nat} (h : AtI w a l) (hb : Below B w w') (hB : w.heap.size ≤ B) : AtI w' a l := fun j p hp => by
  obtain ⟨x, rfl, hx, hc⟩ := h j p hp
  exact ⟨x, rfl, Nat.lt_of_lt_of_le hx hb.size, (hb.cell (p := x.add j) (by rw [addr_block]; omega)).trans hc⟩
theorem AtI.pos {w : World} {a : Option Addr} {l : List Int} (h : AtI w a l) (hl : 0 < l.length) : ∃ x, a = some x := by
  obtain ⟨x, hx, _⟩ := h 0 _ (List.getElem?_eq_getElem hl)
  exact ⟨x, hx⟩
theorem AtI.cell {w : World} {x : Addr} {l : List Int} (h : AtI w (some x) l) (j : Nat) (hj : j < l.length) : w.cell? (x.add j) = some (.int .i64 l[j]) := by
  obtain ⟨y, hy, _, hc⟩ := h j _ (List.getElem?_eq_getElem hj)
  obtain rfl := Option.some.inj hy
  exact hc
def nums (cs : List Int) (k : Nat) : List (List UInt8) := (cs.take k).map lf
theorem nums_succ (cs : List Int) (k : Nat) (h : k < cs.length) : nums cs (k + 1) = nums cs k ++ [lf cs[k]] := by
  rw [nums, nums, List.take_add_one, List.getElem?_eq_getElem h, List.map_append]; rfl
theorem nums_len (cs : List Int) (k : Nat) : (nums cs k).length = min k cs.length := by simp [nums]
theorem nums_hs (cs : List Int) (k : Nat) : Tree.Hs (nums cs k) := fun x hx => by
  simp only [nums, List.mem_map] at hx
  obtain ⟨c, _, rfl⟩ := hx
  exact lf_length c
end Go.Proofs.YtfddkmkibfmmgaaDoor

namespace Go.Proofs.YtfddkmkibfmmgaaDoor.Tree
/-- the root of the first m, where m goes past the first part -/
theorem root_past {l : List T} {m : Nat} (h1 : sp l.length < m) (h2 : m ≤ l.length) (hl : 2 ≤ l.length) : root (l.take m) = nd (root (l.take (sp l.length))) (root ((l.drop (sp l.length)).take (m - sp l.length))) := by
  have a := sp_lt hl
  have b := sp_ge hl
  have c := sp_pos hl
  have hlen : (l.take m).length = m := by simp; omega
  have hs : sp m = sp l.length := by
    have e := sp_eq hl
    rw [e] at h1 b
    rw [sp_one (n := m) (by rw [← e] at h1; omega) _ h1 (by omega), e]
  rw [root_cut (l := l.take m) (by rw [hlen]; omega), hlen, hs, List.take_take, Nat.min_eq_left (by omega), List.drop_take]
end Go.Proofs.YtfddkmkibfmmgaaDoor.Tree
namespace Go.Proofs.YtfddkmkibfmmgaaDoor
open Go.RowKit
theorem At.init {w : World} {a : Option Addr} {l : List (List UInt8)} {r : List UInt8} (h : At w a (l ++ [r])) : At w a l := fun j p hp => h j p (by
  rw [List.getElem?_append_left (List.getElem?_eq_some_iff.1 hp).1]; exact hp)
theorem At.last {w : World} {x : Addr} {l : List (List UInt8)} {r : List UInt8} (h : At w (some x) (l ++ [r])) : w.cell? (x.add l.length) = some (.string ⟨r.toArray⟩) := by
  obtain ⟨y, hy, _, hc⟩ := h l.length r (by simp)
  obtain rfl := Option.some.inj hy
  exact hc
end Go.Proofs.YtfddkmkibfmmgaaDoor

namespace Go.Proofs.YtfddkmkibfmmgaaDoor
open Go.RowKit
theorem Own.at {w : World} {base : Nat} {v : Value} {L : List (List UInt8)} (h : Own w base v (svs L)) : ∃ a cap, v = .slice a L.length cap ∧ At w a L ∧ L.length ≤ cap ∧ cap ≤ 9223372036854775807 := by
  rcases h with ⟨rfl, h⟩ | ⟨g, cap, rfl, h1, h2, h3, h4, h5, h6⟩
  · obtain rfl : L = [] := by simpa [svs] using h
    exact ⟨none, 0, rfl, At.nil _ _, by simp, by omega⟩
  · rw [svs_length] at h2
    refine ⟨some ⟨g, 0, none⟩, cap, by rw [svs_length], fun j p hp => ⟨_, rfl, h6, ?_⟩, h2, h3⟩
    rw [Addr.add_mid]
    exact h4 j (sv p) (by simp [svs, hp])
theorem wrg_hs {l : List (List UInt8)} (h : Tree.Hs l) (hl : l.length ≤ 4096) : wrg l = 0 := by
  rw [wrg, if_neg (by omega), if_pos]
  rw [List.all_eq_true]
  intro x hx
  simpa using h x hx
theorem Root_hs {l : List (List UInt8)} (h : Tree.Hs l) (hl : l.length ≤ 4096) (a : Option Addr) (cap : Nat) (w : World) (hlc : l.length ≤ cap) (hc : cap ≤ 9223372036854775807) (hA : At w a l) (T : Tabs w) :
    Calls Tryd.prog 18 #[.slice a l.length cap] w fun e w' => e = .returned (.tuple #[sv (Tree.root l), .int .i64 0]) ∧ Below w.heap.size w w' := by
  have := Root_any l a cap w hlc hc hA T
  rwa [rootOut, if_pos (wrg_hs h hl)] at this
theorem Part_hs {l : List (List UInt8)} (h : Tree.Hs l) (hl : l.length ≤ 4096) (a : Option Addr) (cap : Nat) (w : World) (hlc : l.length ≤ cap) (hc : cap ≤ 9223372036854775807) (hA : At w a l) (T : Tabs w) :
    Calls Tryd.prog 24 #[.slice a l.length cap, .agg #[.int .i64 0, .int .i64 (l.length : Nat)]] w fun e w' => e = .returned (.tuple #[sv (Tree.root l), .int .i64 0]) ∧ Below w.heap.size w w' := by
  have := Part_any l 0 (l.length : Nat) a cap w hlc hc hA T
  rwa [partOut, if_pos (wrg_hs h hl), if_pos (by omega), Int.toNat_natCast, List.take_length, show Int.toNat 0 = 0 from rfl, List.drop_zero] at this
theorem Tabs.next {w w' : World} (h : Tabs w) (hb : Below w.heap.size w w') : Tabs w' := h.below hb h.lt
end Go.Proofs.YtfddkmkibfmmgaaDoor
