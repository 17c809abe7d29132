import Derived.Test.YtmpaliocfikifaaGreatDoorCO29
import Derived.Test.YtmpaliocfikifaaGreatDoorCBM1
import Derived.Test.YtmpaliocfikifaaGreatDoorCSP18
namespace Go.Proofs.YtmpaliocfikifaaGreatDoor.Tree
/-- which are wanted, of k from b on -/
def wi (wt : List Bool) (b k : Nat) : List Nat := (List.range' b k).filter (fun j => wt.getD j false)
theorem wi_zero (wt : List Bool) (b : Nat) : wi wt b 0 = [] := rfl
theorem wi_add (wt : List Bool) (b k j : Nat) : wi wt b (k + j) = wi wt b k ++ wi wt (b + k) j := by
  rw [wi, wi, wi, ← List.filter_append, ← List.range'_append_1]
theorem wi_succ (wt : List Bool) (b k : Nat) : wi wt b (k + 1) = wi wt b k ++ (if wt.getD (b + k) false then [b + k] else []) := by
  rw [wi_add, wi, wi]
  congr 1
  rw [show List.range' (b + k) 1 = [b + k] from rfl]
  by_cases h : wt.getD (b + k) false = true
  · rw [if_pos h]; simp only [List.filter, h]
  · rw [if_neg h]; simp only [List.filter, h]
theorem wi_mem {wt : List Bool} {b k i : Nat} (h : i ∈ wi wt b k) : b ≤ i ∧ i < b + k := by
  have := (List.mem_filter.1 h).1
  rw [List.mem_range'_1] at this
  exact this
theorem wi_left (wt : List Bool) (b k j : Nat) : (wi wt b (k + j)).filter (· < b + k) = wi wt b k := by
  rw [wi_add, List.filter_append, List.filter_eq_self.2 (fun x hx => by have := wi_mem hx; simp; omega), List.filter_eq_nil_iff.2 (fun x hx => by have := wi_mem hx; simp; omega), List.append_nil]
theorem wi_right (wt : List Bool) (b k j : Nat) : (wi wt b (k + j)).filter (b + k ≤ ·) = wi wt (b + k) j := by
  rw [wi_add, List.filter_append, List.filter_eq_nil_iff.2 (fun x hx => by have := wi_mem hx; simp; omega), List.filter_eq_self.2 (fun x hx => by have := wi_mem hx; simp; omega), List.nil_append]
theorem wi_sorted (wt : List Bool) (b k : Nat) : (wi wt b k).Pairwise (· < ·) := List.Pairwise.filter _ List.pairwise_lt_range'
theorem wi_length (wt : List Bool) (b k : Nat) : (wi wt b k).length ≤ k := by
  have := List.length_filter_le (fun j => wt.getD j false) (List.range' b k)
  rw [List.length_range'] at this
  exact this
/-- a proof of many has at most n less as many -/
theorem wi_many : ∀ (f : Nat) (wt : List Bool) (b : Nat) (l : List T), l.length ≤ f → 1 ≤ l.length → (many (wi wt b l.length) b l).length + (wi wt b l.length).length ≤ l.length
  | 0, wt, b, l, h, h1 => by omega
  | f + 1, wt, b, l, h, h1 => by
    by_cases hi : wi wt b l.length = []
    · rw [hi, many_none h1]; simpa using h1
    · by_cases h2 : l.length = 1
      · have := wi_length wt b l.length
        rw [many_one hi h2]; simpa using this
      · have x := sp_lt (n := l.length) (by omega)
        have y := sp_pos (n := l.length) (by omega)
        have e : l.length = sp l.length + (l.length - sp l.length) := by omega
        have l1 : (l.take (sp l.length)).length = sp l.length := by simp; omega
        have l2 : (l.drop (sp l.length)).length = l.length - sp l.length := by simp
        have ih1 := wi_many f wt b (l.take (sp l.length)) (by omega) (by omega)
        have ih2 := wi_many f wt (b + sp l.length) (l.drop (sp l.length)) (by omega) (by omega)
        rw [l1] at ih1
        rw [l2] at ih2
        have hw : (wi wt b l.length).length = (wi wt b (sp l.length)).length + (wi wt (b + sp l.length) (l.length - sp l.length)).length := by
          conv => lhs; rw [e]
          rw [wi_add, List.length_append]
        have hl := wi_left wt b (sp l.length) (l.length - sp l.length)
        have hr := wi_right wt b (sp l.length) (l.length - sp l.length)
        rw [← e] at hl hr
        rw [many_cut hi (by omega), hl, hr, List.length_append]
        omega
end Go.Proofs.YtmpaliocfikifaaGreatDoor.Tree
namespace Go.Proofs.YtmpaliocfikifaaGreatDoor
open Go.RowKit
theorem At.split {w : World} {x : Addr} {l r : List (List UInt8)} (h : At w (some x) (l ++ r)) : At w (some (x.add l.length)) r := by
  have := h.drop l.length
  rwa [List.drop_left] at this
/-- what is told: a root, and what is left of the proof -/
def OutT (w : World) (r : List UInt8) (R : List (List UInt8)) (e : Ending) (w' : World) : Prop :=
  ∃ a' c', e = .returned (.tuple #[sv r, .slice a' R.length c', .bool true]) ∧ At w' a' R ∧ R.length ≤ c' ∧ c' ≤ 9223372036854775807 ∧ Below w.heap.size w w'
end Go.Proofs.YtmpaliocfikifaaGreatDoor

namespace Go.Proofs.YtmpaliocfikifaaGreatDoor
open Go.RowKit
theorem infoBl : (Tryz.prog.info? 3).map (fun i => (i.zero, i.size, i.bytes)) = some (some (.int .i64 0), 1, 8) := by kernel_rfl
def ivs (L : List Int) : List Value := L.map (.int .i64)
theorem ivs_length (L : List Int) : (ivs L).length = L.length := by simp [ivs]
/-- append(l, i) -/
theorem append_int (w : World) (base : Nat) (v : Value) (L : List Int) (p : Int) (hown : Own w base v (ivs L)) (hlen : L.length ≤ 2000000) (hbase : base ≤ w.heap.size) :
    ∃ v' w', (Builtin.append_ #[22, 22] 22 #[v, .slice (some ⟨w.heap.size, 0, none⟩) 1 1]).run Tryz.prog (w.alloc (.cells #[.int .i64 p] 3)) = .ok v' w' ∧ Own w' base v' (ivs (L ++ [p])) ∧ Below base w w' := by
  obtain ⟨i0, hi, hz0, hz1, hz2⟩ := info_parts infoBl
  have hsrc : Src Tryz.prog 1 22 (.slice (some ⟨w.heap.size, 0, none⟩) 1 1) 1 [.int .i64 p] (w.alloc (.cells #[.int .i64 p] 3)) :=
    Src.ofSlice _ Tryz.underlying22 ⟨w.heap.size, 0, none⟩ 1 1 [.int .i64 p] (by simp) (fun j u hj => by
      rw [Addr.add_mid, cell_of_row _ _ _ _ _ _ (heap_alloc_new w _), Nat.zero_add]; simpa using hj) (fun u hu => by simp at hu; subst hu; rfl)
  obtain ⟨v', w', h1, h2, h3, h4⟩ := run_append_O (P := Tryz.prog) (w.alloc (.cells #[.int .i64 p] 3)) base 22 22 22 3 i0 (.int .i64 0) Tryz.underlying22 hi hz0 hz1 rfl v (ivs L) (hown.alloc _) _ 1 [.int .i64 p] hsrc
    (by rw [ivs_length, hz2]; omega) (by rw [ivs_length, maxLen]; omega) (by rw [size_alloc]; omega) (fun _ => by omega)
  refine ⟨v', w', h1, by simpa [ivs] using h2, ?_⟩
  exact ((Below.refl base w).alloc hbase _).trans (Below.ofGrown h3 hown.ge (by rw [size_alloc]; omega))
theorem Own.atI {w : World} {base : Nat} {v : Value} {L : List Int} (h : Own w base v (ivs L)) : ∃ a cap, v = .slice a L.length cap ∧ AtI w a L ∧ L.length ≤ cap ∧ cap ≤ 9223372036854775807 := by
  rcases h with ⟨rfl, h⟩ | ⟨g, cap, rfl, h1, h2, h3, h4, h5, h6⟩
  · obtain rfl : L = [] := by simpa [ivs] using h
    exact ⟨none, 0, rfl, AtI.nil _ _, by simp, by omega⟩
  · rw [ivs_length] at h2
    refine ⟨some ⟨g, 0, none⟩, cap, by rw [ivs_length], fun j p hp => ⟨_, rfl, h6, ?_⟩, h2, h3⟩
    rw [Addr.add_mid]
    exact h4 j (.int .i64 p) (by simp [ivs, hp])
/-- a row of yes and no -/
def RowB (w : World) (H : Nat) (L : List Bool) : Prop := w.heap[H]? = some (.cells (bls L).toArray 4 (0, 0))
theorem RowB.lt {w : World} {H : Nat} {L : List Bool} (h : RowB w H L) : H < w.heap.size := lt_of_heap h
theorem RowB.cell {w : World} {H : Nat} {L : List Bool} (h : RowB w H L) {j : Nat} {p : Bool} (hp : L[j]? = some p) : w.cell? ⟨H, j, none⟩ = some (.bool p) := by
  rw [cell_of_row _ _ _ _ _ _ h]; simp [bls, hp]
theorem RowB.at {w : World} {H : Nat} {L : List Bool} (h : RowB w H L) : AtB w (some ⟨H, 0, none⟩) L := fun j p hp => ⟨_, rfl, h.lt, by rw [Addr.add_mid, Nat.zero_add]; exact h.cell hp⟩
theorem RowB.free {w : World} {H : Nat} {L : List Bool} (h : RowB w H L) {j : Nat} (hj : j < L.length) : w.frozen? ⟨H, j, none⟩ = false := by
  have := (there_of_row h 0 L.length (by simp [bls])) j hj
  rw [Nat.zero_add] at this
  exact this.2
theorem RowB.below {w w' : World} {H B : Nat} {L : List Bool} (h : RowB w H L) (hb : Below B w w') (hB : H < B) : RowB w' H L := by
  unfold RowB; rw [hb.block H hB]; exact h
theorem RowB.set {w : World} {H : Nat} {L : List Bool} (h : RowB w H L) (k : Nat) (x : Bool) : RowB (w.setCell ⟨H, k, none⟩ (.bool x)) H (L.set k x) := by
  have e := setCell_eq_setRow w H k (bls L).toArray 4 (0, 0) (.bool x) h
  unfold RowB
  rw [e, setRow_heap _ _ _ _ _ _ h]
  refine congrArg (fun A => some (Obj.cells A 4 (0, 0))) ?_
  simp [bls, List.map_set]
/-- the wanted, as indices -/
theorem wi_ok (wt : List Bool) (n : Nat) (h : wt.length = n) (h2 : n ≤ 200) (hne : Tree.wi wt 0 n ≠ []) : OkI n (ix (Tree.wi wt 0 n)) := by
  have hs := Tree.wi_sorted wt 0 n
  refine ⟨by rw [ix_len]; exact List.length_pos_iff.2 hne, by rw [ix_len]; have := Tree.wi_length wt 0 n; omega, fun j x hx => ?_, fun j x y hx hy => ?_⟩
  · simp only [ix, List.getElem?_map, Option.map_eq_some_iff] at hx
    obtain ⟨i, hi, rfl⟩ := hx
    have := Tree.wi_mem (List.mem_of_getElem? hi)
    omega
  · simp only [ix, List.getElem?_map, Option.map_eq_some_iff] at hx hy
    obtain ⟨i, hi, rfl⟩ := hx
    obtain ⟨k, hk, rfl⟩ := hy
    have h1 := (List.getElem?_eq_some_iff.1 hi)
    have h2 := (List.getElem?_eq_some_iff.1 hk)
    obtain ⟨a1, rfl⟩ := h1
    obtain ⟨a2, rfl⟩ := h2
    have := List.pairwise_iff_getElem.1 hs j (j + 1) a1 a2 (by omega)
    omega
theorem toN_ix (is : List Nat) : toN (ix is) = is := by
  have e : (Int.toNat ∘ fun (i : Nat) => (i : Int)) = id := by funext i; simp
  rw [toN, ix, List.map_map, e, List.map_id]
end Go.Proofs.YtmpaliocfikifaaGreatDoor

/- THE PLAIN MATHEMATICS OF LAYER 12: hashes that are a tree's -/
namespace Go.Proofs.YtmpaliocfikifaaGreatDoor
namespace Bat
open Tree
/-- the hash of a span of a tree -/
def rt (l : List T) (s : Nat × Nat) : T := root (seg l s.1 s.2)
theorem rt_two {l : List T} {b m : Nat} (h : 2 ≤ m) (hl : b + m ≤ l.length) : rt l (b, b + m) = nd (rt l (b, b + sp m)) (rt l (b + sp m, b + m)) := root_seg_two h hl
structure Fit (is : List Nat) (n : Nat) (l : List T) (val : Nat × Nat → T) : Prop where
  nn : ∀ b m, 2 ≤ m → tch is b (b + m) = true → val (b, b + m) = nd (val (b, b + sp m)) (val (b + sp m, b + m))
  tt : ∀ s ∈ othF n 0 n is, val s = rt l s
  ll : ∀ i ∈ is, val (i, i + 1) = rt l (i, i + 1)
  hn : n ≤ l.length
theorem Fit.down {is : List Nat} {n : Nat} {l : List T} {val : Nat × Nat → T} (h : Fit is n l val) : ∀ (f b m : Nat), 1 ≤ m → m ≤ f → b + m ≤ n → (∀ s ∈ othF f b m is, val s = rt l s) → val (b, b + m) = rt l (b, b + m)
  | 0, b, m, h1, h2, _, _ => by omega
  | f + 1, b, m, h1, h2, h3, ho => by
    cases ht : tch is b (b + m) with
    | false => exact ho _ (by rw [othF_no ht]; exact List.mem_singleton.2 rfl)
    | true =>
      by_cases hm : m < 2
      · obtain rfl : m = 1 := by omega
        obtain ⟨i, hi, h4, h5⟩ := tch_mem.1 ht
        obtain rfl : i = b := by omega
        exact h.ll i hi
      · have s1 := sp_lt (n := m) (by omega)
        have s2 := sp_pos (n := m) (by omega)
        rw [othF_two ht (by omega)] at ho
        rw [h.nn b m (by omega) ht, rt_two (by omega) (by have := h.hn; omega), h.down f b (sp m) (by omega) (by omega) (by omega) (fun s hs => ho s (List.mem_append_left _ hs))]
        have := h.down f (b + sp m) (m - sp m) (by omega) (by omega) (by omega) (fun s hs => ho s (List.mem_append_right _ hs))
        rw [show b + sp m + (m - sp m) = b + m by omega] at this
        rw [this]
theorem Fit.sub {is : List Nat} {n : Nat} {l : List T} {val : Nat × Nat → T} (h : Fit is n l val) : ∀ (f b m x y : Nat), 1 ≤ m → m ≤ f → b + m ≤ n → (∀ s ∈ othF f b m is, val s = rt l s) → insF f b m x y = true → tch is x y = true → val (x, y) = rt l (x, y)
  | 0, b, m, x, y, h1, h2, _, _, _, _ => by omega
  | f + 1, b, m, x, y, h1, h2, h3, ho, hi, ht => by
    have hin := insF_in (f + 1) b m x y hi h1
    rcases insF_cases hi with e | ⟨h6, _⟩ | ⟨h6, _⟩
    · obtain ⟨rfl, rfl⟩ := e
      exact h.down (f + 1) x m h1 h2 h3 ho
    · by_cases he : x = b ∧ y = b + m
      · obtain ⟨rfl, rfl⟩ := he
        exact h.down (f + 1) x m h1 h2 h3 ho
      · have hm : 2 ≤ m := by
          rcases Nat.lt_or_ge m 2 with c | c
          · exfalso; apply he; omega
          · exact c
        have s1 := sp_lt (n := m) hm
        have s2 := sp_pos (n := m) hm
        rw [othF_two (tch_sub ht (by omega) (by omega)) hm] at ho
        rw [insF, if_neg he, if_neg (by omega), if_pos h6] at hi
        exact h.sub f b (sp m) x y (by omega) (by omega) (by omega) (fun s hs => ho s (List.mem_append_left _ hs)) hi ht
    · by_cases he : x = b ∧ y = b + m
      · obtain ⟨rfl, rfl⟩ := he
        exact h.down (f + 1) x m h1 h2 h3 ho
      · have hm : 2 ≤ m := by
          rcases Nat.lt_or_ge m 2 with c | c
          · exfalso; apply he; omega
          · exact c
        have s1 := sp_lt (n := m) hm
        have s2 := sp_pos (n := m) hm
        rw [othF_two (tch_sub ht (by omega) (by omega)) hm] at ho
        rw [insF, if_neg he, if_neg (by omega), if_neg (by omega), if_pos h6] at hi
        exact h.sub f (b + sp m) (m - sp m) x y (by omega) (by omega) (by omega) (fun s hs => ho s (List.mem_append_right _ hs)) hi ht
theorem Fit.root {is : List Nat} {n : Nat} {l : List T} {val : Nat × Nat → T} (h : Fit is n l val) (h1 : 1 ≤ n) : val (0, n) = Tree.root (l.take n) := by
  have := h.down n 0 n h1 (Nat.le_refl _) (by omega) h.tt
  rw [Nat.zero_add] at this
  rw [this]
  show Tree.root (seg l 0 n) = _
  simp [seg]
theorem Fit.path {is : List Nat} {n : Nat} {l : List T} {val : Nat × Nat → T} (h : Fit is n l val) {i : Nat} (hi : i ∈ is) (hn : i < n) : (pthF n 0 n i).map val = path i (l.take n) := by
  obtain ⟨n', rfl⟩ : ∃ n', n = n' + 1 := ⟨n - 1, by omega⟩
  have hs := insF_self (f := n') (b := 0) (n := n' + 1)
  have key := pth_known hi (fun s => val s = rt l s) (by omega) (fun x y h1 h2 => h.sub (n' + 1) 0 (n' + 1) x y (by omega) (Nat.le_refl _) (by omega) h.tt h1 h2) (n' + 1) 0 (n' + 1) (by omega) (Nat.le_refl _) (by omega) (by omega) hs h.tt
  rw [List.map_congr_left key]
  have e := pthF_hash l (n' + 1) 0 (n' + 1) i (Nat.le_refl _) (Nat.zero_le _) (by omega) (by have := h.hn; omega)
  rw [Nat.zero_add, Nat.sub_zero] at e
  rw [show seg l 0 (n' + 1) = l.take (n' + 1) by simp [seg]] at e
  exact e
/-- told hashes of a tree, and its leaves -/
theorem Val.fit {is : List Nat} {n : Nat} {l H L : List T} {val : Nat × Nat → T} (V : Val is n H L val) (hn : n ≤ l.length) (hi : ∀ i ∈ is, i < n) (hH : H = (othF n 0 n is).map (rt l)) (hL : ∀ (k : Nat) (i : Nat), is[k]? = some i → L[k]? = l[i]?) : Fit is n l val := by
  refine ⟨V.n, fun s hs => ?_, fun i hm => ?_, hn⟩
  · have e := V.h.symm.trans hH
    obtain ⟨k, hk, rfl⟩ := List.mem_iff_getElem.1 hs
    have := congrArg (fun l => l[k]?) e
    simpa [hk] using this
  · obtain ⟨k, hk, e⟩ := List.mem_iff_getElem.1 hm
    have h1 := hL k i (by rw [List.getElem?_eq_getElem hk, e])
    have h2 := V.l
    have hil := hi i hm
    rw [h2, List.getElem?_map, List.getElem?_eq_getElem hk, e, Option.map_some, List.getElem?_eq_getElem (by omega)] at h1
    have h3 := Option.some.inj h1
    rw [h3]
    show _ = Tree.root (seg l i (i + 1))
    rw [show seg l i (i + 1) = [l[i]'(by omega)] by
      have hlt : i < l.length := by omega
      unfold seg
      rw [List.take_add_one, List.getElem?_eq_getElem hlt, List.drop_append_of_le_length (by rw [List.length_take]; omega), List.drop_of_length_le (by rw [List.length_take]; omega)]
      rfl]
    exact (root_one _).symm
end Bat
end Go.Proofs.YtmpaliocfikifaaGreatDoor

namespace Go.Proofs.YtmpaliocfikifaaGreatDoor
open Go.RowKit Go.Shelf
namespace Bat
theorem append_spl12 (w : World) (v1 v2 : Value) (l m : List (Nat × Nat)) (h1 : OwnP w v1 l) (h2 : OwnP w v2 m) (hl : l.length ≤ 1099511627776) (hm : m.length ≤ 1099511627776) :
    ∃ v' w', (Builtin.append_ #[55, 55] 55 #[v1, v2]).run Tryz.prog w = .ok v' w' ∧ OwnP w' v' (l ++ m) ∧ Grow w w' v1 v' := by
  obtain ⟨i0, hi, hz0, hz1, hz2⟩ := info_parts infoSp8
  have one : ∀ u ∈ prs m, u.oneCell' = true := fun u hu => by
    simp only [prs, List.mem_flatMap, List.mem_cons, List.not_mem_nil, or_false] at hu
    obtain ⟨q, _, rfl | rfl⟩ := hu <;> rfl
  have hsrc : Src Tryz.prog 2 55 v2 m.length (prs m) w := by
    rcases h2 with ⟨rfl, h, h'⟩ | ⟨g, cap, rfl, _, _, h0, h4, _, _⟩
    · rw [h, h']; exact Src.ofNil w Tryz.underlying55 0
    · exact Src.ofSlice w Tryz.underlying55 ⟨g, 0, none⟩ m.length cap (prs m) h0 (fun j u hj => by rw [Addr.add_mid]; exact h4 j u hj) one
  by_cases hz : v1 = .slice none 0 0 ∧ m.length = 0
  · obtain ⟨rfl, hm0⟩ := hz
    have hl0 : l.length = 0 := by
      rcases h1 with ⟨_, h, _⟩ | ⟨g, cap, h, _⟩
      · exact h
      · cases h
    obtain rfl : l = [] := List.length_eq_zero_iff.1 hl0
    obtain rfl : m = [] := List.length_eq_zero_iff.1 hm0
    refine ⟨.slice none 0 0, w, ?_, OwnM.nil 2 w, ⟨rfl, rfl, rfl, Nat.le_refl _, fun _ _ _ => rfl, .inl rfl⟩⟩
    rcases h2 with ⟨rfl, _⟩ | ⟨g, cap, rfl, _⟩
    · kernel_rfl
    · kernel_rfl
  · obtain ⟨v', w', a1, a2, a3⟩ := run_append_M (P := Tryz.prog) w 55 55 55 72 i0 (.agg #[.int .i64 0, .int .i64 0]) Tryz.underlying55 hi hz0 hz1 rfl v1 l.length (prs l) h1 v2 m.length (prs m) hsrc
      (by rw [hz2]; omega) (by rw [maxLen]; omega) (fun e => by
        rcases Nat.eq_zero_or_pos m.length with h | h
        · exact absurd ⟨e, h⟩ hz
        · exact h)
    refine ⟨v', w', a1, ?_, a3⟩
    rw [OwnP, prs_append, List.length_append]
    exact a2
theorem wit_wit {l : List Nat} {b e x y : Nat} (h1 : b ≤ x) (h2 : y ≤ e) : Tree.wit (Tree.wit l b e) x y = Tree.wit l x y := by
  unfold Tree.wit
  rw [List.filter_filter]
  congr 1
  funext i
  rw [Bool.eq_iff_iff]
  simp
  omega
theorem tch_wit {l : List Nat} {b e x y : Nat} (h1 : b ≤ x) (h2 : y ≤ e) : Tree.tch (Tree.wit l b e) x y = Tree.tch l x y := by
  rw [Bool.eq_iff_iff, Tree.tch_mem, Tree.tch_mem]
  constructor
  · rintro ⟨i, hi, h3, h4⟩
    exact ⟨i, (List.mem_filter.1 hi).1, h3, h4⟩
  · rintro ⟨i, hi, h3, h4⟩
    exact ⟨i, List.mem_filter.2 ⟨hi, by simp; omega⟩, h3, h4⟩
theorem oth_wit {l : List Nat} {B E : Nat} : ∀ (f b m : Nat), B ≤ b → b + m ≤ E → Tree.othF f b m (Tree.wit l B E) = Tree.othF f b m l
  | 0, b, m, _, _ => rfl
  | f + 1, b, m, h1, h2 => by
    rw [Tree.othF, Tree.othF, tch_wit h1 h2]
    split
    · rfl
    · split
      · rfl
      · have s1 := Tree.sp_lt (n := m) (by omega)
        have s2 := Tree.sp_pos (n := m) (by omega)
        rw [oth_wit f b (Tree.sp m) h1 (by omega), oth_wit f (b + Tree.sp m) (m - Tree.sp m) (by omega) (by omega)]
set_option maxRecDepth 100000 in
set_option maxHeartbeats 4000000 in
theorem within12_any (l : List Nat) (b e : Nat) (hl : l.length ≤ 256) (a : Option Addr) (ca : Nat) (w : World) (hA : AtI w a (ix l)) :
    Calls Tryz.prog 51 #[.slice a l.length ca, .int .i64 (b : Int), .int .i64 (e : Int)] w fun r w' => ∃ v, r = .returned v ∧ Own w' w.heap.size v (ivs (ix (Tree.wit l b e))) ∧ Below w.heap.size w w' := by
  have HA := hid hA
  obtain ⟨N, hN⟩ : ∃ N : Nat, Hid (l.length = N) := ⟨_, rfl⟩
  rw [hN.out] at hl ⊢
  clear hA
  go_enter Tryz.func51, Tryz.ntmps51
  go_wp2
  go_loopw [7, 8] (fun v i w' => ∃ k : Nat, k ≤ N ∧ i = .int .i64 (k : Int) ∧ Hid (Own w' w.heap.size v (ivs (ix (Tree.wit (l.take k) b e)))) ∧ Hid (Below w.heap.size w w')) (fun _ i _ => N - (intOf i).toNat)
  case atStart => exact ⟨0, by omega, rfl, Own.nil _ _, Below.refl _ _⟩
  case round =>
    obtain ⟨k, hk, rfl, hO, hB⟩ := hrel
    by_cases hkN : k < N
    · have b0 : (k : Int) < (N : Int) := by omega
      have hkl : k < l.length := by rw [hN.out]; exact hkN
      have hkx : k < (ix l).length := by simp [ix]; exact hkl
      obtain ⟨x, rfl, _, hc⟩ := (HA.out.below hB.out (Nat.le_refl _)) k (ix l)[k] (List.getElem?_eq_getElem hkx)
      rw [show (ix l)[k] = ((l[k] : Nat) : Int) by simp [ix]] at hc
      have hst := hid (show Tree.wit (l.take (k + 1)) b e = Tree.wit (l.take k) b e ++ (if b ≤ l[k] ∧ l[k] < e then [l[k]] else []) by
        unfold Tree.wit
        rw [List.take_add_one, List.getElem?_eq_getElem hkl, List.filter_append]
        congr 1
        by_cases c : b ≤ l[k] ∧ l[k] < e
        · rw [if_pos c]; simp [c]
        · rw [if_neg c]; simp [c])
      have hlen : (ix (Tree.wit (l.take k) b e)).length ≤ 2000000 := by
        have := List.length_filter_le (fun i => decide (b ≤ i ∧ i < e)) (l.take k)
        simp only [ix, List.length_map, Tree.wit]
        rw [List.length_take] at this
        omega
      generalize l[k] = i at *
      by_cases c1 : b ≤ i
      · have d1 : (b : Int) ≤ (i : Int) := by omega
        by_cases c2 : i < e
        · have d2 : (i : Int) < (e : Int) := by omega
          obtain ⟨v3, w3, hap, hO3, hb3⟩ := append_int wr w.heap.size _ (ix (Tree.wit (l.take k) b e)) (i : Int) hO.out hlen hB.out.size
          have hst2 : ix (Tree.wit (l.take k) b e) ++ [(i : Int)] = ix (Tree.wit (l.take (k + 1)) b e) := by rw [hst.out, if_pos ⟨c1, c2⟩]; simp [ix]
          rw [hst2] at hO3
          have O3 := hid hO3
          have B3 := hid (hB.out.trans hb3)
          clear hO3 hb3 hst hst2 hO hB
          go_wp2_with (at_builtin; go_must (refine Lib.wpList_append_run _ rfl _ _ 22 22 rfl _ _ rfl rfl _ _ hap ?_))
          exact ⟨⟨k + 1, by omega, by go_num, O3, B3⟩, by simp [intOf]; omega⟩
        · have d2 : ¬ (i : Int) < (e : Int) := by omega
          rw [if_neg (by omega), List.append_nil] at hst
          rw [← hst.out] at hO
          clear hst
          go_wp2
          exact ⟨⟨k + 1, by omega, by go_num, hO, hB⟩, by simp [intOf]; omega⟩
      · have d1 : ¬ (b : Int) ≤ (i : Int) := by omega
        rw [if_neg (by omega), List.append_nil] at hst
        rw [← hst.out] at hO
        clear hst
        go_wp2
        exact ⟨⟨k + 1, by omega, by go_num, hO, hB⟩, by simp [intOf]; omega⟩
    · obtain rfl : k = N := by omega
      have b0 : ¬ (k : Int) < (k : Int) := by omega
      rw [← hN.out, List.take_length] at hO
      go_wp2
      go_ret
      exact ⟨_, rfl, hO.out, hB.out⟩
theorem own_one12 (w : World) (x y : Nat) : OwnP (w.alloc (.cells #[.int .i64 (x : Int), .int .i64 (y : Int)] 72)) (.slice (some ⟨w.heap.size, 0, none⟩) 1 1) [(x, y)] := by
  have r := heap_alloc_new w (.cells #[.int .i64 (x : Int), .int .i64 (y : Int)] 72)
  refine .inr ⟨w.heap.size, 1, rfl, Nat.le_refl _, by rw [maxLen]; omega, rfl, fun j v hv => ?_, there_of_row r 0 2 (by simp), lt_of_heap r⟩
  rw [cell_of_row _ _ _ _ _ _ r, Nat.zero_add]
  simpa [prs] using hv
theorem othF_le : ∀ (f b m : Nat) (l : List Nat), 1 ≤ m → m ≤ 1099511627776 → (Tree.othF f b m l).length ≤ m
  | 0, b, m, l, _, _ => by simp [Tree.othF]
  | f + 1, b, m, l, h1, h2 => by
    rw [Tree.othF]
    split
    · simp; omega
    · split
      · simp
      · have s1 := Tree.sp_lt (n := m) (by omega)
        have s2 := Tree.sp_pos (n := m) (by omega)
        rw [List.length_append]
        have := othF_le f b (Tree.sp m) l (by omega) (by omega)
        have := othF_le f (b + Tree.sp m) (m - Tree.sp m) l (by omega) (by omega)
        omega
set_option maxRecDepth 100000 in
set_option maxHeartbeats 8000000 in
/-- the document's told subtrees -/
theorem rtold_any : ∀ (f b m : Nat) (l : List Nat) (a : Option Addr) (ca : Nat) (w : World), 1 ≤ m → m ≤ f → b + m ≤ 1099511627776 → l.length ≤ 256 → AtI w a (ix l) →
    Calls Tryz.prog 26 #[.slice a l.length ca, .int .i64 (b : Int), .int .i64 ((b + m : Nat) : Int)] w fun r w' => Below w.heap.size w w' ∧ ∃ v, r = .returned v ∧ OwnP w' v (Tree.othF f b m l) ∧ (∀ k, v.ownBlock = some k → w.heap.size ≤ k) := by
  intro f
  induction f with
  | zero => intro b m l a ca w h1 h2; omega
  | succ f ih =>
    intro b m l a ca w h1 h2 h3 hl hA
    have i1 := within12_any l b (b + m) hl a ca w hA
    cases ht : Tree.tch l b (b + m) with
    | false =>
      rw [Tree.wit_nil ht] at i1
      rw [Tree.othF_no ht]
      generalize b + m = e at *
      clear hA ih ht
      go_enter Tryz.func26, Tryz.ntmps26
      go_wp2_with (go_at_call 51; refine i1.mono ?_; rintro r w1 ⟨v1, rfl, o1, b1⟩; obtain ⟨a1, c1, hv1, _, _, _⟩ := Own.atI o1; subst hv1; have B1 := hid b1; clear o1 b1; simp only [show (ix []).length = 0 from rfl])
      go_ret
      exact ⟨B1.out.alloc B1.out.size _, _, rfl, own_one12 w1 b e, fun k hk => by cases hk; exact B1.out.size⟩
    | true =>
      have hwl : (Tree.wit l b (b + m)).length ≤ 256 := Nat.le_trans (List.length_filter_le _ _) hl
      have hwn := Tree.wit_ne ht
      by_cases hm : m < 2
      · obtain rfl : m = 1 := by omega
        rw [Tree.othF_one ht (by omega)]
        have hz : (((Tree.wit l b (b + 1)).length : Int) == 0) = false := by simpa using hwn
        have hix : (ix (Tree.wit l b (b + 1))).length = (Tree.wit l b (b + 1)).length := by simp [ix]
        have hsb : ((b + 1 : Nat) : Int) - (b : Int) = 1 := by omega
        have hsw : IntKind.i64.wrap (((b + 1 : Nat) : Int) - (b : Int)) = 1 := by rw [hsb, IntKind.wrap_i64]; omega
        generalize b + 1 = e at *
        generalize (Tree.wit l b e).length = q at *
        clear hA ih ht
        go_enter Tryz.func26, Tryz.ntmps26
        go_wp2_with (go_at_call 51; refine i1.mono ?_; rintro r w1 ⟨v1, rfl, o1, b1⟩; obtain ⟨a1, c1, hv1, _, _, _⟩ := Own.atI o1; subst hv1; rw [hix]; have B1 := hid b1; clear o1 b1)
        go_ret
        exact ⟨B1.out, _, rfl, OwnM.nil _ _, fun k hk => by cases hk⟩
      · have s1 := Tree.sp_lt (n := m) (by omega)
        have s2 := Tree.sp_pos (n := m) (by omega)
        have hz : (((Tree.wit l b (b + m)).length : Int) == 0) = false := by simpa using hwn
        have hix : (ix (Tree.wit l b (b + m))).length = (Tree.wit l b (b + m)).length := by simp [ix]
        have hsb : IntKind.i64.wrap (((b + m : Nat) : Int) - (b : Int)) = (m : Int) := by rw [IntKind.wrap_i64]; omega
        have hsb' : ((b + m : Nat) : Int) - (b : Int) = (m : Int) := by omega
        have hm1 : ((m : Int) == 1) = false := by simp; omega
        have iS := fun w' => rsplit_any (m : Int) (by omega) (by omega) w'
        rw [show spI (m : Int) = ((Tree.sp m : Nat) : Int) from rfl] at iS
        have e1 := oth_wit (l := l) (B := b) (E := b + m) f b (Tree.sp m) (Nat.le_refl _) (by omega)
        have e2 := oth_wit (l := l) (B := b) (E := b + m) f (b + Tree.sp m) (m - Tree.sp m) (by omega) (by omega)
        have c1 := fun (a' : Option Addr) (c' : Nat) w' (h : AtI w' a' (ix (Tree.wit l b (b + m)))) => ih b (Tree.sp m) (Tree.wit l b (b + m)) a' c' w' (by omega) (by omega) (by omega) hwl h
        have c2 := fun (a' : Option Addr) (c' : Nat) w' (h : AtI w' a' (ix (Tree.wit l b (b + m)))) => ih (b + Tree.sp m) (m - Tree.sp m) (Tree.wit l b (b + m)) a' c' w' (by omega) (by omega) (by omega) hwl h
        rw [show b + Tree.sp m + (m - Tree.sp m) = b + m by omega] at c2
        rw [e1] at c1
        rw [e2] at c2
        rw [Tree.othF_two ht (by omega)]
        have hl1 : (Tree.othF f b (Tree.sp m) l).length ≤ 1099511627776 := Nat.le_trans (othF_le f b (Tree.sp m) l (by omega) (by omega)) (by omega)
        have hl2 : (Tree.othF f (b + Tree.sp m) (m - Tree.sp m) l).length ≤ 1099511627776 := Nat.le_trans (othF_le f (b + Tree.sp m) (m - Tree.sp m) l (by omega) (by omega)) (by omega)
        have hkw : IntKind.i64.wrap ((b : Int) + ((Tree.sp m : Nat) : Int)) = ((b + Tree.sp m : Nat) : Int) := by rw [IntKind.wrap_i64]; omega
        generalize Tree.othF f b (Tree.sp m) l = X at *
        generalize Tree.othF f (b + Tree.sp m) (m - Tree.sp m) l = Y at *
        generalize hS : b + Tree.sp m = kk at *
        generalize Tree.sp m = sm at *
        obtain ⟨e, he⟩ : ∃ e, b + m = e := ⟨_, rfl⟩
        rw [he] at i1 c1 c2 hz hix hsb hsb' ⊢
        generalize Tree.wit l b e = I at *
        have hkk : (b : Int) + (sm : Int) = (kk : Int) := by omega
        clear hA ih ht e1 e2 he hS hwn
        go_enter Tryz.func26, Tryz.ntmps26
        go_wp2_with (go_at_call 51; refine i1.mono ?_; rintro r w1 ⟨v1, rfl, o1, b1⟩; obtain ⟨a1, ca1, hv1, hat1, _, _⟩ := Own.atI o1; subst hv1; rw [hix]; have B1 := hid b1; have A1 := hid hat1; clear o1 b1 hat1)
        go_wp2_with (first
          | (go_at_call 52; refine (iS _).mono ?_; rintro r w2 ⟨rfl, h0⟩; have h0 := h0.symm; subst h0)
          | (go_at_call 26; fail))
        with_reducible refine (c1 a1 ca1 w1 A1.out).mono ?_
        rintro r w3 ⟨b3, v3, rfl, o3, f3⟩
        have B3 := hid (B1.out.trans (b3.mono B1.out.size))
        have A3 := hid (A1.out.below b3 (Nat.le_refl _))
        have O3 := hid o3
        have F3 := hid f3
        have Z1 := hid B1.out.size
        clear A1 b3 o3 f3 B1
        go_wp2_with (go_at_call 26; fail)
        with_reducible refine (c2 a1 ca1 w3 A3.out).mono ?_
        rintro r w4 ⟨b4, v4, rfl, o4, f4⟩
        obtain ⟨v5, w5, hap, O5, G5⟩ := append_spl12 w4 v3 v4 X Y (O3.out.below b4) o4 hl1 hl2
        have B4 := B3.out.trans (b4.mono B3.out.size)
        have B5 : Hid (Below w.heap.size w w5) := B4.trans ⟨G5.os, G5.tape, G5.output, G5.size, fun k hk => G5.old k (Nat.lt_of_lt_of_le hk B4.size) (fun e => by have := F3.out k e; have := Z1.out; omega)⟩
        have HO5 := hid O5
        have F5 : Hid (∀ k, v5.ownBlock = some k → w.heap.size ≤ k) := fun k hk => by
          rcases G5.alt with h | ⟨h, _⟩
          · rw [h] at hk
            have := F3.out k hk
            have := Z1.out
            omega
          · have := h k hk
            have := B4.size
            omega
        clear b4 o4 f4 O5 G5 B4 O3 F3
        go_wp2_with (at_builtin; go_must (refine Lib.wpList_append_run _ rfl _ _ 55 55 rfl _ _ rfl rfl _ _ hap ?_))
        go_ret
        exact ⟨B5.out, _, rfl, HO5.out, F5.out⟩
end Bat
end Go.Proofs.YtmpaliocfikifaaGreatDoor
