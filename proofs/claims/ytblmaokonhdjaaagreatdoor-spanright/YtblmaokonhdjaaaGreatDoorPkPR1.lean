import Derived.Test.YtblmaokonhdjaaaGreatDoorPkPP1
import Derived.Test.YtblmaokonhdjaaaGreatDoorPkO28
/- Layer 14, the document: run, hashes, Told -/
namespace Go.Proofs.YtblmaokonhdjaaaGreatDoor
open Go.RowKit Go.Shelf
namespace Spn
set_option maxRecDepth 100000 in
set_option maxHeartbeats 2000000 in
theorem rrun14_is (n x y : Int) (q : Bool) (hq : runB n x y = q) (w : World) : Calls Tryz.prog 60 #[.int .i64 n, sg x y] w fun r w' => r = .returned (.bool q) ∧ Below w.heap.size w w' := by
  have S0 := SpI.new w x y
  have hb := hid ((Below.refl _ w).alloc (Nat.le_refl _) (.cells #[.int .i64 x, .int .i64 y] 50))
  have c0 := S0.c0
  have c1 := S0.c1
  clear S0
  by_cases h1 : 0 ≤ x
  · by_cases h2 : x < y
    · by_cases h3 : y ≤ n
      · have er := hid (show q = true by rw [← hq]; simp [runB, h1, h2, h3])
        clear hq
        go_enter Tryz.func60, Tryz.ntmps60
        go_wp2
        go_ret
        exact ⟨by rw [er.out]; rfl, hb.out⟩
      · have er := hid (show q = false by rw [← hq]; simp [runB, h3])
        clear hq
        go_enter Tryz.func60, Tryz.ntmps60
        go_wp2
        go_ret
        exact ⟨by rw [er.out]; rfl, hb.out⟩
    · have er := hid (show q = false by rw [← hq]; simp [runB, h2])
      clear hq
      go_enter Tryz.func60, Tryz.ntmps60
      go_wp2
      go_ret
      exact ⟨by rw [er.out]; rfl, hb.out⟩
  · have er := hid (show q = false by rw [← hq]; simp [runB, h1])
    clear hq
    go_enter Tryz.func60, Tryz.ntmps60
    go_wp2
    go_ret
    exact ⟨by rw [er.out]; rfl, hb.out⟩
set_option maxRecDepth 100000 in
set_option maxHeartbeats 2000000 in
theorem rhashes14_is (l : List (List UInt8)) (q : Bool) (hq : hsB8 l = q) (a : Option Addr) (cap : Nat) (w : World) (hc : l.length ≤ 9223372036854775807) (hA : At w a l) :
    Calls Tryz.prog 61 #[.slice a l.length cap] w fun r w' => r = .returned (.bool q) ∧ w' = w := by
  have HQ := hid hq
  generalize hn : l.length = k at *
  have HA := hid hA
  clear hA hq
  go_enter Tryz.func61, Tryz.ntmps61
  go_wp2
  go_loopw [3] (fun i w' => ∃ j : Nat, j ≤ k ∧ i = .int .i64 (j : Int) ∧ Hid ((l.take j).all (·.length == 32) = true) ∧ w' = w) (fun i _ => k - (intOf i).toNat)
  case atStart => exact ⟨0, by omega, rfl, rfl, rfl⟩
  case round =>
    obtain ⟨j, hj, rfl, hall, rfl⟩ := hrel
    by_cases hjk : j < k
    · have b0 : (j : Int) < (k : Int) := by omega
      obtain ⟨y, rfl⟩ := HA.out.pos (by omega)
      obtain ⟨s, hs, hcell⟩ := HA.out.cell j (by omega)
      by_cases h32 : s.size = 32
      · have b1 : ((s.size : Int) != 32) = false := by simp; omega
        have e2 := hid (all_take l j (by omega) hall.out (by rw [← hs.out, data_length]; exact h32))
        clear HA hall hs
        go_wp2
        exact ⟨⟨j + 1, by omega, by go_num, e2, trivial⟩, by simp [intOf]; omega⟩
      · have b1 : ((s.size : Int) != 32) = true := by simp; omega
        have e2 := all_not l j (by omega) (by rw [← hs.out, data_length]; exact h32)
        have e3 := hid (show q = false by rw [← HQ.out]; exact e2)
        clear HA hall hs e2
        go_wp2
        go_ret
        exact ⟨by rw [e3.out]; rfl, rfl⟩
    · obtain rfl : j = k := by omega
      have b0 : ¬ (j : Int) < (j : Int) := by omega
      rw [← hn, List.take_length] at hall
      have e3 := hid (show q = true by rw [← HQ.out]; exact hall.out)
      clear HA hall
      go_wp2
      go_ret
      exact ⟨by rw [e3.out]; rfl, rfl⟩
theorem own_one14 (w : World) (x y : Nat) : OwnP (w.alloc (.cells #[.int .i64 (x : Int), .int .i64 (y : Int)] 50)) (.slice (some ⟨w.heap.size, 0, none⟩) 1 1) [(x, y)] := by
  have r := heap_alloc_new w (.cells #[.int .i64 (x : Int), .int .i64 (y : Int)] 50)
  refine .inr ⟨w.heap.size, 1, rfl, Nat.le_refl _, by rw [maxLen]; omega, rfl, fun j v hv => ?_, there_of_row r 0 2 (by simp), lt_of_heap r⟩
  rw [cell_of_row _ _ _ _ _ _ r, Nat.zero_add]
  simpa [prs] using hv
set_option maxRecDepth 100000 in
set_option maxHeartbeats 4000000 in
/-- the document's told subtrees -/
theorem rtold14_any (x y : Nat) (hxy : x < y) (hy : y ≤ 1099511627776) : ∀ (f b n : Nat), n ≤ f → 1 ≤ n → b + n ≤ 1099511627776 → ∀ (w : World),
    Calls Tryz.prog 34 #[sg (x : Int) (y : Int), .int .i64 (b : Int), .int .i64 ((b + n : Nat) : Int)] w fun r w' => ∃ v, r = .returned v ∧ OwnP w' v (Tree.runF f b n x y) ∧ (∀ k, v.ownBlock = some k → w.heap.size ≤ k) ∧ Below w.heap.size w w'
  | 0, b, n, h, h1, _ => by omega
  | f + 1, b, n, h, h1, h2 => by
    intro w
    obtain ⟨e, he⟩ : ∃ e, b + n = e := ⟨_, rfl⟩
    rw [he]
    have S0 := SpI.new w (x : Int) (y : Int)
    have B0 := hid ((Below.refl _ w).alloc (Nat.le_refl _) (.cells #[.int .i64 (x : Int), .int .i64 (y : Int)] 50))
    have c0 := S0.c0
    have c1 := S0.c1
    have HS := hid S0
    clear S0
    by_cases hd : e ≤ x ∨ y ≤ b
    · have HR : Hid (Tree.runF (f + 1) b n x y = [(b, e)]) := by unfold Hid; rw [Tree.runF, he, if_pos hd]
      have OW := hid (own_one14 (w.alloc (.cells #[.int .i64 (x : Int), .int .i64 (y : Int)] 50)) b e)
      unfold Hid at OW
      rw [size_alloc] at OW
      have OW := hid OW
      by_cases hd1 : y ≤ b
      · have t1 : (y : Int) ≤ (b : Int) := by omega
        go_enter Tryz.func34, Tryz.ntmps34
        go_wp2
        go_ret
        exact ⟨_, rfl, by rw [HR.out]; exact OW.out, (fun k hk => by cases hk; exact Nat.le_succ _), B0.out.alloc B0.out.size _⟩
      · have t1 : ¬ (y : Int) ≤ (b : Int) := by omega
        have t2 : (e : Int) ≤ (x : Int) := by omega
        go_enter Tryz.func34, Tryz.ntmps34
        go_wp2
        go_ret
        exact ⟨_, rfl, by rw [HR.out]; exact OW.out, (fun k hk => by cases hk; exact Nat.le_succ _), B0.out.alloc B0.out.size _⟩
    · have t1 : ¬ (e : Int) ≤ (x : Int) := by omega
      have t2 : ¬ (y : Int) ≤ (b : Int) := by omega
      by_cases hi : x ≤ b ∧ e ≤ y
      · have HR : Hid (Tree.runF (f + 1) b n x y = []) := by unfold Hid; rw [Tree.runF, he, if_neg hd, if_pos hi]
        have t3 : (x : Int) ≤ (b : Int) := by omega
        have t4 : (e : Int) ≤ (y : Int) := by omega
        go_enter Tryz.func34, Tryz.ntmps34
        go_wp2
        go_ret
        exact ⟨_, rfl, by rw [HR.out]; exact OwnM.nil 2 _, (fun k hk => by cases hk), B0.out⟩
      · have hn2 : 2 ≤ n := by omega
        have s1 := Tree.sp_lt hn2
        have s2 := Tree.sp_pos hn2
        have HR : Hid (Tree.runF (f + 1) b n x y = Tree.runF f b (Tree.sp n) x y ++ Tree.runF f (b + Tree.sp n) (n - Tree.sp n) x y) := by unfold Hid; rw [Tree.runF, he, if_neg hd, if_neg hi]
        have ih1 := rtold14_any x y hxy hy f b (Tree.sp n) (by omega) s2 (by omega)
        have ih2 := rtold14_any x y hxy hy f (b + Tree.sp n) (n - Tree.sp n) (by omega) (by omega) (by omega)
        have hl1 : (Tree.runF f b (Tree.sp n) x y).length ≤ 1099511627776 := Nat.le_trans (run_len (x := x) (y := y) 40 f b (Tree.sp n) s2 (by omega) (by omega)) (by omega)
        have hl2 : (Tree.runF f (b + Tree.sp n) (n - Tree.sp n) x y).length ≤ 1099511627776 := Nat.le_trans (run_len (x := x) (y := y) 40 f (b + Tree.sp n) (n - Tree.sp n) (by omega) (by omega) (by omega)) (by omega)
        have iS := fun w' => rsplit_any (n : Int) (by omega) (by omega) w'
        rw [show spI (n : Int) = ((Tree.sp n : Nat) : Int) from rfl] at iS
        rw [show b + Tree.sp n + (n - Tree.sp n) = e by omega] at ih2
        obtain ⟨mid, hmid⟩ : ∃ mid, b + Tree.sp n = mid := ⟨_, rfl⟩
        rw [hmid] at ih1 ih2 HR hl2
        have hsb : IntKind.i64.wrap ((e : Int) - (b : Int)) = (n : Int) := by rw [IntKind.wrap_i64]; omega
        have hsb' : (e : Int) - (b : Int) = (n : Int) := by omega
        have hwn : IntKind.i64.wrap (n : Int) = (n : Int) := by rw [IntKind.wrap_i64]; omega
        have hn40 : n ≤ 1099511627776 := by omega
        have hm40 : mid ≤ 1099511627776 := by omega
        have hwm : IntKind.i64.wrap (mid : Int) = (mid : Int) := by rw [IntKind.wrap_i64]; omega
        have hkw : IntKind.i64.wrap ((b : Int) + ((Tree.sp n : Nat) : Int)) = (mid : Int) := by rw [IntKind.wrap_i64]; omega
        have hkk : (b : Int) + ((Tree.sp n : Nat) : Int) = (mid : Int) := by omega
        have hpick : Hid (¬ ((x : Int) ≤ (b : Int) ∧ (e : Int) ≤ (y : Int))) := by rw [Hid]; omega
        generalize Tree.runF f b (Tree.sp n) x y = LA at *
        generalize Tree.runF f mid (n - Tree.sp n) x y = LB at *
        generalize Tree.sp n = sm at *
        clear h h1 h2 he s1 s2 hmid hd hi hxy hy hn2
        go_enter Tryz.func34, Tryz.ntmps34
        by_cases t3 : (x : Int) ≤ (b : Int)
        case' pos => have t4 : ¬ (e : Int) ≤ (y : Int) := by have := hpick.out; omega
        all_goals
          go_wp2_with (first
            | (go_at_call 63; (with_reducible refine (iS _).mono ?_); rintro r w2 ⟨rfl, h0⟩; have h0 := h0.symm; subst h0)
            | (go_at_call 34; fail))
          with_reducible refine (ih1 _).mono ?_
          rintro r w3 ⟨v3, rfl, o3, f3, b3⟩
          have B3 := hid (B0.out.trans (b3.mono B0.out.size))
          have O3 := hid o3
          have F3 : Hid (∀ k, v3.ownBlock = some k → w.heap.size ≤ k) := fun k hk => Nat.le_trans B0.out.size (f3 k hk)
          have S3 := HS.out.below b3
          have d0 := S3.c0
          have d1 := S3.c1
          clear b3 o3 f3 S3
          go_wp2_with (go_at_call 34; fail)
          with_reducible refine (ih2 _).mono ?_
          rintro r w4 ⟨v4, rfl, o4, f4, b4⟩
          obtain ⟨v5, w5, hap, O5, G5⟩ := append_spl14 w4 v3 v4 LA LB (O3.out.below b4) o4 hl1 hl2
          have B4 := B3.out.trans (b4.mono B3.out.size)
          obtain ⟨f5, b5⟩ := grow_fresh G5 B4.size F3.out
          have B5 := hid (B4.trans b5)
          have HO5 := hid O5
          have F5 := hid f5
          clear b4 o4 f4 O5 G5 B4 O3 F3 f5 b5
          go_wp2_with (at_builtin; go_must (refine Lib.wpList_append_run _ rfl _ _ 75 75 rfl _ _ rfl rfl _ _ hap ?_))
          go_ret
          exact ⟨_, rfl, by rw [HR.out]; exact HO5.out, F5.out, B5.out⟩
end Spn
end Go.Proofs.YtblmaokonhdjaaaGreatDoor

namespace Go.Proofs.YtblmaokonhdjaaaGreatDoor.Tree
/-- which are wanted, of k from b on -/
def wi (wt : List Bool) (b k : Nat) : List Nat := (List.range' b k).filter (fun j => wt.getD j false)
theorem wi_zero (wt : List Bool) (b : Nat) : wi wt b 0 = [] := rfl
theorem wi_add (wt : List Bool) (b k j : Nat) : wi wt b (k + j) = wi wt b k ++ wi wt (b + k) j := by
  rw [wi, wi, wi, ← List.filter_append, ← List.range'_append_1]
theorem wi_succ (wt : List Bool) (b k : Nat) : wi wt b (k + 1) = wi wt b k ++ (if wt.getD (b + k) false then [b + k] else []) := by
  rw [wi_add, wi, wi]
  congr 1
  rw [show List.range' (b + k) 1 = [b + k] from rfl]
  by_cases h : wt.getD (b + k) false = true
  · rw [if_pos h]; simp only [List.filter, h]
  · rw [if_neg h]; simp only [List.filter, h]
theorem wi_mem {wt : List Bool} {b k i : Nat} (h : i ∈ wi wt b k) : b ≤ i ∧ i < b + k := by
  have := (List.mem_filter.1 h).1
  rw [List.mem_range'_1] at this
  exact this
theorem wi_left (wt : List Bool) (b k j : Nat) : (wi wt b (k + j)).filter (· < b + k) = wi wt b k := by
  rw [wi_add, List.filter_append, List.filter_eq_self.2 (fun x hx => by have := wi_mem hx; simp; omega), List.filter_eq_nil_iff.2 (fun x hx => by have := wi_mem hx; simp; omega), List.append_nil]
theorem wi_right (wt : List Bool) (b k j : Nat) : (wi wt b (k + j)).filter (b + k ≤ ·) = wi wt (b + k) j := by
  rw [wi_add, List.filter_append, List.filter_eq_nil_iff.2 (fun x hx => by have := wi_mem hx; simp; omega), List.filter_eq_self.2 (fun x hx => by have := wi_mem hx; simp; omega), List.nil_append]
theorem wi_sorted (wt : List Bool) (b k : Nat) : (wi wt b k).Pairwise (· < ·) := List.Pairwise.filter _ List.pairwise_lt_range'
theorem wi_length (wt : List Bool) (b k : Nat) : (wi wt b k).length ≤ k := by
  have := List.length_filter_le (fun j => wt.getD j false) (List.range' b k)
  rw [List.length_range'] at this
  exact this
/-- a proof of many has at most n less as many -/
theorem wi_many : ∀ (f : Nat) (wt : List Bool) (b : Nat) (l : List T), l.length ≤ f → 1 ≤ l.length → (many (wi wt b l.length) b l).length + (wi wt b l.length).length ≤ l.length
  | 0, wt, b, l, h, h1 => by omega
  | f + 1, wt, b, l, h, h1 => by
    by_cases hi : wi wt b l.length = []
    · rw [hi, many_none h1]; simpa using h1
    · by_cases h2 : l.length = 1
      · have := wi_length wt b l.length
        rw [many_one hi h2]; simpa using this
      · have x := sp_lt (n := l.length) (by omega)
        have y := sp_pos (n := l.length) (by omega)
        have e : l.length = sp l.length + (l.length - sp l.length) := by omega
        have l1 : (l.take (sp l.length)).length = sp l.length := by simp; omega
        have l2 : (l.drop (sp l.length)).length = l.length - sp l.length := by simp
        have ih1 := wi_many f wt b (l.take (sp l.length)) (by omega) (by omega)
        have ih2 := wi_many f wt (b + sp l.length) (l.drop (sp l.length)) (by omega) (by omega)
        rw [l1] at ih1
        rw [l2] at ih2
        have hw : (wi wt b l.length).length = (wi wt b (sp l.length)).length + (wi wt (b + sp l.length) (l.length - sp l.length)).length := by
          conv => lhs; rw [e]
          rw [wi_add, List.length_append]
        have hl := wi_left wt b (sp l.length) (l.length - sp l.length)
        have hr := wi_right wt b (sp l.length) (l.length - sp l.length)
        rw [← e] at hl hr
        rw [many_cut hi (by omega), hl, hr, List.length_append]
        omega
end Go.Proofs.YtblmaokonhdjaaaGreatDoor.Tree
namespace Go.Proofs.YtblmaokonhdjaaaGreatDoor
open Go.RowKit
theorem At.split {w : World} {x : Addr} {l r : List (List UInt8)} (h : At w (some x) (l ++ r)) : At w (some (x.add l.length)) r := by
  have := h.drop l.length
  rwa [List.drop_left] at this
/-- what is told: a root, and what is left of the proof -/
def OutT (w : World) (r : List UInt8) (R : List (List UInt8)) (e : Ending) (w' : World) : Prop :=
  ∃ a' c', e = .returned (.tuple #[sv r, .slice a' R.length c', .bool true]) ∧ At w' a' R ∧ R.length ≤ c' ∧ c' ≤ 9223372036854775807 ∧ Below w.heap.size w w'
end Go.Proofs.YtblmaokonhdjaaaGreatDoor

namespace Go.Proofs.YtblmaokonhdjaaaGreatDoor
open Go.RowKit
theorem infoBl : (Tryz.prog.info? 3).map (fun i => (i.zero, i.size, i.bytes)) = some (some (.int .i64 0), 1, 8) := by kernel_rfl
def ivs (L : List Int) : List Value := L.map (.int .i64)
theorem ivs_length (L : List Int) : (ivs L).length = L.length := by simp [ivs]
/-- append(l, i) -/
theorem append_int (w : World) (base : Nat) (v : Value) (L : List Int) (p : Int) (hown : Own w base v (ivs L)) (hlen : L.length ≤ 2000000) (hbase : base ≤ w.heap.size) :
    ∃ v' w', (Builtin.append_ #[32, 32] 32 #[v, .slice (some ⟨w.heap.size, 0, none⟩) 1 1]).run Tryz.prog (w.alloc (.cells #[.int .i64 p] 3)) = .ok v' w' ∧ Own w' base v' (ivs (L ++ [p])) ∧ Below base w w' := by
  obtain ⟨i0, hi, hz0, hz1, hz2⟩ := info_parts infoBl
  have hsrc : Src Tryz.prog 1 32 (.slice (some ⟨w.heap.size, 0, none⟩) 1 1) 1 [.int .i64 p] (w.alloc (.cells #[.int .i64 p] 3)) :=
    Src.ofSlice _ Tryz.underlying32 ⟨w.heap.size, 0, none⟩ 1 1 [.int .i64 p] (by simp) (fun j u hj => by
      rw [Addr.add_mid, cell_of_row _ _ _ _ _ _ (heap_alloc_new w _), Nat.zero_add]; simpa using hj) (fun u hu => by simp at hu; subst hu; rfl)
  obtain ⟨v', w', h1, h2, h3, h4⟩ := run_append_O (P := Tryz.prog) (w.alloc (.cells #[.int .i64 p] 3)) base 32 32 32 3 i0 (.int .i64 0) Tryz.underlying32 hi hz0 hz1 rfl v (ivs L) (hown.alloc _) _ 1 [.int .i64 p] hsrc
    (by rw [ivs_length, hz2]; omega) (by rw [ivs_length, maxLen]; omega) (by rw [size_alloc]; omega) (fun _ => by omega)
  refine ⟨v', w', h1, by simpa [ivs] using h2, ?_⟩
  exact ((Below.refl base w).alloc hbase _).trans (Below.ofGrown h3 hown.ge (by rw [size_alloc]; omega))
theorem Own.atI {w : World} {base : Nat} {v : Value} {L : List Int} (h : Own w base v (ivs L)) : ∃ a cap, v = .slice a L.length cap ∧ AtI w a L ∧ L.length ≤ cap ∧ cap ≤ 9223372036854775807 := by
  rcases h with ⟨rfl, h⟩ | ⟨g, cap, rfl, h1, h2, h3, h4, h5, h6⟩
  · obtain rfl : L = [] := by simpa [ivs] using h
    exact ⟨none, 0, rfl, AtI.nil _ _, by simp, by omega⟩
  · rw [ivs_length] at h2
    refine ⟨some ⟨g, 0, none⟩, cap, by rw [ivs_length], fun j p hp => ⟨_, rfl, h6, ?_⟩, h2, h3⟩
    rw [Addr.add_mid]
    exact h4 j (.int .i64 p) (by simp [ivs, hp])
/-- a row of yes and no -/
def RowB (w : World) (H : Nat) (L : List Bool) : Prop := w.heap[H]? = some (.cells (bls L).toArray 4 (0, 0))
theorem RowB.lt {w : World} {H : Nat} {L : List Bool} (h : RowB w H L) : H < w.heap.size := lt_of_heap h
theorem RowB.cell {w : World} {H : Nat} {L : List Bool} (h : RowB w H L) {j : Nat} {p : Bool} (hp : L[j]? = some p) : w.cell? ⟨H, j, none⟩ = some (.bool p) := by
  rw [cell_of_row _ _ _ _ _ _ h]; simp [bls, hp]
theorem RowB.at {w : World} {H : Nat} {L : List Bool} (h : RowB w H L) : AtB w (some ⟨H, 0, none⟩) L := fun j p hp => ⟨_, rfl, h.lt, by rw [Addr.add_mid, Nat.zero_add]; exact h.cell hp⟩
theorem RowB.free {w : World} {H : Nat} {L : List Bool} (h : RowB w H L) {j : Nat} (hj : j < L.length) : w.frozen? ⟨H, j, none⟩ = false := by
  have := (there_of_row h 0 L.length (by simp [bls])) j hj
  rw [Nat.zero_add] at this
  exact this.2
theorem RowB.below {w w' : World} {H B : Nat} {L : List Bool} (h : RowB w H L) (hb : Below B w w') (hB : H < B) : RowB w' H L := by
  unfold RowB; rw [hb.block H hB]; exact h
theorem RowB.set {w : World} {H : Nat} {L : List Bool} (h : RowB w H L) (k : Nat) (x : Bool) : RowB (w.setCell ⟨H, k, none⟩ (.bool x)) H (L.set k x) := by
  have e := setCell_eq_setRow w H k (bls L).toArray 4 (0, 0) (.bool x) h
  unfold RowB
  rw [e, setRow_heap _ _ _ _ _ _ h]
  refine congrArg (fun A => some (Obj.cells A 4 (0, 0))) ?_
  simp [bls, List.map_set]
/-- make([]bool, c) -/
theorem make_bools3 (w : World) (c : Nat) (hc : c ≤ 20000000) :
    (Instr.makeSlice 134 (.int .i64 (c : Int)) (.int .i64 (c : Int))).run Tryz.prog w = .ok (.slice (some ⟨w.heap.size, 0, none⟩) c c) (w.alloc (.cells (bls (List.replicate c false)).toArray 4)) := by
  obtain ⟨i0, hi, hz0, hz1, hz2⟩ := info_parts infoB
  have h := run_make (P := Tryz.prog) w 134 4 i0 (.bool false) Tryz.underlying134 hi hz0 .i64 .i64 (c : Int) (c : Int) (by omega) (by omega) (by rw [hz2]; omega) (by omega)
  rw [Int.toNat_natCast, hz1, Nat.mul_one] at h
  have e : madeCells (Value.bool false).cells c = (bls (List.replicate c false)).toArray := by
    apply Array.ext'
    rw [show (madeCells (Value.bool false).cells c).toList = List.replicate c (.bool false) from toList_madeCells_one _ _]
    simp [bls]
  rw [e] at h
  exact h
/-- the wanted, as indices -/
theorem wi_ok (wt : List Bool) (n : Nat) (h : wt.length = n) (h2 : n ≤ 200) (hne : Tree.wi wt 0 n ≠ []) : OkI n (ix (Tree.wi wt 0 n)) := by
  have hs := Tree.wi_sorted wt 0 n
  refine ⟨by rw [ix_len]; exact List.length_pos_iff.2 hne, by rw [ix_len]; have := Tree.wi_length wt 0 n; omega, fun j x hx => ?_, fun j x y hx hy => ?_⟩
  · simp only [ix, List.getElem?_map, Option.map_eq_some_iff] at hx
    obtain ⟨i, hi, rfl⟩ := hx
    have := Tree.wi_mem (List.mem_of_getElem? hi)
    omega
  · simp only [ix, List.getElem?_map, Option.map_eq_some_iff] at hx hy
    obtain ⟨i, hi, rfl⟩ := hx
    obtain ⟨k, hk, rfl⟩ := hy
    have h1 := (List.getElem?_eq_some_iff.1 hi)
    have h2 := (List.getElem?_eq_some_iff.1 hk)
    obtain ⟨a1, rfl⟩ := h1
    obtain ⟨a2, rfl⟩ := h2
    have := List.pairwise_iff_getElem.1 hs j (j + 1) a1 a2 (by omega)
    omega
theorem toN_ix (is : List Nat) : toN (ix is) = is := by
  have e : (Int.toNat ∘ fun (i : Nat) => (i : Int)) = id := by funext i; simp
  rw [toN, ix, List.map_map, e, List.map_id]
end Go.Proofs.YtblmaokonhdjaaaGreatDoor
