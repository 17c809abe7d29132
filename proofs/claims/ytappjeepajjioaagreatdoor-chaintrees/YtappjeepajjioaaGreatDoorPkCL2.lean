import Derived.Test.YtappjeepajjioaaGreatDoorPkI9c
import Derived.Test.YtappjeepajjioaaGreatDoorPkO8
import Derived.Test.YtappjeepajjioaaGreatDoorPkSP28
import Derived.Test.YtappjeepajjioaaGreatDoorPkR4
import Derived.Test.YtappjeepajjioaaGreatDoorPkFN1
import Derived.BigQuiet
import Derived.Deep.RegionHeld3
import Derived.Test.YtappjeepajjioaaGreatDoorPkFR6
import Derived.Test.YtappjeepajjioaaGreatDoorPkSP4
import Derived.Test.YtappjeepajjioaaGreatDoorPkO27
import Derived.Test.YtappjeepajjioaaGreatDoorPkW3
import Derived.Laws.ResultCell
namespace Go.Proofs.YtappjeepajjioaaGreatDoor
open Go.RowKit Go.Shelf
namespace Chn
/-- numbers as cells -/
def ivC (l : List Nat) : List Value := l.map fun (x : Nat) => .int .i64 (x : Int)
theorem ivC_len (l : List Nat) : (ivC l).length = l.length := by simp [ivC]
theorem infoIC : (Tryz.prog.info? 3).map (fun i => (i.zero, i.size, i.bytes)) = some (some (.int .i64 0), 1, 8) := by kernel_rfl
theorem append_intC (w : World) (v : Value) (l : List Nat) (x : Nat) (h : OwnM 1 w v l.length (ivC l)) (hl : l.length ≤ 1000000) :
    ∃ v' w', (Builtin.append_ #[23, 23] 23 #[v, .slice (some ⟨w.heap.size, 0, none⟩) 1 1]).run Tryz.prog (w.alloc (.cells #[.int .i64 (x : Int)] 3)) = .ok v' w' ∧ OwnM 1 w' v' (l ++ [x]).length (ivC (l ++ [x])) ∧ Grow w w' v v' := by
  obtain ⟨v', w', h1, h2, h3⟩ := append_oneL 23 3 (.int .i64 0) 8 Tryz.underlying23 infoIC rfl w v l.length (ivC l) [.int .i64 (x : Int)] rfl (fun u hu => by
    rw [List.mem_singleton] at hu; rw [hu]; rfl) h (by omega) (by rw [maxLen]; omega)
  refine ⟨v', w', h1, ?_, h3⟩
  have e : ivC (l ++ [x]) = ivC l ++ [.int .i64 (x : Int)] := by unfold ivC; rw [List.map_append]; rfl
  rw [e, List.length_append]
  exact h2
theorem OwnM.atIC {w : World} {a : Option Addr} {n c : Nat} {l : List Nat} (h : OwnM 1 w (.slice a n c) n (ivC l)) : AtI w a (ix l) := fun j p hp => by
  unfold ix at hp
  rw [List.getElem?_map] at hp
  cases hj : l[j]? with
  | none => rw [hj] at hp; cases hp
  | some x =>
    rw [hj] at hp
    obtain rfl : (x : Int) = p := Option.some.inj hp
    obtain ⟨g, cap, e, h1, h2⟩ := h.cell (j := j) (u := .int .i64 (x : Int)) (by unfold ivC; rw [List.getElem?_map, hj]; rfl)
    injection e with e
    refine ⟨⟨g, 0, none⟩, e, h2, ?_⟩
    rw [Addr.add_mid, Nat.zero_add]
    exact h1
/-- heads that rise, up to n -/
structure Rsg (n at_ : Nat) (l : List Nat) : Prop where
  up : l.Pairwise (· < ·)
  lo : ∀ x ∈ l, 1 ≤ x ∧ x < at_ ∧ x ≤ n
theorem Rsg.next {n a p : Nat} {l : List Nat} (h : Rsg n a l) (h1 : 1 ≤ a) (hp : a + p ≤ n) : Rsg n (a + p + 1) (l ++ [a + p]) := by
  refine ⟨List.pairwise_append.2 ⟨h.up, List.pairwise_singleton _ _, fun x hx y hy => ?_⟩, fun x hx => ?_⟩
  · rw [List.mem_singleton.1 hy]
    have := h.lo x hx
    omega
  · rcases List.mem_append.1 hx with hx | hx
    · have := h.lo x hx
      omega
    · rw [List.mem_singleton.1 hx]
      omega
theorem Rsg.hds {n a : Nat} {l : List Nat} (h : Rsg n a l) (h1 : 1 ≤ l.length) (h2 : l.length ≤ 64) (hn : n ≤ 1099511627776) : Hds l := by
  refine ⟨h1, h2, fun i x y hx hy => ?_, fun i x hx => ?_⟩
  · have e1 := List.getElem?_eq_some_iff.1 hx
    have e2 := List.getElem?_eq_some_iff.1 hy
    have := List.pairwise_iff_getElem.1 h.up i (i + 1) e1.1 e2.1 (by omega)
    rw [e1.2, e2.2] at this
    exact this
  · have := h.lo x (List.mem_of_getElem? hx)
    omega
/-- what rising answers -/
def RsP (w : World) (n most : Nat) (r : Ending) (w' : World) : Prop := ∃ v hs, r = .returned v ∧ OwnM 1 w' v hs.length (ivC hs) ∧ Hds hs ∧ (∀ x ∈ hs, x ≤ n) ∧ hs.length ≤ most ∧ (∀ k, v.ownBlock = some k → w.heap.size ≤ k) ∧ Below w.heap.size w w'
/-- while heads are made -/
structure Rm (w w' : World) (v : Value) (n a : Nat) (l : List Nat) : Prop where
  own : OwnM 1 w' v l.length (ivC l)
  rs : Rsg n a l
  ge : ∀ k, v.ownBlock = some k → w.heap.size ≤ k
  bel : Below w.heap.size w w'
theorem Rm.push {w w' w2 : World} {v v' : Value} {n a p : Nat} {l : List Nat} (h : Rm w w' v n a l) (h1 : 1 ≤ a) (hp : a + p ≤ n) (ho : OwnM 1 w2 v' (l ++ [a + p]).length (ivC (l ++ [a + p]))) (g : Grow w' w2 v v') : Rm w w2 v' n (a + p + 1) (l ++ [a + p]) :=
  ⟨ho, h.rs.next h1 hp, fun k hk => by
    have := h.bel.size
    rcases Grow.alt' g k hk with e | e
    · exact h.ge k e
    · omega, h.bel.trans (keep_belowC g.keep h.bel.size h.ge)⟩
set_option maxRecDepth 100000 in
set_option maxHeartbeats 2000000 in
theorem rising13_any (L : List Int) (n most : Nat) (hn : 1 ≤ n) (hn2 : n ≤ 1099511627776) (hm : 1 ≤ most) (hm2 : most ≤ 64) (N : Nat) (hN : Hid (L.length = N)) (lN : N ≤ 9223372036854775807) (a : Option Addr) (cap : Nat) (w : World) (hA : AtI w a L) (hr : ∀ c ∈ L, -9223372036854775808 ≤ c ∧ c ≤ 9223372036854775807) :
    Calls Tryz.prog 10 #[.slice a N cap, .int .i64 (n : Int), .int .i64 (most : Int)] w (RsP w n most) := by
  have HA := hid hA
  have HR := hid hr
  clear hA hr
  go_enter Tryz.func10, Tryz.ntmps10
  go_wp2
  go_loopw [7, 8, 9, 10] (fun v p i _ w' => ∃ (k at_ : Nat) (l : List Nat), k ≤ N ∧ 1 ≤ at_ ∧ at_ ≤ n + 1 ∧ l.length ≤ most ∧ (k = 0 ∨ 1 ≤ l.length) ∧ (l.length = 0 → at_ = 1) ∧ p = .int .i64 (at_ : Int) ∧ i = .int .i64 (k : Int) ∧ Hid (Rm w w' v n at_ l)) (fun _ _ i _ _ => N - (intOf i).toNat)
  case atStart => exact ⟨0, 1, [], by omega, by omega, by omega, by simp, .inl rfl, fun _ => rfl, rfl, rfl, ⟨OwnM.nil 1 _, ⟨List.Pairwise.nil, (fun x h => by cases h)⟩, (fun k hk => by cases hk), Below.refl _ _⟩⟩
  case round =>
    obtain ⟨k, p, l, hk, hp1, hp2, hl, hk0, hl0, rfl, rfl, hM⟩ := hrel
    obtain ⟨va, vc, hva, _, _⟩ := hM.out.own.shape
    obtain ⟨q, hq⟩ : ∃ q, l.length = q := ⟨_, rfl⟩
    have HQ := hid hq
    rw [hq] at hva hl hk0 hl0
    subst hva
    have e2 : (q : Int) ≤ (most : Int) := by omega
    by_cases c1 : k < N
    · have d1 : (k : Int) < (N : Int) := by omega
      by_cases c2 : q < most
      · have d2 : (q : Int) < (most : Int) := by omega
        by_cases c3 : p ≤ n
        · have d3 : (p : Int) ≤ (n : Int) := by omega
          have w1 : IntKind.i64.wrap ((n : Int) - (p : Int)) = (n : Int) - (p : Int) := by rw [IntKind.wrap_i64]; omega
          have w2 : IntKind.i64.wrap ((n : Int) - (p : Int) + 1) = (n : Int) - (p : Int) + 1 := by rw [IntKind.wrap_i64]; omega
          have hkL : k < L.length := by rw [hN.out]; exact c1
          obtain ⟨x, rfl, _, hx⟩ := (HA.out.below hM.out.bel (Nat.le_refl _)) k L[k] (List.getElem?_eq_getElem hkL)
          have hb := HR.out L[k] (List.getElem_mem hkL)
          have j0 : (0 : Int) ≤ (k : Int) := by omega
          generalize L[k] = c at *
          have key : ∀ r : Int, 1 ≤ r → r ≤ (n : Int) - (p : Int) + 1 → ∃ P : Nat, pk c r = (P : Int) ∧ p + P ≤ n := fun r h1 h2 => by
            have a1 := pk_nonneg c r (by omega)
            have a2 := pk_lt c r (by omega)
            exact ⟨(pk c r).toNat, by omega, by omega⟩
          by_cases par : k % 2 = 0 ∧ 9 < n - p + 1
          · have m1 : (k : Int) % 2 = 0 := by omega
            have m2 : (9 : Int) < (n : Int) - (p : Int) + 1 := by omega
            have m3 : (k : Int).tmod 2 = 0 := by rw [Int.tmod_eq_emod_of_nonneg (by omega)]; omega
            obtain ⟨P, hP, hPn⟩ := key 9 (by omega) (by omega)
            have i1 := pick_any c 9 hb.1 hb.2 (by omega) (by omega) wr
            rw [hP] at i1
            have s1 : IntKind.i64.wrap ((p : Int) + (P : Int)) = (p : Int) + (P : Int) := by rw [IntKind.wrap_i64]; omega
            have s2 : IntKind.i64.wrap ((p : Int) + (P : Int) + 1) = (p : Int) + (P : Int) + 1 := by rw [IntKind.wrap_i64]; omega
            obtain ⟨v', w3, hap, O3, G3⟩ := append_intC wr (.slice va q vc) l (p + P) hM.out.own (by rw [HQ.out]; omega)
            have M3 := hid (hM.out.push hp1 hPn O3 G3)
            have e5 : ((p + P : Nat) : Int) = (p : Int) + (P : Int) := by omega
            rw [e5] at hap
            clear O3 G3 key hP hb
            go_wp2_with (first
              | (go_at_call 8; refine i1.mono ?_; rintro r w2' ⟨rfl, h2⟩; have h2 := h2.symm; subst h2)
              | (at_builtin; go_must (refine Lib.wpList_append_run _ rfl _ _ 23 23 rfl _ _ rfl rfl _ _ hap ?_)))
            exact ⟨⟨k + 1, p + P + 1, l ++ [p + P], by omega, by omega, by omega, by rw [List.length_append, HQ.out, List.length_singleton]; omega, .inr (by simp), (fun e => by simp at e), by go_num, by go_num, M3⟩, by simp [intOf]; omega⟩
          · obtain ⟨P, hP, hPn⟩ := key ((n : Int) - (p : Int) + 1) (by omega) (by omega)
            have i1 := pick_any c ((n : Int) - (p : Int) + 1) hb.1 hb.2 (by omega) (by omega) wr
            rw [hP] at i1
            by_cases m0 : k % 2 = 0
            · have m1 : (k : Int) % 2 = 0 := by omega
              have m2 : ¬ (9 : Int) < (n : Int) - (p : Int) + 1 := by omega
              have m3 : (k : Int).tmod 2 = 0 := by rw [Int.tmod_eq_emod_of_nonneg (by omega)]; omega
              have s1 : IntKind.i64.wrap ((p : Int) + (P : Int)) = (p : Int) + (P : Int) := by rw [IntKind.wrap_i64]; omega
              have s2 : IntKind.i64.wrap ((p : Int) + (P : Int) + 1) = (p : Int) + (P : Int) + 1 := by rw [IntKind.wrap_i64]; omega
              obtain ⟨v', w3, hap, O3, G3⟩ := append_intC wr (.slice va q vc) l (p + P) hM.out.own (by rw [HQ.out]; omega)
              have M3 := hid (hM.out.push hp1 hPn O3 G3)
              have e5 : ((p + P : Nat) : Int) = (p : Int) + (P : Int) := by omega
              rw [e5] at hap
              clear O3 G3 key hP hb
              go_wp2_with (first
                | (go_at_call 8; refine i1.mono ?_; rintro r w2' ⟨rfl, h2⟩; have h2 := h2.symm; subst h2)
                | (at_builtin; go_must (refine Lib.wpList_append_run _ rfl _ _ 23 23 rfl _ _ rfl rfl _ _ hap ?_)))
              exact ⟨⟨k + 1, p + P + 1, l ++ [p + P], by omega, by omega, by omega, by rw [List.length_append, HQ.out, List.length_singleton]; omega, .inr (by simp), (fun e => by simp at e), by go_num, by go_num, M3⟩, by simp [intOf]; omega⟩
            · have m1 : ¬ (k : Int) % 2 = 0 := by omega
              have m3 : ¬ (k : Int).tmod 2 = 0 := by rw [Int.tmod_eq_emod_of_nonneg (by omega)]; omega
              have s1 : IntKind.i64.wrap ((p : Int) + (P : Int)) = (p : Int) + (P : Int) := by rw [IntKind.wrap_i64]; omega
              have s2 : IntKind.i64.wrap ((p : Int) + (P : Int) + 1) = (p : Int) + (P : Int) + 1 := by rw [IntKind.wrap_i64]; omega
              obtain ⟨v', w3, hap, O3, G3⟩ := append_intC wr (.slice va q vc) l (p + P) hM.out.own (by rw [HQ.out]; omega)
              have M3 := hid (hM.out.push hp1 hPn O3 G3)
              have e5 : ((p + P : Nat) : Int) = (p : Int) + (P : Int) := by omega
              rw [e5] at hap
              clear O3 G3 key hP hb
              go_wp2_with (first
                | (go_at_call 8; refine i1.mono ?_; rintro r w2' ⟨rfl, h2⟩; have h2 := h2.symm; subst h2)
                | (at_builtin; go_must (refine Lib.wpList_append_run _ rfl _ _ 23 23 rfl _ _ rfl rfl _ _ hap ?_)))
              exact ⟨⟨k + 1, p + P + 1, l ++ [p + P], by omega, by omega, by omega, by rw [List.length_append, HQ.out, List.length_singleton]; omega, .inr (by simp), (fun e => by simp at e), by go_num, by go_num, M3⟩, by simp [intOf]; omega⟩
        · have d3 : ¬ (p : Int) ≤ (n : Int) := by omega
          have d4 : ¬ (q : Int) = 0 := by omega
          clear hq
          go_wp2
          go_ret
          exact ⟨_, l, rfl, hM.out.own, hM.out.rs.hds (by rw [HQ.out]; omega) (by rw [HQ.out]; omega) hn2, fun x hx => (hM.out.rs.lo x hx).2.2, by rw [HQ.out]; omega, hM.out.ge, hM.out.bel⟩
      · have d2 : ¬ (q : Int) < (most : Int) := by omega
        have d4 : ¬ (q : Int) = 0 := by omega
        clear hq
        go_wp2
        go_ret
        exact ⟨_, l, rfl, hM.out.own, hM.out.rs.hds (by rw [HQ.out]; omega) (by rw [HQ.out]; omega) hn2, fun x hx => (hM.out.rs.lo x hx).2.2, by rw [HQ.out]; omega, hM.out.ge, hM.out.bel⟩
    · have d1 : ¬ (k : Int) < (N : Int) := by omega
      by_cases c4 : q = 0
      · have d4 : (q : Int) = 0 := by omega
        obtain rfl : l = [] := List.eq_nil_of_length_eq_zero (by rw [HQ.out]; exact c4)
        obtain rfl : p = 1 := hl0 c4
        subst c4
        obtain ⟨v', w3, hap, O3, G3⟩ := append_intC wr (.slice va 0 vc) [] (1 + (n - 1)) hM.out.own (by simp)
        have M3 := hid (hM.out.push (by omega) (by omega) O3 G3)
        have e5 : ((1 + (n - 1) : Nat) : Int) = (n : Int) := by omega
        rw [e5] at hap
        clear O3 G3 hq
        go_wp2_with (at_builtin; go_must (refine Lib.wpList_append_run _ rfl _ _ 23 23 rfl _ _ rfl rfl _ _ hap ?_))
        go_ret
        exact ⟨_, _, rfl, M3.out.own, M3.out.rs.hds (by simp) (by simp) hn2, fun x hx => (M3.out.rs.lo x hx).2.2, by simp; omega, M3.out.ge, M3.out.bel⟩
      · have d4 : ¬ (q : Int) = 0 := by omega
        clear hq
        go_wp2
        go_ret
        exact ⟨_, l, rfl, hM.out.own, hM.out.rs.hds (by rw [HQ.out]; omega) (by rw [HQ.out]; omega) hn2, fun x hx => (hM.out.rs.lo x hx).2.2, by rw [HQ.out]; omega, hM.out.ge, hM.out.bel⟩
end Chn
end Go.Proofs.YtappjeepajjioaaGreatDoor

namespace Go.Proofs.YtappjeepajjioaaGreatDoor
open Go.RowKit Go.Shelf
set_option maxRecDepth 100000 in
set_option maxHeartbeats 4000000 in
theorem spans_yes (l : List (Int × Int)) (a1 a2 : Option Addr) (c1 c2 : Nat) (w : World) (hl : l.length ≤ 9223372036854775800) (h1 : AtP w a1 l) (h2 : AtP w a2 l) :
    Calls Tryz.prog 32 #[.slice a1 l.length c1, .slice a2 l.length c2] w fun r w' => r = .returned (.bool true) ∧ Below w.heap.size w w' := by
  obtain ⟨n, hn⟩ : ∃ n, Hid (l.length = n) := ⟨_, rfl⟩
  rw [hn.out] at hl ⊢
  have H1 := hid h1
  have H2 := hid h2
  clear h1 h2
  go_enter Tryz.func32, Tryz.ntmps32
  go_wp2
  go_loopw [5] (fun i wr => ∃ k : Nat, i = .int .i64 (k : Int) ∧ k ≤ n ∧ Hid (Below w.heap.size w wr)) (fun i _ => n - (intOf i).toNat)
  case atStart => exact ⟨0, rfl, Nat.zero_le _, Below.refl _ _⟩
  case round =>
    obtain ⟨k, rfl, hk, hB⟩ := hrel
    by_cases hkn : k < n
    · have b0 : (k : Int) < (n : Int) := by omega
      have b1 : (0 : Int) ≤ (k : Int) := by omega
      obtain ⟨x, y, hq⟩ : ∃ x y, l[k]? = some (x, y) := ⟨_, _, List.getElem?_eq_getElem (by have := hn.out; omega)⟩
      obtain ⟨g1, rfl, _, p0, p1⟩ := (H1.out.below hB.out (Nat.le_refl _)) k (x, y) hq
      obtain ⟨g2, rfl, _, q0, q1⟩ := (H2.out.below hB.out (Nat.le_refl _)) k (x, y) hq
      have p0 : wr.cell? ⟨g1, k * 2, none⟩ = some (.int .i64 x) := p0
      have p1 : wr.cell? ⟨g1, k * 2 + 1, none⟩ = some (.int .i64 y) := p1
      have q0 : wr.cell? ⟨g2, k * 2, none⟩ = some (.int .i64 x) := q0
      have q1 : wr.cell? ⟨g2, k * 2 + 1, none⟩ = some (.int .i64 y) := q1
      clear H1 H2 hq
      go_wp2
      go_quiet (fail)
      go_wp2
      exact ⟨⟨k + 1, by go_num, by omega, by first | exact hB | exact hid hB.out.drew | exact hid (below_drewN hB.out _)⟩, by simp [intOf]; omega⟩
    · obtain rfl : k = n := by omega
      have b0 : ¬ (k : Int) < (k : Int) := by omega
      go_wp2
      go_ret
      exact ⟨rfl, hB.out⟩
theorem AtP.lit (w : World) (l : List (Int × Int)) (t : TypeId) : AtP (w.alloc (.cells (prI l).toArray t)) (some ⟨w.heap.size, 0, none⟩) l := fun j q hq => by
  have h := prI_get hq
  refine ⟨w.heap.size, rfl, by rw [size_alloc]; omega, ?_, ?_⟩
  · rw [cell_of_row _ _ _ _ _ _ (heap_alloc_new w _)]; simpa using h.1
  · rw [cell_of_row _ _ _ _ _ _ (heap_alloc_new w _)]; simpa using h.2
theorem AtI.lit (w : World) (l : List Int) (t : TypeId) : AtI (w.alloc (.cells (l.map (Value.int .i64)).toArray t)) (some ⟨w.heap.size, 0, none⟩) l := fun j q hq => by
  refine ⟨⟨w.heap.size, 0, none⟩, rfl, by show w.heap.size < _; rw [size_alloc]; omega, ?_⟩
  rw [Addr.add_mid, cell_of_row _ _ _ _ _ _ (heap_alloc_new w _), Nat.zero_add]
  simp [hq]
set_option maxRecDepth 100000 in
theorem hash8_any (s : ByteArray) (hs : s.size ≤ 140737488355000) (w : World) : Calls Tryz.prog 13 #[.string s] w fun r w' => r = .returned (sv (Sha.sha s.data.toList)) ∧ Below w.heap.size w w' := by
  have i1 := fun w' => rsum_any s (by omega) w'
  obtain ⟨D, hD⟩ : ∃ D : ByteArray, Hid (sv (Sha.sha s.data.toList) = .string D) := ⟨_, rfl⟩
  rw [hD.out] at i1 ⊢
  go_enter Tryz.func13, Tryz.ntmps13
  go_wp2_with (go_at_call 39; refine (i1 _).mono ?_; rintro e w' ⟨rfl, hw⟩)
  go_ret
  exact ⟨rfl, hw⟩
end Go.Proofs.YtappjeepajjioaaGreatDoor

namespace Go.Proofs.YtappjeepajjioaaGreatDoor
open Go.RowKit Go.Shelf
namespace Chn
theorem nd356 : ndE [3, 5, 6] = 0 ∧ ndL [3, 5, 6] = [(2, 3), (3, 4), (0, 2), (4, 5), (5, 6)] := by decide +kernel
theorem nd4 : ndE [4] = 0 ∧ ndL [4] = [] := by decide +kernel
theorem nd22 : ndE [2, 2] = 130 ∧ ndL [2, 2] = [] := by decide +kernel
theorem hds4 : Hds [4] := by
  obtain ⟨hs, h1, h2⟩ := mayB_hds (cs := [4]) (by decide +kernel)
  have : hs = [4] := by rw [← ix_toN hs, ← h1]; rfl
  rw [← this]; exact h2
theorem ex12 : exE [1, 2] [] = 131 := by decide +kernel
theorem ck_x : ckO [1, 2] [Sha.sha [120]] [Sha.sha [120], Sha.sha [120]] = 132 := by decide +kernel
theorem at_one (w : World) (x : List UInt8) : At (w.alloc (.cells #[.string ⟨x.toArray⟩] 9)) (some ⟨w.heap.size, 0, none⟩) [x] := fun j p hp => by
  have h := heap_alloc_new w (.cells #[.string ⟨x.toArray⟩] 9)
  refine ⟨_, rfl, lt_of_heap h, ?_⟩
  rw [Addr.add_mid, Nat.zero_add, cell_of_row _ _ _ _ _ _ h]
  match j, hp with
  | 0, hp => simp at hp; subst hp; rfl
  | j + 1, hp => simp at hp
theorem at_twoC (w : World) (x z : List UInt8) : At (w.alloc (.cells #[.string ⟨x.toArray⟩, .string ⟨z.toArray⟩] 9)) (some ⟨w.heap.size, 0, none⟩) [x, z] := fun j p hp => by
  have h := heap_alloc_new w (.cells #[.string ⟨x.toArray⟩, .string ⟨z.toArray⟩] 9)
  refine ⟨_, rfl, lt_of_heap h, ?_⟩
  rw [Addr.add_mid, Nat.zero_add, cell_of_row _ _ _ _ _ _ h]
  match j, hp with
  | 0, hp => simp at hp; subst hp; rfl
  | 1, hp => simp at hp; subst hp; rfl
  | j + 2, hp => simp at hp
abbrev five : List (Int × Int) := [(2, 3), (3, 4), (0, 2), (4, 5), (5, 6)]
abbrev fiveO : Obj := .cells #[.int .i64 2, .int .i64 3, .int .i64 3, .int .i64 4, .int .i64 0, .int .i64 2, .int .i64 4, .int .i64 5, .int .i64 5, .int .i64 6] 54
theorem five_at (w : World) : AtP (w.alloc fiveO) (some ⟨w.heap.size, 0, none⟩) five := AtP.lit w five 54
theorem own_five {w : World} {a : Option Addr} {k : Nat} (h : OwnM 2 w (.slice a 5 k) 5 (prs [(2, 3), (3, 4), (0, 2), (4, 5), (5, 6)])) : AtP w a five := OwnP.atP (l := [(2, 3), (3, 4), (0, 2), (4, 5), (5, 6)]) h
theorem five_yes (w : World) (a : Option Addr) (k1 : Nat) (h : AtP (w.alloc fiveO) a five) : Calls Tryz.prog 32 #[.slice a 5 k1, .slice (some ⟨w.heap.size, 0, none⟩) 5 5] (w.alloc fiveO) fun e w' => e = .returned (.bool true) ∧ Below w.heap.size w w' := by
  have b0 := (Below.refl w.heap.size w).alloc (Nat.le_refl _) fiveO
  refine (spans_yes five a (some ⟨w.heap.size, 0, none⟩) k1 5 _ (by decide) h (five_at w)).mono ?_
  rintro r w' ⟨rfl, b1⟩
  exact ⟨rfl, b0.trans (b1.mono b0.size)⟩
set_option maxRecDepth 100000 in
set_option maxHeartbeats 2000000 in
theorem known13_any (w : World) (T : Tabs w) : Calls Tryz.prog 7 #[] w fun e w' => e = .returned (.bool true) ∧ Below w.heap.size w w' := by
  have i1 := fun w' => nodes13_any [3, 5, 6] 3 rfl (some ⟨w'.heap.size, 0, none⟩) 3 _ (AtI.lit w' [3, 5, 6] 3) (by omega)
  have i2 := fun w' => nodes13_any [4] 1 rfl (some ⟨w'.heap.size, 0, none⟩) 1 _ (AtI.lit w' [4] 3) (by omega)
  have i3 := fun w' => nodes13_any [2, 2] 2 rfl (some ⟨w'.heap.size, 0, none⟩) 2 _ (AtI.lit w' [2, 2] 3) (by omega)
  rw [nd356.1, nd356.2] at i1
  rw [nd4.1, nd4.2] at i2
  rw [nd22.1, nd22.2] at i3
  have b9 : ∀ (w' : World) (o : Obj), Below w.heap.size w w' → Below w.heap.size w (w'.alloc o) := fun w' o h => h.alloc h.size _
  have i4 := fun w' (bb : Below w.heap.size w w') => expandC_ok [4] hds4 [] 1 0 rfl rfl (by unfold Hid; decide +kernel) (some ⟨w'.heap.size, 0, none⟩) none 1 0 _ (AtI.lit w' [4] 3) (At.nil _ _) rfl (T.below (b9 w' _ bb) T.lt)
  have e4 : exL [4] [] = [] := rfl
  rw [e4] at i4
  have i5 := fun w' => expandC_bad [1, 2] [] 2 0 rfl rfl (some ⟨w'.heap.size, 0, none⟩) none 2 0 _ (AtI.lit w' [1, 2] 3) (At.nil _ _) (by omega) (by omega) (by rw [ex12]; decide)
  rw [ex12] at i5
  have i6 := fun w' v (bb : OwnP w' v [(2, 3), (3, 4), (0, 2), (4, 5), (5, 6)]) => (show ∃ a c, v = .slice a 5 c ∧ AtP w' a [(2, 3), (3, 4), (0, 2), (4, 5), (5, 6)] by
    obtain ⟨a, c, rfl, _, _⟩ := bb.shape
    exact ⟨a, c, rfl, bb.atP⟩)
  have i7 := fun w' => hash8_any ⟨#[120]⟩ (by decide) w'
  obtain ⟨X, hX⟩ : ∃ X, Sha.sha (⟨#[120]⟩ : ByteArray).data.toList = X := ⟨_, rfl⟩
  have hck : ckO [1, 2] [X] [X, X] = 132 := by rw [← hX]; exact ck_x
  rw [hX] at i7
  have i8 := fun w' (bb : Below w.heap.size w w') => checkC_any [1, 2] [X] [X, X] 2 1 2 rfl rfl rfl (some ⟨w'.heap.size, 0, none⟩) (some ⟨w'.heap.size + 1, 0, none⟩) (some ⟨w'.heap.size + 1 + 1, 0, none⟩) 2 1 2 (((w'.alloc (.cells #[.int .i64 1, .int .i64 2] 3)).alloc (.cells #[.string ⟨X.toArray⟩] 9)).alloc (.cells #[.string ⟨X.toArray⟩, .string ⟨X.toArray⟩] 9))
    (((AtI.lit w' [1, 2] 3).below ((Below.refl _ _).alloc (Nat.le_refl _) _) (Nat.le_refl _)).below ((Below.refl _ _).alloc (Nat.le_refl _) _) (Nat.le_refl _))
    (by have h := at_one (w'.alloc (.cells #[.int .i64 1, .int .i64 2] 3)) X; rw [size_alloc] at h; exact h.below ((Below.refl _ _).alloc (Nat.le_refl _) _) (Nat.le_refl _))
    (by have h := at_twoC ((w'.alloc (.cells #[.int .i64 1, .int .i64 2] 3)).alloc (.cells #[.string ⟨X.toArray⟩] 9)) X X; rw [size_alloc, size_alloc] at h; exact h)
    (T.below (b9 _ _ (b9 _ _ (b9 w' _ bb))) T.lt) (by omega) (by omega) (by omega)
  rw [hck] at i8
  rw [show sv X = .string ⟨X.toArray⟩ from rfl] at i7
  generalize (⟨X.toArray⟩ : ByteArray) = XB at *
  simp only [List.map_cons, List.map_nil] at i1 i2 i3 i4 i5
  have HB9 := hid b9
  clear hX hck b9 e4
  go_enter Tryz.func7, Tryz.ntmps7
  go_wp2_with (first
    | (go_at_call 18; (with_reducible refine (i1 _).mono ?_); rintro r w1 ⟨b1, v1, rfl, O1, _⟩; have c1' := HB9.out w (.cells #[.int .i64 3, .int .i64 5, .int .i64 6] 3) (Below.refl _ _); have B1 := hid (c1'.trans (b1.mono c1'.size)); have HO1 := hid O1; obtain ⟨a1, k1, rfl, _, _⟩ := (show OwnM 2 w1 v1 5 (prs [(2, 3), (3, 4), (0, 2), (4, 5), (5, 6)]) from O1).shape; clear b1 O1 c1')
    | (go_at_call 18; (with_reducible refine (i2 _).mono ?_); rintro r w2 ⟨b2, v2, rfl, O2, _⟩; have c2' := (Below.refl w1.heap.size w1).alloc (Nat.le_refl _) (.cells #[.int .i64 4] 3); have d2 := c2'.trans (b2.mono c2'.size); have B2 := hid (B1.out.trans (d2.mono B1.out.size)); have HO2 := hid (HO1.out.below d2); obtain ⟨a2, k2, rfl, _, _⟩ := (show OwnM 2 w2 v2 0 (prs []) from O2).shape; clear b2 O2 c2' d2)
    | (go_at_call 18; (with_reducible refine (i3 _).mono ?_); rintro r w3 ⟨b3, v3, rfl, O3, _⟩; have c3' := (Below.refl w2.heap.size w2).alloc (Nat.le_refl _) (.cells #[.int .i64 2, .int .i64 2] 3); have d3 := c3'.trans (b3.mono c3'.size); have B3 := hid (B2.out.trans (d3.mono B2.out.size)); have HO3 := hid (HO2.out.below d3); obtain ⟨a3, k3, rfl, _, _⟩ := (show OwnM 2 w3 v3 0 (prs []) from O3).shape; clear b3 O3 c3' d3)
    | (go_at_call 14; (with_reducible refine (i4 _ B3.out).mono ?_); rintro r w4 ⟨G, gs, rfl, _, _, _, _, b4⟩; have c4' := (Below.refl w3.heap.size w3).alloc (Nat.le_refl _) (.cells #[.int .i64 4] 3); have d4 := c4'.trans (b4.mono c4'.size); have B4 := hid (B3.out.trans (d4.mono B3.out.size)); have HO4 := hid (HO3.out.below d4); clear b4 c4' d4)
    | (go_at_call 14; (with_reducible refine (i5 _).mono ?_); rintro r w5 ⟨rfl, b5⟩; have c5' := (Below.refl w4.heap.size w4).alloc (Nat.le_refl _) (.cells #[.int .i64 1, .int .i64 2] 3); have d5 := c5'.trans (b5.mono c5'.size); have B5 := hid (B4.out.trans (d5.mono B4.out.size)); have HO5 := hid (HO4.out.below d5); clear b5 c5' d5)
    | (go_at_call 32; (refine (five_yes w5 a1 k1 (own_five (HO5.out.below ((Below.refl w5.heap.size w5).alloc (Nat.le_refl _) fiveO)))).mono ?_); rintro r w6 ⟨rfl, b6⟩; have B6 := hid (B5.out.trans (b6.mono B5.out.size)); clear b6)
    | (go_at_call 13; refine (i7 _).mono ?_; rintro r w7 ⟨rfl, b7⟩; have B7 := hid (B6.out.trans (b7.mono B6.out.size)); clear b7)
    | (go_at_call 16; refine (i8 _ B7.out).mono ?_; rintro r w8 ⟨rfl, b8⟩; have c8' := HB9.out _ (.cells #[.string XB, .string XB] 9) (HB9.out _ (.cells #[.string XB] 9) (HB9.out _ (.cells #[.int .i64 1, .int .i64 2] 3) B7.out)); have B8 := hid (c8'.trans (b8.mono c8'.size)); clear b8 c8'))
  go_ret
  exact ⟨rfl, B8.out⟩
end Chn
end Go.Proofs.YtappjeepajjioaaGreatDoor

namespace Go.Proofs.YtappjeepajjioaaGreatDoor
open Go.RowKit
/-- a range among the values -/
abbrev rng (b e : Int) (v : Value) : Value := .agg #[.int .i64 b, .int .i64 e, v]
theorem drewBelow5 {w w' : World} (h : Below w.drew.heap.size w.drew w') : Below w.heap.size w w' := (Below.refl _ w).drew.trans h
/-- F4: may a range be one, whatever its hashes are? -/
def rgt (b e : Int) (k : Nat) : Bool := decide (0 ≤ b ∧ b ≤ 1099511627776 ∧ 0 ≤ e ∧ e ≤ 1099511627776 ∧ b ≤ e ∧ k = (Cut.cut b.toNat e.toNat).length)
end Go.Proofs.YtappjeepajjioaaGreatDoor

namespace Go.Proofs.YtappjeepajjioaaGreatDoor
open Go.RowKit
/-- are all of 32 bytes? -/
def hsB (l : List (List UInt8)) : Bool := l.all (·.length == 32)
theorem fold_drop {H : List (List UInt8)} {j j' : Nat} (hj : j' = j + 1) (h : j + 1 < H.length) : Cut.fold (H.drop j) = Tree.nd (H[j]'(by omega)) (Cut.fold (H.drop j')) := by
  subst hj
  rw [List.drop_eq_getElem_cons (by omega), List.drop_eq_getElem_cons h]
  rfl
theorem fold_last {H : List (List UInt8)} {j : Nat} (h : j + 1 = H.length) : Cut.fold (H.drop j) = (H[j]'(by omega)) := by
  rw [List.drop_eq_getElem_cons (by omega), List.drop_eq_nil_of_le (by omega)]
  rfl
end Go.Proofs.YtappjeepajjioaaGreatDoor

namespace Go.Proofs.YtappjeepajjioaaGreatDoor
open Go.RowKit
/-- a variable whose first cell is a list of its own -/
structure Nl (w : World) (q : Nat) (C : Array Value) (ty : TypeId) (v : Value) (H : List (List UInt8)) : Prop where
  row : w.heap[q]? = some (.cells C ty (0, 0))
  at0 : C[0]? = some v
  own : Own w 0 v (svs H)
  ne : v.ownBlock ≠ some q
/-- its blocks -/
def Fp (q : Nat) (v : Value) (k : Nat) : Prop := k = q ∨ v.ownBlock = some k
theorem Nl.c0 {w : World} {q : Nat} {C : Array Value} {ty : TypeId} {v : Value} {H : List (List UInt8)} (h : Nl w q C ty v H) : w.cell? ⟨q, 0, none⟩ = some v := by
  rw [cell_of_row w q 0 _ _ _ h.row]; exact h.at0
theorem Nl.f0 {w : World} {q : Nat} {C : Array Value} {ty : TypeId} {v : Value} {H : List (List UInt8)} (h : Nl w q C ty v H) : w.frozen? ⟨q, 0, none⟩ = false := frozen_of_row _ _ _ _ _ h.row
theorem Nl.keep {w w' : World} {q : Nat} {C : Array Value} {ty : TypeId} {v : Value} {H : List (List UInt8)} {S : Nat → Prop} (h : Nl w q C ty v H) (hk : Keep S w w') (hd : ∀ k, Fp q v k → ¬ S k) : Nl w' q C ty v H :=
  ⟨(hk.block q (lt_of_heap h.row) (hd q (.inl rfl))).trans h.row, h.at0, h.own.keep hk fun k hk' => hd k (.inr hk'), h.ne⟩
theorem Nl.below {w w' : World} {q : Nat} {C : Array Value} {ty : TypeId} {v : Value} {H : List (List UInt8)} (h : Nl w q C ty v H) (hb : Below w.heap.size w w') : Nl w' q C ty v H :=
  h.keep (Keep.ofBelow (S := fun _ => False) hb) fun _ _ e => e
theorem Nl.len {w : World} {q : Nat} {C : Array Value} {ty : TypeId} {v : Value} {H : List (List UInt8)} (h : Nl w q C ty v H) : 0 < C.size := by
  have := h.at0
  exact (Array.getElem?_eq_some_iff.1 this).1
theorem Own.cut {w : World} {base g n c m : Nat} {cs ds : List Value} (h : Own w base (.slice (some ⟨g, 0, none⟩) n c) (cs ++ ds)) (hm : cs.length = m) : Own w base (.slice (some ⟨g, 0, none⟩) m c) cs := by
  rcases h with ⟨h, _⟩ | ⟨g', cap', h, h1, h2, h3, h4, h5, h6⟩
  · cases h
  · injection h with e1 e2 e3
    injection e1 with e1
    injection e1 with e1
    subst e1 e3 hm
    rw [List.length_append] at h2
    exact .inr ⟨g, c, rfl, h1, by omega, h3, fun j v hv => h4 j v (by rw [List.getElem?_append_left (List.getElem?_eq_some_iff.1 hv).1]; exact hv), h5, h6⟩
/-- the last one goes: the list is cut where it lies -/
theorem Nl.pop {w : World} {q : Nat} {C : Array Value} {ty : TypeId} {g n c m : Nat} {H : List (List UInt8)} {y : List UInt8} (h : Nl w q C ty (.slice (some ⟨g, 0, none⟩) n c) (H ++ [y])) (hm : H.length = m) :
    Nl (w.setCell ⟨q, 0, none⟩ (.slice (some ⟨g, 0, none⟩) m c)) q (C.setIfInBounds 0 (.slice (some ⟨g, 0, none⟩) m c)) ty (.slice (some ⟨g, 0, none⟩) m c) H := by
  refine ⟨heap_setCell_same w q 0 _ _ _ h.row, by rw [Array.getElem?_setIfInBounds, if_pos rfl, if_pos h.len], ?_, fun e => h.ne e⟩
  have ho := h.own
  rw [show svs (H ++ [y]) = svs H ++ [sv y] by simp [svs]] at ho
  refine (ho.cut (by rw [svs_length]; exact hm)).keep (Keep.ofSet (S := fun k => k = q) w q 0 _ rfl) fun k hk e => ?_
  subst e
  exact h.ne hk
/-- one is laid behind -/
theorem Nl.push {w w' : World} {q : Nat} {C : Array Value} {ty : TypeId} {v v' : Value} {H : List (List UInt8)} {x : List UInt8} (h : Nl w q C ty v H) (hg : Grow w w' v v') (ho : Own w' 0 v' (svs (H ++ [x]))) :
    Nl (w'.setCell ⟨q, 0, none⟩ v') q (C.setIfInBounds 0 v') ty v' (H ++ [x]) ∧ Keep (Fp q v) w (w'.setCell ⟨q, 0, none⟩ v') ∧ ∀ j, v'.ownBlock = some j → v.ownBlock = some j ∨ w.heap.size ≤ j := by
  have hnew : ∀ k, v'.ownBlock = some k → v.ownBlock = some k ∨ w.heap.size ≤ k := fun k hk => by
    rcases hg.alt with e | ⟨e, _⟩
    · left; rw [← e]; exact hk
    · right; exact e k hk
  have hq := lt_of_heap h.row
  have hne : v'.ownBlock ≠ some q := fun e => by
    rcases hnew q e with e' | e'
    · exact h.ne e'
    · omega
  have row1 := (hg.old q hq h.ne).trans h.row
  refine ⟨⟨heap_setCell_same w' q 0 _ _ _ row1, by rw [Array.getElem?_setIfInBounds, if_pos rfl, if_pos h.len], ho.keep (Keep.ofSet (S := fun k => k = q) w' q 0 v' rfl) (fun k hk e => hne (e ▸ hk)), hne⟩, ?_, hnew⟩
  exact (hg.keep.mono fun _ _ e => .inr e).trans (Keep.ofSet (S := fun k => k = q) w' q 0 v' rfl) fun _ _ e => .inl e
theorem set_set (C : Array Value) (x y : Value) : (C.setIfInBounds 0 x).setIfInBounds 0 y = C.setIfInBounds 0 y := by
  apply Array.ext_getElem?
  intro i
  simp only [Array.getElem?_setIfInBounds, Array.size_setIfInBounds]
  split <;> rfl
theorem and1_i64 (E : Nat) (hE : E < 9223372036854775808) : bits .and .i64 (E : Int) 1 = ((E % 2 : Nat) : Int) := by
  have h1 : (BitVec.ofInt 64 (E : Int)).toNat = E := by
    rw [BitVec.ofInt_natCast, BitVec.toNat_ofNat]; exact Nat.mod_eq_of_lt (by omega)
  have h2 : (BitVec.ofInt 64 (1 : Int)).toNat = 1 := by decide
  show IntKind.i64.wrap ((BitVec.ofInt 64 (E : Int) &&& BitVec.ofInt 64 (1 : Int)).toNat : Int) = _
  rw [BitVec.toNat_and, h1, h2, Nat.and_one_is_mod]
  exact wrap_small _ (by omega) (by omega)
theorem bit_is {b k : Nat} (hb : b < 9223372036854775808) : bits .and .i64 ((b : Int) / 2 ^ k) 1 = ((b / 2 ^ k % 2 : Nat) : Int) := by
  have e : ((b : Int) / 2 ^ k) = ((b / 2 ^ k : Nat) : Int) := by simp
  rw [e]
  exact and1_i64 _ (Nat.lt_of_le_of_lt (Nat.div_le_self _ _) hb)
theorem last_split {H : List (List UInt8)} {m : Nat} (h : H.length = m + 1) : ∃ G y, H = G ++ [y] ∧ G.length = m := by
  refine ⟨H.dropLast, H.getLast (fun e => by rw [e] at h; simp at h), (List.dropLast_concat_getLast _).symm, by rw [List.length_dropLast]; omega⟩
end Go.Proofs.YtappjeepajjioaaGreatDoor

namespace Go.Proofs.YtappjeepajjioaaGreatDoor
open Go.RowKit
theorem Row.own {w : World} {g : Nat} {L : List (List UInt8)} (h : Row w g L) (hl : L.length ≤ 8796093021952) : Own w 0 (.slice (some ⟨g, 0, none⟩) L.length L.length) (svs L) := by
  refine .inr ⟨g, L.length, by rw [svs_length], Nat.zero_le _, by rw [svs_length]; exact Nat.le_refl _, by rw [maxLen]; omega, rangeAt_of_list h (fun j v hv => by rw [Nat.zero_add]; exact hv), there_of_row h 0 _ (by simp [svs]), h.lt⟩
/-- blocks of F alone were touched; F' has what is new besides -/
structure Mov (F : Nat → Prop) (w w' : World) (F' : Nat → Prop) : Prop where
  keep : Keep F w w'
  new : ∀ k, F' k → F k ∨ w.heap.size ≤ k
/-- F1: what Load answers beside an edge -/
def ldE (n : Int) (l : List (List UInt8)) : Int := if 0 ≤ n ∧ n ≤ 1099511627776 then (if l.length = (Cut.cut 0 n.toNat).length then (if hsB l = true then 0 else 52) else 50) else 1
end Go.Proofs.YtappjeepajjioaaGreatDoor

namespace Go.Proofs.YtappjeepajjioaaGreatDoor
open Go.RowKit
namespace Cut
open Tree
theorem cut02 : cut 0 2 = [(0, 2)] := by decide
theorem cmp2 (a b : T) : cmp [a, b] 0 = [nd a b] := by
  show List.map _ (cut 0 2) = _
  rw [cut02]
  show [root [a, b]] = _
  rw [root_cut (by simp)]
  rfl
/-- hashes of hashes are such -/
theorem cmp_hs {L : List T} {a : Nat} (h : Hs L) : Hs (cmp L a) := fun x hx => by
  obtain ⟨q, _, rfl⟩ := List.mem_map.1 hx
  exact root_hash ((h.drop _).take _)
end Cut
theorem hsB_of {l : List (List UInt8)} (h : Tree.Hs l) : hsB l = true := by
  unfold hsB
  rw [List.all_eq_true]
  intro x hx
  simpa using h x hx
theorem Mov.below {F F' : Nat → Prop} {w w' : World} {B : Nat} (h : Mov F w w' F') (hB : B ≤ w.heap.size) (hF : ∀ k, F k → B ≤ k) : Below B w w' ∧ ∀ k, F' k → B ≤ k := by
  refine ⟨⟨h.keep.os, h.keep.tape, h.keep.output, h.keep.size, fun k hk => h.keep.block k (by omega) fun e => ?_⟩, fun k hk => ?_⟩
  · have := hF k e; omega
  · rcases h.new k hk with e | e
    · exact hF k e
    · omega
end Go.Proofs.YtappjeepajjioaaGreatDoor

namespace Go.Proofs.YtappjeepajjioaaGreatDoor
open Go.RowKit
theorem Mp.keys {w : World} {b : Nat} {es : List ((Int × Int) × Value)} (h : Mp w b es) : es.Pairwise (fun x y => x.1 ≠ y.1) := by
  obtain ⟨_, _, _, _, _, _, h, _⟩ := h
  exact h
/-- a tree's blocks -/
def Fb (q b : Nat) (es : List ((Int × Int) × Value)) (k : Nat) : Prop := k = q ∨ k = b ∨ ∃ p v, (p, v) ∈ es ∧ v.ownBlock = some k
/-- a tree in memory: its rows are R's -/
structure Tr (w : World) (q b h s : Nat) (es : List ((Int × Int) × Value)) (R : Int × Int → List (List UInt8)) : Prop where
  row : w.heap[q]? = some (.cells #[.int .i64 (h : Int), .int .i64 (s : Int), .map (some b)] 91 (0, 0))
  mp : Mp w b es
  qb : q ≠ b
  el : ∀ p v, (p, v) ∈ es → Own w 0 v (svs (R p)) ∧ ∀ k, v.ownBlock = some k → k ≠ q ∧ k ≠ b
  no : ∀ p, ¬ has es p → R p = []
  apart : ∀ p v p' v' k, (p, v) ∈ es → (p', v') ∈ es → p ≠ p' → v.ownBlock = some k → v'.ownBlock ≠ some k
theorem Own.ltS {w : World} {base : Nat} {v : Value} {cs : List Value} (h : Own w base v cs) : ∀ k, v.ownBlock = some k → k < w.heap.size := by
  rcases h with ⟨rfl, _⟩ | ⟨g, cap, rfl, _, _, _, _, _, h6⟩
  · intro k hk; cases hk
  · intro k hk; cases hk; exact h6
theorem Tr.lt {w : World} {q b h s : Nat} {es : List ((Int × Int) × Value)} {R : Int × Int → List (List UInt8)} (t : Tr w q b h s es R) : ∀ k, Fb q b es k → k < w.heap.size := fun k hk => by
  rcases hk with rfl | rfl | ⟨p, v, hm, hk⟩
  · exact (Array.getElem?_eq_some_iff.1 t.row).1
  · exact t.mp.lt
  · exact (t.el p v hm).1.ltS k hk
theorem Tr.keep {w w' : World} {q b h s : Nat} {es : List ((Int × Int) × Value)} {R : Int × Int → List (List UInt8)} {S : Nat → Prop} (t : Tr w q b h s es R) (hk : Keep S w w') (hd : ∀ k, Fb q b es k → ¬ S k) : Tr w' q b h s es R := by
  have e : ∀ k, Fb q b es k → w'.heap[k]? = w.heap[k]? := fun k hf => hk.block k (t.lt k hf) (hd k hf)
  refine ⟨(e q (.inl rfl)).trans t.row, t.mp.heap (e b (.inr (.inl rfl))), t.qb, fun p v hm => ⟨?_, (t.el p v hm).2⟩, t.no, t.apart⟩
  exact (t.el p v hm).1.kept hk.size fun g hg => e g (.inr (.inr ⟨p, v, hm, hg⟩))
theorem Tr.below {w w' : World} {q b h s : Nat} {es : List ((Int × Int) × Value)} {R : Int × Int → List (List UInt8)} (t : Tr w q b h s es R) (hb : Below w.heap.size w w') : Tr w' q b h s es R :=
  t.keep (S := fun k => w.heap.size ≤ k) ⟨hb.os, hb.tape, hb.output, hb.size, fun k hk _ => hb.block k hk⟩ (fun k hk e => by have := t.lt k hk; omega)
theorem Tr.c0 {w : World} {q b h s : Nat} {es : List ((Int × Int) × Value)} {R : Int × Int → List (List UInt8)} (t : Tr w q b h s es R) : w.cell? ⟨q, 0, none⟩ = some (.int .i64 (h : Int)) := by rw [cell_of_row _ _ _ _ _ _ t.row]; rfl
theorem Tr.c1 {w : World} {q b h s : Nat} {es : List ((Int × Int) × Value)} {R : Int × Int → List (List UInt8)} (t : Tr w q b h s es R) : w.cell? ⟨q, 1, none⟩ = some (.int .i64 (s : Int)) := by rw [cell_of_row _ _ _ _ _ _ t.row]; rfl
theorem Tr.c2 {w : World} {q b h s : Nat} {es : List ((Int × Int) × Value)} {R : Int × Int → List (List UInt8)} (t : Tr w q b h s es R) : w.cell? ⟨q, 2, none⟩ = some (.map (some b)) := by rw [cell_of_row _ _ _ _ _ _ t.row]; rfl
theorem Tr.f1 {w : World} {q b h s : Nat} {es : List ((Int × Int) × Value)} {R : Int × Int → List (List UInt8)} (t : Tr w q b h s es R) : w.frozen? ⟨q, 1, none⟩ = false := frozen_of_row _ _ _ _ _ t.row
theorem Tr.at {w : World} {q b h s : Nat} {es : List ((Int × Int) × Value)} {R : Int × Int → List (List UInt8)} (t : Tr w q b h s es R) (p : Int × Int) : Own w 0 (look es p) (svs (R p)) ∧ ∀ k, (look es p).ownBlock = some k → Fb q b es k ∧ k ≠ q ∧ k ≠ b := by
  by_cases hp : has es p
  · obtain ⟨v, hv⟩ := hp
    rw [look_mem t.mp.keys hv]
    exact ⟨(t.el p v hv).1, fun k hk => ⟨.inr (.inr ⟨p, v, hv, hk⟩), (t.el p v hv).2 k hk⟩⟩
  · rw [look_none hp, t.no p hp]
    exact ⟨Own.nil _ _, fun k hk => (by cases hk)⟩
theorem tOrNone_any (q : Nat) (w : World) : Calls Tryz.prog 76 #[.pointer (some ⟨q, 0, none⟩)] w fun r w' => r = .returned (.pointer (some ⟨q, 0, none⟩)) ∧ w' = w := by
  go_enter Tryz.func76, Tryz.ntmps76
  go_wp2
  go_ret
  exact ⟨rfl, rfl⟩
theorem tSize_any {w : World} {q b h s : Nat} {es : List ((Int × Int) × Value)} {R : Int × Int → List (List UInt8)} (t : Tr w q b h s es R) : Calls Tryz.prog 36 #[.pointer (some ⟨q, 0, none⟩)] w fun r w' => r = .returned (.int .i64 (s : Int)) ∧ w' = w := by
  have h0 := t.c1
  go_enter Tryz.func36, Tryz.ntmps36
  go_wp2_with (go_at_call 76; refine (tOrNone_any q w).mono ?_; rintro e w' ⟨rfl, rfl⟩)
  go_ret
  exact ⟨rfl, rfl⟩
theorem tHeight_any {w : World} {q b h s : Nat} {es : List ((Int × Int) × Value)} {R : Int × Int → List (List UInt8)} (t : Tr w q b h s es R) : Calls Tryz.prog 45 #[.pointer (some ⟨q, 0, none⟩)] w fun r w' => r = .returned (.int .i64 (h : Int)) ∧ w' = w := by
  have h0 := t.c0
  go_enter Tryz.func45, Tryz.ntmps45
  go_wp2_with (go_at_call 76; refine (tOrNone_any q w).mono ?_; rintro e w' ⟨rfl, rfl⟩)
  go_ret
  exact ⟨rfl, rfl⟩
end Go.Proofs.YtappjeepajjioaaGreatDoor

namespace Go.Proofs.YtappjeepajjioaaGreatDoor
open Go.RowKit
theorem results_row_tmp {P : Program} {fn : Func} {p u : Tmp} {ty : TypeId} (h : fn.results = #[.cell p ty, .tmp u]) (tmps : Array Value) (w : World) (g : Nat) (t : TypeId) (cs : Array Value) (fr : Nat × Nat) (d : TypeDesc)
    (hp : tmps.getD p undef = .pointer (some ⟨g, 0, none⟩)) (hg : w.heap[g]? = some (.cells cs t fr))
    (hu : P.underlying ty = some d) (hd : (match d with | .struct _ | .array _ _ => true | _ => false) = true) (hi : (P.info? ty).map (·.size) = some cs.size) :
    (results fn tmps).run P w = .ok (.tuple #[.agg cs, tmps.getD u undef]) w := by
  rw [results_cell_tmp h, hp]
  simp [asAddr, run_loadVar_row w g t ty cs fr d hg hu hd hi, Result.andThen]
/-- nothing: beside an error -/
abbrev rng0 : Value := .agg #[.int .i64 0, .int .i64 0, .slice none 0 0]
/-- F3 -/
def cmpE (from_ : Int) (l : List (List UInt8)) : Int := if 0 ≤ from_ ∧ from_ ≤ 1099511627776 ∧ l.length ≤ 4096 then (if from_ + (l.length : Int) ≤ 1099511627776 then (if hsB l = true then 0 else 52) else 53) else 1
/-- what a call that makes a range answers: an error, or a range whose list is its own -/
def RgP (w : World) (c b e : Int) (H : List (List UInt8)) (r : Ending) (w' : World) : Prop :=
  Below w.heap.size w w' ∧ if c = 0 then ∃ v, r = .returned (.tuple #[rng b e v, .int .i64 0]) ∧ Own w' w.heap.size v (svs H) else r = .returned (.tuple #[rng0, .int .i64 c])
theorem RgP.bad {w w' : World} {c b e : Int} {H : List (List UInt8)} (hc : c ≠ 0) (hb : Below w.heap.size w w') : RgP w c b e H (.returned (.tuple #[rng0, .int .i64 c])) w' := by
  unfold RgP
  rw [if_neg hc]
  exact ⟨hb, rfl⟩
theorem RgP.ok {w w' : World} {b e : Int} {H : List (List UInt8)} {v : Value} (ho : Own w' w.heap.size v (svs H)) (hb : Below w.heap.size w w') : RgP w 0 b e H (.returned (.tuple #[rng b e v, .int .i64 0])) w' := by
  unfold RgP
  rw [if_pos rfl]
  exact ⟨hb, v, rfl, ho⟩
theorem Keep.toBelow {S : Nat → Prop} {w w' : World} {B : Nat} (h : Keep S w w') (hB : B ≤ w.heap.size) (hS : ∀ k, S k → B ≤ k) : Below B w w' :=
  ⟨h.os, h.tape, h.output, h.size, fun k hk => h.block k (by omega) fun e => by have := hS k e; omega⟩
theorem oneRg (b e : Int) (a : Option Addr) (n c : Nat) : (#[Value.int .i64 b, Value.int .i64 e, Value.slice a n c].all (·.oneCell')) = true := all_oneCell_toArray (cs := [Value.int .i64 b, Value.int .i64 e, Value.slice a n c]) fun v hv => by
  simp only [List.mem_cons, List.not_mem_nil, or_false] at hv
  rcases hv with rfl | rfl | rfl <;> rfl
theorem Own.from {w : World} {b0 B : Nat} {v : Value} {cs : List Value} (h : Own w b0 v cs) (hB : ∀ k, v.ownBlock = some k → B ≤ k) : Own w B v cs := by
  rcases h with h | ⟨g, cap, rfl, h1, h2⟩
  · exact .inl h
  · exact .inr ⟨g, cap, rfl, hB g rfl, h2⟩
/-- what the blocks are like -/
structure Co (w0 : World) (O : Nat → Prop) (q s : Nat) : Prop where
  up : ∀ k, w0.heap.size ≤ k → O k
  nq : ¬ O q
  ns : ¬ O s
  ne : q ≠ s
  tl : ∀ k, O k → 4 ≤ k
  tq : 4 ≤ q
  ts : 4 ≤ s
  tabs : Tabs w0
theorem lh_take {l : List (List UInt8)} {j : Nat} (h : j < l.length) : l.take j ++ [l[j]] = l.take (j + 1) := by rw [List.take_append_getElem]
end Go.Proofs.YtappjeepajjioaaGreatDoor

namespace Go.Proofs.YtappjeepajjioaaGreatDoor
open Go.RowKit
theorem sizePl : (Tryz.prog.info? 166).map (·.size) = some 2 := by kernel_rfl
theorem low_i64 (i h P : Nat) (hi : i < 9223372036854775808) (hh : h ≤ 62) (hP : P = 2 ^ h) : bits .and .i64 (i : Int) ((P : Int) - 1) = ((i % P : Nat) : Int) := by
  have hp : 0 < P := by rw [hP]; exact Nat.two_pow_pos h
  have hp2 : P ≤ 4611686018427387904 := by rw [hP]; exact Nat.pow_le_pow_right (n := 2) (by omega) hh
  have h1 : (BitVec.ofInt 64 (i : Int)).toNat = i := by
    rw [BitVec.ofInt_natCast, BitVec.toNat_ofNat]; exact Nat.mod_eq_of_lt (by omega)
  have h2 : (BitVec.ofInt 64 ((P : Int) - 1)).toNat = P - 1 := by
    rw [show (P : Int) - 1 = ((P - 1 : Nat) : Int) by omega, BitVec.ofInt_natCast, BitVec.toNat_ofNat]; exact Nat.mod_eq_of_lt (by omega)
  show IntKind.i64.wrap ((BitVec.ofInt 64 (i : Int) &&& BitVec.ofInt 64 ((P : Int) - 1)).toNat : Int) = _
  have h3 : i % P < P := Nat.mod_lt _ hp
  rw [BitVec.toNat_and, h1, h2, hP, Nat.and_two_pow_sub_one_eq_mod, ← hP]
  exact wrap_small _ (by omega) (by omega)
/-- three cells of two variables -/
def S3 (g q : Nat) (x y z : Value) (w : World) : Prop := w.cell? ⟨g, 0, none⟩ = some x ∧ w.cell? ⟨g, 1, none⟩ = some y ∧ w.cell? ⟨q, 0, none⟩ = some z
set_option maxRecDepth 100000 in
set_option maxHeartbeats 2000000 in
theorem placeOf_any {w : World} {q b h s : Nat} {es : List ((Int × Int) × Value)} {R : Int × Int → List (List UInt8)} (t : Tr w q b h s es R) (hh : h ≤ 8) (l i : Nat) (hi : i < 4611686018427387904) :
    Calls Tryz.prog 124 #[.pointer (some ⟨q, 0, none⟩), .agg #[.int .i64 (l : Int), .int .i64 (i : Int)]] w fun r w' => r = .returned (.tuple #[kv ((l : Int), ((i / 2 ^ h : Nat) : Int)), .int .i64 ((i % 2 ^ h : Nat) : Int)]) ∧ Below w.heap.size w w' := by
  have hh0 : (0 : Int) ≤ (h : Int) := by omega
  have hh1 : (h : Int) ≤ 64 := by omega
  obtain ⟨P, hP⟩ : ∃ P, P = 2 ^ h := ⟨_, rfl⟩
  have hp : 0 < P := by rw [hP]; exact Nat.two_pow_pos h
  have hp2 : P ≤ 256 := by rw [hP]; exact Nat.pow_le_pow_right (n := 2) (by omega) hh
  have s4 := low_i64 i h P (by omega) (by omega) hP
  have s0 : (2 : Int) ^ h = (P : Int) := by rw [hP]; simp
  have s1 : (i : Int) / (P : Int) = ((i / P : Nat) : Int) := by simp
  have s2 : IntKind.i64.wrap (P : Int) = (P : Int) := wrap_small _ (by omega) (by omega)
  have s3 : IntKind.i64.wrap ((P : Int) - 1) = (P : Int) - 1 := wrap_small _ (by omega) (by omega)
  rw [← hP]
  clear hP
  obtain ⟨i1, hi1⟩ : ∃ i1 : Nat, i / P = i1 := ⟨_, rfl⟩
  obtain ⟨i2, hi2⟩ : ∃ i2 : Nat, i % P = i2 := ⟨_, rfl⟩
  rw [hi1] at s1 ⊢
  rw [hi2] at s4 ⊢
  obtain ⟨w0, hw0⟩ : ∃ w0, (w.alloc (.cells #[Value.int .i64 (l : Int), .int .i64 (i : Int)] 139)).alloc (.cells #[Value.int .i64 0, .int .i64 0] 166) = w0 := ⟨_, rfl⟩
  have z1 := size_alloc w (.cells #[Value.int .i64 (l : Int), .int .i64 (i : Int)] 139)
  have r1 := heap_alloc_new w (.cells #[Value.int .i64 (l : Int), .int .i64 (i : Int)] 139)
  have b1 := (Below.refl w.heap.size w).alloc (Nat.le_refl _) (.cells #[Value.int .i64 (l : Int), .int .i64 (i : Int)] 139)
  have b2 := (Below.refl (w.heap.size + 1) (w.alloc (.cells #[Value.int .i64 (l : Int), .int .i64 (i : Int)] 139))).alloc (by omega) (.cells #[Value.int .i64 0, .int .i64 0] 166)
  have r2 := heap_alloc_at (w.alloc (.cells #[Value.int .i64 (l : Int), .int .i64 (i : Int)] 139)) (.cells #[Value.int .i64 0, .int .i64 0] 166) (w.heap.size + 1) z1
  have r1' := (b2.block w.heap.size (by omega)).trans r1
  have b3 := b1.trans (b2.mono (show w.heap.size ≤ w.heap.size + 1 by omega))
  rw [hw0] at r1' r2 b3
  have hq : q < w.heap.size := t.lt q (.inl rfl)
  have S0 : S3 w.heap.size q (.int .i64 (l : Int)) (.int .i64 (i : Int)) (.int .i64 (h : Int)) w0 := ⟨by rw [cell_of_row _ _ _ _ _ _ r1']; rfl, by rw [cell_of_row _ _ _ _ _ _ r1']; rfl, (b3.cell (p := ⟨q, 0, none⟩) hq).trans t.c0⟩
  have d0 : w0.drew.cell? ⟨w.heap.size + 1, 0, none⟩ = some (.int .i64 0) := by rw [show w0.drew.cell? ⟨w.heap.size + 1, 0, none⟩ = w0.cell? ⟨w.heap.size + 1, 0, none⟩ from rfl, cell_of_row _ _ _ _ _ _ r2]; rfl
  have d1 : w0.drew.cell? ⟨w.heap.size + 1, 1, none⟩ = some (.int .i64 0) := by rw [show w0.drew.cell? ⟨w.heap.size + 1, 1, none⟩ = w0.cell? ⟨w.heap.size + 1, 1, none⟩ from rfl, cell_of_row _ _ _ _ _ _ r2]; rfl
  have f0 : w0.drew.frozen? ⟨w.heap.size + 1, 0, none⟩ = false := frozen_of_row w0 _ _ _ _ r2
  have f1 : w0.drew.frozen? ⟨w.heap.size + 1, 1, none⟩ = false := frozen_of_row w0 _ _ _ _ r2
  have d0' : w0.cell? ⟨w.heap.size + 1, 0, none⟩ = some (.int .i64 0) := d0
  have d1' : w0.cell? ⟨w.heap.size + 1, 1, none⟩ = some (.int .i64 0) := d1
  have f0' : w0.frozen? ⟨w.heap.size + 1, 0, none⟩ = false := f0
  have f1' : w0.frozen? ⟨w.heap.size + 1, 1, none⟩ = false := f1
  have R2 := hid r2
  have B3 := hid b3
  obtain ⟨N, hN⟩ : ∃ N, w.heap.size = N := ⟨_, rfl⟩
  rw [hN] at S0 d0 d1 f0 f1 d0' d1' f0' f1' R2 B3 hq
  obtain ⟨w9, hw9⟩ : ∃ w9, (w0.setCell ⟨N + 1, 0, none⟩ (.int .i64 (l : Int))).setCell ⟨N + 1, 1, none⟩ (.int .i64 (i1 : Int)) = w9 := ⟨_, rfl⟩
  have b9 : Below (N + 1) w0 w9 := by
    rw [← hw9]
    exact ((Below.refl (N + 1) w0).setCell (p := ⟨N + 1, 0, none⟩) (Nat.le_refl _) _).setCell (p := ⟨N + 1, 1, none⟩) (Nat.le_refl _) _
  have S9 : S3 N q (.int .i64 (l : Int)) (.int .i64 (i : Int)) (.int .i64 (h : Int)) w9 := ⟨(b9.cell (p := ⟨N, 0, none⟩) (by simp)).trans S0.1, (b9.cell (p := ⟨N, 1, none⟩) (by simp)).trans S0.2.1, (b9.cell (p := ⟨q, 0, none⟩) (by simp; omega)).trans S0.2.2⟩
  have R9 : Hid (w9.heap[N + 1]? = some (.cells #[.int .i64 (l : Int), .int .i64 (i1 : Int)] 166 (0, 0))) := by
    have h1 := heap_setCell_same w0 (N + 1) 0 _ _ (.int .i64 (l : Int)) R2.out
    have h2 := heap_setCell_same _ (N + 1) 1 _ _ (.int .i64 (i1 : Int)) h1
    rw [hw9] at h2
    exact h2
  have B9 : Hid (Below N w w9) := hid (B3.out.trans (b9.mono (by omega)))
  clear r1' r1 r2 b1 b2 b3 z1 hi1 hi2 hp hp2 t
  go_enter Tryz.func124, Tryz.ntmps124
  go_wp2
  clear hw0
  go_region_held3 (fun w' => w'.cell? ⟨N, 0, none⟩ = some (.int .i64 (l : Int)) ∧ w'.cell? ⟨N, 1, none⟩ = some (.int .i64 (i : Int)) ∧ w'.cell? ⟨q, 0, none⟩ = some (.int .i64 (h : Int))) (first | exact S0 | exact S9 | (rw [hw9]; exact S9)) (fail)
  all_goals (go_wp2; refine bodyPost_ret (results_row_tmp rfl _ _ (N + 1) 166 _ (0, 0) _ rfl R9.out Tryz.underlying166 rfl sizePl) rfl ?_; exact ⟨rfl, by rw [hN]; exact B9.out.drew⟩)
end Go.Proofs.YtappjeepajjioaaGreatDoor
