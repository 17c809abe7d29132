import Derived.Test.YtjodbmbadhbblaaDoorCSL2
import Derived.Test.YtjodbmbadhbblaaDoorCI2
namespace Go.Proofs.YtjodbmbadhbblaaDoor
open Go.RowKit Go.Shelf
theorem infoI8 : (Tryd.prog.info? 3).map (fun i => (i.zero, i.size, i.bytes)) = some (some (.int .i64 0), 1, 8) := by kernel_rfl
def iv8 (L : List Int) : List Value := L.map (.int .i64)
theorem iv8_length (L : List Int) : (iv8 L).length = L.length := by simp [iv8]
/-- append(l, i) -/
theorem append_int8 (w : World) (base : Nat) (v : Value) (L : List Int) (p : Int) (hown : Own w base v (iv8 L)) (hlen : L.length ≤ 2000000) (hbase : base ≤ w.heap.size) :
    ∃ v' w', (Builtin.append_ #[41, 41] 41 #[v, .slice (some ⟨w.heap.size, 0, none⟩) 1 1]).run Tryd.prog (w.alloc (.cells #[.int .i64 p] 3)) = .ok v' w' ∧ Own w' base v' (iv8 (L ++ [p])) ∧ Below base w w' := by
  obtain ⟨i0, hi, hz0, hz1, hz2⟩ := info_parts infoI8
  have hsrc : Src Tryd.prog 1 41 (.slice (some ⟨w.heap.size, 0, none⟩) 1 1) 1 [.int .i64 p] (w.alloc (.cells #[.int .i64 p] 3)) :=
    Src.ofSlice _ Tryd.underlying41 ⟨w.heap.size, 0, none⟩ 1 1 [.int .i64 p] (by simp) (fun j u hj => by
      rw [Addr.add_mid, cell_of_row _ _ _ _ _ _ (heap_alloc_new w _), Nat.zero_add]; simpa using hj) (fun u hu => by simp at hu; subst hu; rfl)
  obtain ⟨v', w', h1, h2, h3, h4⟩ := run_append_O (P := Tryd.prog) (w.alloc (.cells #[.int .i64 p] 3)) base 41 41 41 3 i0 (.int .i64 0) Tryd.underlying41 hi hz0 hz1 rfl v (iv8 L) (hown.alloc _) _ 1 [.int .i64 p] hsrc
    (by rw [iv8_length, hz2]; omega) (by rw [iv8_length, maxLen]; omega) (by rw [size_alloc]; omega) (fun _ => by omega)
  refine ⟨v', w', h1, by simpa [iv8] using h2, ?_⟩
  exact ((Below.refl base w).alloc hbase _).trans (Below.ofGrown h3 hown.ge (by rw [size_alloc]; omega))
theorem Own.atI8 {w : World} {base : Nat} {v : Value} {L : List Int} (h : Own w base v (iv8 L)) : ∃ a cap, v = .slice a L.length cap ∧ AtI w a L ∧ L.length ≤ cap ∧ cap ≤ 9223372036854775807 := by
  rcases h with ⟨rfl, h⟩ | ⟨g, cap, rfl, h1, h2, h3, h4, h5, h6⟩
  · obtain rfl : L = [] := by simpa [iv8] using h
    exact ⟨none, 0, rfl, AtI.nil _ _, by simp, by omega⟩
  · rw [iv8_length] at h2
    refine ⟨some ⟨g, 0, none⟩, cap, by rw [iv8_length], fun j p hp => ⟨_, rfl, h6, ?_⟩, h2, h3⟩
    rw [Addr.add_mid]
    exact h4 j (.int .i64 p) (by simp [iv8, hp])
/-- numbers that rise, all of them below A -/
structure Rsn (L : List Int) (A : Nat) : Prop where
  so : L.Pairwise (· < ·)
  all : ∀ x ∈ L, 0 ≤ x ∧ x < (A : Int)
theorem Rsn.nil (A : Nat) : Rsn [] A := ⟨List.Pairwise.nil, fun x h => by cases h⟩
theorem Rsn.push {L : List Int} {A : Nat} (h : Rsn L A) (q : Nat) : Rsn (L ++ [((A + q : Nat) : Int)]) (A + q + 1) :=
  ⟨List.pairwise_append.2 ⟨h.so, List.pairwise_singleton _ _, fun a ha b hb => by
    obtain rfl := List.mem_singleton.1 hb
    have := (h.all a ha).2
    omega⟩, fun x hx => by
    rcases List.mem_append.1 hx with hx | hx
    · have := h.all x hx
      omega
    · obtain rfl := List.mem_singleton.1 hx
      omega⟩
theorem Rsn.ok {L : List Int} {A n : Nat} (h : Rsn L A) (hA : A ≤ n) (h1 : 1 ≤ n) (h2 : n ≤ 1099511627776) (l1 : 0 < L.length) (l2 : L.length ≤ 256) : BatOk n L := by
  have a0 := h.all L[0] (List.getElem_mem _)
  have a1 := h.all (L[L.length - 1]'(by omega)) (List.getElem_mem _)
  exact ⟨by omega, by omega, l1, l2, h.so, by rw [getD_at l1]; omega, by rw [getD_at l1]; omega, by rw [getD_at (by omega)]; omega, by rw [getD_at (by omega)]; omega⟩
/-- rising's answer -/
def RisP (n : Nat) (w : World) (r : Ending) (w' : World) : Prop := ∃ (a : Option Addr) (cap : Nat) (L : List Int), r = .returned (.slice a L.length cap) ∧ AtI w' a L ∧ BatOk n L ∧ Below w.heap.size w w'
set_option maxRecDepth 100000 in
set_option maxHeartbeats 4000000 in
theorem rising8_any (n : Nat) (cs : List Int) (a : Option Addr) (cap : Nat) (hn : 1 ≤ n) (hn2 : n ≤ 1099511627776) (hcs : cs.length ≤ 9223372036854775807) (hw : ∀ x ∈ cs, -9223372036854775808 ≤ x ∧ x ≤ 9223372036854775807) (w : World) (hA : AtI w a cs) :
    Calls Tryd.prog 18 #[.slice a cs.length cap, .int .i64 (n : Int), .int .i64 256] w (RisP n w) := by
  have HA := hid hA
  have HW := hid hw
  clear hA hw
  generalize hN : cs.length = N at *
  go_enter Tryd.func18, Tryd.ntmps18
  go_wp2
  go_loopw [7, 8, 9] (fun v t i w' => ∃ (L : List Int) (A k : Nat), Hid (L.length = k) ∧ t = .int .i64 (A : Int) ∧ i = .int .i64 (k : Int) ∧ A ≤ n ∧ k ≤ N ∧ k ≤ 256 ∧ Hid (Rsn L A) ∧ Hid (Own w' w.heap.size v (iv8 L)) ∧ Hid (Below w.heap.size w w')) (fun _ _ i _ => 256 - (intOf i).toNat)
  case atStart => exact ⟨[], 0, 0, rfl, rfl, rfl, by omega, by omega, by omega, Rsn.nil _, Own.nil _ _, Below.refl _ _⟩
  case round =>
    obtain ⟨L, A, k, hk, rfl, rfl, hAn, hkN, hk2, hR, hO, hB⟩ := hrel
    obtain ⟨oa, oc, hv, hat, -⟩ := hO.out.atI8
    rw [hk.out] at hv
    subst hv
    have hat := hid hat
    by_cases hgo : (k : Int) < (N : Int) ∧ (k : Int) < 256 ∧ (A : Int) < (n : Int)
    · obtain ⟨g1, g2, g3⟩ := hgo
      obtain ⟨x, rfl⟩ := HA.out.pos (by omega)
      have hcell := (HA.out.below hB.out (Nat.le_refl _)).cell k (by omega)
      have hcw := HW.out (cs[k]'(by omega)) (List.getElem_mem _)
      generalize cs[k]'(by omega) = c at *
      obtain ⟨R, hRn⟩ : ∃ R : Nat, (n : Int) - (A : Int) = (R : Int) := ⟨n - A, by omega⟩
      have hRw : IntKind.i64.wrap ((n : Int) - (A : Int)) = (R : Int) := by rw [IntKind.wrap_i64]; omega
      obtain ⟨t, htt⟩ : ∃ t : Int, Int.tmod (k : Int) 2 = t := ⟨_, rfl⟩
      by_cases ht : t = 0
      · subst ht
        by_cases h4 : (40 : Int) < (R : Int)
        · have ip := fun w' => pick_any c (40 : Int) (by omega) (by omega) (by omega) (by omega) w'
          have q0 := pk_nonneg c (40 : Int) (by omega)
          have q1 := pk_lt c (40 : Int) (by omega)
          obtain ⟨q, hq⟩ : ∃ q : Nat, Hid (pk c (40 : Int) = (q : Int)) := ⟨(pk c (40 : Int)).toNat, by unfold Hid; omega⟩
          rw [hq.out] at q0 q1
          have hs : IntKind.i64.wrap ((A : Int) + (q : Int)) = ((A + q : Nat) : Int) := by rw [IntKind.wrap_i64]; omega
          have hs' : IntKind.i64.wrap (((A + q : Nat) : Int) + 1) = ((A + q + 1 : Nat) : Int) := by rw [IntKind.wrap_i64]; omega
          obtain ⟨v3, w3, hap, hO3, hb3⟩ := append_int8 wr w.heap.size _ L ((A + q : Nat) : Int) hO.out (by have := hk.out; omega) hB.out.size
          generalize hG : A + q = G at *
          go_wp2_with (first
            | (go_at_call 10; refine (ip _).mono ?_; rintro e w2 ⟨rfl, h0⟩; have h0 := h0.symm; subst h0; rw [hq.out])
            | (at_builtin; go_must (refine Lib.wpList_append_run _ rfl _ _ 41 41 rfl _ _ rfl rfl _ _ hap ?_)))
          exact ⟨⟨L ++ [((G : Nat) : Int)], G + 1, k + 1, by unfold Hid; have := hk.out; simp; omega, by go_num, by go_num, by omega, by omega, by omega, by unfold Hid; rw [← hG]; exact hR.out.push q, hO3, hB.out.trans hb3⟩, by simp [intOf]; omega⟩
        · have ip := fun w' => pick_any c (R : Int) (by omega) (by omega) (by omega) (by omega) w'
          have q0 := pk_nonneg c (R : Int) (by omega)
          have q1 := pk_lt c (R : Int) (by omega)
          obtain ⟨q, hq⟩ : ∃ q : Nat, Hid (pk c (R : Int) = (q : Int)) := ⟨(pk c (R : Int)).toNat, by unfold Hid; omega⟩
          rw [hq.out] at q0 q1
          have hs : IntKind.i64.wrap ((A : Int) + (q : Int)) = ((A + q : Nat) : Int) := by rw [IntKind.wrap_i64]; omega
          have hs' : IntKind.i64.wrap (((A + q : Nat) : Int) + 1) = ((A + q + 1 : Nat) : Int) := by rw [IntKind.wrap_i64]; omega
          obtain ⟨v3, w3, hap, hO3, hb3⟩ := append_int8 wr w.heap.size _ L ((A + q : Nat) : Int) hO.out (by have := hk.out; omega) hB.out.size
          generalize hG : A + q = G at *
          go_wp2_with (first
            | (go_at_call 10; refine (ip _).mono ?_; rintro e w2 ⟨rfl, h0⟩; have h0 := h0.symm; subst h0; rw [hq.out])
            | (at_builtin; go_must (refine Lib.wpList_append_run _ rfl _ _ 41 41 rfl _ _ rfl rfl _ _ hap ?_)))
          exact ⟨⟨L ++ [((G : Nat) : Int)], G + 1, k + 1, by unfold Hid; have := hk.out; simp; omega, by go_num, by go_num, by omega, by omega, by omega, by unfold Hid; rw [← hG]; exact hR.out.push q, hO3, hB.out.trans hb3⟩, by simp [intOf]; omega⟩
      · have ht' : (t == 0) = false := by simpa using ht
        have ip := fun w' => pick_any c (R : Int) (by omega) (by omega) (by omega) (by omega) w'
        have q0 := pk_nonneg c (R : Int) (by omega)
        have q1 := pk_lt c (R : Int) (by omega)
        obtain ⟨q, hq⟩ : ∃ q : Nat, Hid (pk c (R : Int) = (q : Int)) := ⟨(pk c (R : Int)).toNat, by unfold Hid; omega⟩
        rw [hq.out] at q0 q1
        have hs : IntKind.i64.wrap ((A : Int) + (q : Int)) = ((A + q : Nat) : Int) := by rw [IntKind.wrap_i64]; omega
        have hs' : IntKind.i64.wrap (((A + q : Nat) : Int) + 1) = ((A + q + 1 : Nat) : Int) := by rw [IntKind.wrap_i64]; omega
        obtain ⟨v3, w3, hap, hO3, hb3⟩ := append_int8 wr w.heap.size _ L ((A + q : Nat) : Int) hO.out (by have := hk.out; omega) hB.out.size
        generalize hG : A + q = G at *
        go_wp2_with (first
          | (go_at_call 10; refine (ip _).mono ?_; rintro e w2 ⟨rfl, h0⟩; have h0 := h0.symm; subst h0; rw [hq.out])
          | (at_builtin; go_must (refine Lib.wpList_append_run _ rfl _ _ 41 41 rfl _ _ rfl rfl _ _ hap ?_)))
        exact ⟨⟨L ++ [((G : Nat) : Int)], G + 1, k + 1, by unfold Hid; have := hk.out; simp; omega, by go_num, by go_num, by omega, by omega, by omega, by unfold Hid; rw [← hG]; exact hR.out.push q, hO3, hB.out.trans hb3⟩, by simp [intOf]; omega⟩
    · by_cases g1 : (k : Int) < (N : Int)
      · by_cases g2 : (k : Int) < 256
        · have g3 : ¬ (A : Int) < (n : Int) := fun h => hgo ⟨g1, g2, h⟩
          clear hgo
          by_cases hz : k = 0
          · subst hz
            obtain rfl : L = [] := List.eq_nil_of_length_eq_zero hk.out
            have ip := fun w' => pick_any (n : Int) (n : Int) (by omega) (by omega) (by omega) (by omega) w'
            have q0 := pk_nonneg (n : Int) (n : Int) (by omega)
            have q1 := pk_lt (n : Int) (n : Int) (by omega)
            obtain ⟨q, hq⟩ : ∃ q : Nat, Hid (pk (n : Int) (n : Int) = (q : Int)) := ⟨(pk (n : Int) (n : Int)).toNat, by unfold Hid; omega⟩
            rw [hq.out] at q0 q1
            obtain ⟨v3, w3, hap, hO3, hb3⟩ := append_int8 wr w.heap.size _ [] ((q : Nat) : Int) hO.out (by simp) hB.out.size
            go_wp2_with (first
              | (go_at_call 10; refine (ip _).mono ?_; rintro e w2 ⟨rfl, h0⟩; have h0 := h0.symm; subst h0; rw [hq.out])
              | (at_builtin; go_must (refine Lib.wpList_append_run _ rfl _ _ 41 41 rfl _ _ rfl rfl _ _ hap ?_)))
            go_ret
            obtain ⟨oa, oc, rfl, hat3, -⟩ := hO3.atI8
            refine ⟨oa, oc, _, rfl, hat3, Rsn.ok (A := q + 1) ?_ (by omega) hn hn2 (by simp) (by simp), hB.out.trans hb3⟩
            have := (Rsn.nil 0).push q
            simpa using this
          · have hz' : ¬ (k : Int) = 0 := by omega
            go_wp2
            go_ret
            have hat := hat.out
            refine ⟨oa, oc, L, by rw [hk.out]; rfl, hat, hR.out.ok hAn hn hn2 (by have := hk.out; omega) (by have := hk.out; omega), hB.out⟩
        · clear hgo
          have hz : ¬ k = 0 := by omega
          have hz' : ¬ (k : Int) = 0 := by omega
          go_wp2
          go_ret
          have hat := hat.out
          refine ⟨oa, oc, L, by rw [hk.out]; rfl, hat, hR.out.ok hAn hn hn2 (by have := hk.out; omega) (by have := hk.out; omega), hB.out⟩
      · clear hgo
        by_cases hz : k = 0
        · subst hz
          obtain rfl : L = [] := List.eq_nil_of_length_eq_zero hk.out
          have ip := fun w' => pick_any (n : Int) (n : Int) (by omega) (by omega) (by omega) (by omega) w'
          have q0 := pk_nonneg (n : Int) (n : Int) (by omega)
          have q1 := pk_lt (n : Int) (n : Int) (by omega)
          obtain ⟨q, hq⟩ : ∃ q : Nat, Hid (pk (n : Int) (n : Int) = (q : Int)) := ⟨(pk (n : Int) (n : Int)).toNat, by unfold Hid; omega⟩
          rw [hq.out] at q0 q1
          obtain ⟨v3, w3, hap, hO3, hb3⟩ := append_int8 wr w.heap.size _ [] ((q : Nat) : Int) hO.out (by simp) hB.out.size
          go_wp2_with (first
            | (go_at_call 10; refine (ip _).mono ?_; rintro e w2 ⟨rfl, h0⟩; have h0 := h0.symm; subst h0; rw [hq.out])
            | (at_builtin; go_must (refine Lib.wpList_append_run _ rfl _ _ 41 41 rfl _ _ rfl rfl _ _ hap ?_)))
          go_ret
          obtain ⟨oa, oc, rfl, hat3, -⟩ := hO3.atI8
          refine ⟨oa, oc, _, rfl, hat3, Rsn.ok (A := q + 1) ?_ (by omega) hn hn2 (by simp) (by simp), hB.out.trans hb3⟩
          have := (Rsn.nil 0).push q
          simpa using this
        · have hz' : ¬ (k : Int) = 0 := by omega
          go_wp2
          go_ret
          have hat := hat.out
          refine ⟨oa, oc, L, by rw [hk.out]; rfl, hat, hR.out.ok hAn hn hn2 (by have := hk.out; omega) (by have := hk.out; omega), hB.out⟩
end Go.Proofs.YtjodbmbadhbblaaDoor
