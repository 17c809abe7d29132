import Derived.Test.YtkbngmhhlpdpnaaDoorO42
import Derived.Test.YtkbngmhhlpdpnaaDoorO32Q
namespace Go.Proofs.YtkbngmhhlpdpnaaDoor
open Go.RowKit
/-- what comes out: a list of its own and a number -/
def Tells (w : World) (r : List (List UInt8)) (k : Nat) (z : Int) (e : Ending) (w' : World) : Prop := ∃ a c, e = .returned (.tuple #[.slice a k c, .int .i64 z]) ∧ Own w' w.heap.size (.slice a k c) (svs r) ∧ At w' a r ∧ Below w.heap.size w w'
theorem tells_of {w : World} {o : List (List UInt8) × Int} {r : List (List UInt8)} {k : Nat} {z : Int} (h : Hid (o = (r, z))) (hk : Hid (r.length = k)) {e : Ending} {w' : World} (ho : Out2 w o e w') : Tells w r k z e w' := by
  rw [h.out] at ho
  obtain ⟨v, rfl, h1, h2⟩ := ho
  obtain ⟨a, c, rfl, hA, _⟩ := h1.at
  have := hk.out
  subst this
  exact ⟨a, c, rfl, h1, hA, h2⟩
theorem AtI.but {w w' : World} {a : Option Addr} {l : List Int} {b : Nat} (h : AtI w a l) (hb : But b w w') (hne : ∀ x, a = some x → x.block ≠ b) : AtI w' a l := fun j p hp => by
  obtain ⟨x, hx, h1, h2⟩ := h j p hp
  refine ⟨x, hx, Nat.lt_of_lt_of_le h1 hb.size, ?_⟩
  rw [← h2]
  exact World.cell?_of_block (w := w) (by rw [addr_block]; exact hb.block x.block h1 (hne x hx))
theorem pathF_len : ∀ (f m : Nat) (l : List (List UInt8)), (Tree.pathF f m l).length ≤ f
  | 0, _, _ => by simp [Tree.pathF]
  | f + 1, m, l => by
    rw [Tree.pathF]
    split
    · simp
    · split
      · have := pathF_len f m (l.take (Tree.sp l.length))
        rw [List.length_append]; simp; omega
      · have := pathF_len f (m - Tree.sp l.length) (l.drop (Tree.sp l.length))
        rw [List.length_append]; simp; omega
theorem proofF_len : ∀ (f m : Nat) (l : List (List UInt8)) (b : Bool), (Tree.proofF f m l b).length ≤ f
  | 0, _, _, _ => by simp [Tree.proofF]
  | f + 1, m, l, b => by
    rw [Tree.proofF]
    split
    · split <;> simp
    · split
      · have := proofF_len f m (l.take (Tree.sp l.length)) b
        rw [List.length_append]; simp; omega
      · have := proofF_len f (m - Tree.sp l.length) (l.drop (Tree.sp l.length)) false
        rw [List.length_append]; simp; omega
theorem manyF_len : ∀ (f : Nat) (is : List Nat) (b : Nat) (l : List (List UInt8)), 1 ≤ l.length → (Tree.manyF f is b l).length ≤ l.length
  | 0, _, _, _, _ => by simp [Tree.manyF]
  | f + 1, is, b, l, h0 => by
    rw [Tree.manyF]
    split
    · simpa using h0
    · split
      · simp
      · rename_i h
        have a := Tree.sp_lt (n := l.length) (by omega)
        have c := Tree.sp_pos (n := l.length) (by omega)
        have h1 := manyF_len f (is.filter (· < b + Tree.sp l.length)) b (l.take (Tree.sp l.length)) (by rw [List.length_take]; omega)
        have h2 := manyF_len f (is.filter (b + Tree.sp l.length ≤ ·)) (b + Tree.sp l.length) (l.drop (Tree.sp l.length)) (by rw [List.length_drop]; omega)
        rw [List.length_take] at h1
        rw [List.length_drop] at h2
        rw [List.length_append]
        omega
theorem pathOut_len {l : List (List UInt8)} {m : Int} {r : List (List UInt8)} {z : Int} (h : pathOut l m = (r, z)) : r.length ≤ 1000000 := by
  have hr : r = (pathOut l m).1 := by rw [h]
  rw [hr, pathOut]
  split
  · rename_i hw
    have := wrg_le hw
    split
    · have := pathF_len l.length m.toNat l
      simp only [Tree.path]; omega
    · simp
  · simp
theorem proofOut_len {l : List (List UInt8)} {m : Int} {r : List (List UInt8)} {z : Int} (h : proofOut l m = (r, z)) : r.length ≤ 1000000 := by
  have hr : r = (proofOut l m).1 := by rw [h]
  rw [hr, proofOut]
  split
  · rename_i hw
    have := wrg_le hw
    split
    · have := proofF_len l.length m.toNat l true
      simp only [Tree.proof]; omega
    · simp
  · simp
theorem manyOut_len {l : List (List UInt8)} {cs : List Int} {r : List (List UInt8)} {z : Int} (h : manyOut l cs = (r, z)) : r.length ≤ 1000000 := by
  have hr : r = (manyOut l cs).1 := by rw [h]
  rw [hr, manyOut]
  split
  · rename_i hw
    have h4 := wrg_le hw
    split
    · by_cases h0 : l.length = 0
      · simp [Tree.many, h0, Tree.manyF]
      · have := manyF_len l.length (toN cs) 0 l (by omega)
        simp only [Tree.many]; omega
    · simp
  · simp
set_option maxRecDepth 100000 in
set_option maxHeartbeats 4000000 in
theorem turned_any (ps : List (List UInt8)) (cs : List Int) (H : Nat) (ai : Option Addr) (capi : Nat) (index first : Int) (w : World) (hn6 : ps.length ≤ 8796093021952) (hR : Row w H (ps ++ behind 8)) (hAi : AtI w ai cs) (hne : ∀ x, ai = some x → x.block ≠ H) (hil : cs.length ≤ capi) (hic : capi ≤ 9223372036854775807) (T : Tabs w) (hH : 2 ≤ H) :
    Calls Tryd.prog 21 #[.slice (some ⟨H, 0, none⟩) (ps.length + 8) (ps.length + 8), .slice ai cs.length capi, .int .i64 (ps.length : Int), .int .i64 index, .int .i64 first] w fun e w' => e = .returned (.bool true) ∧ But H w w' := by
  obtain ⟨n, hn⟩ : ∃ n, ps.length = n := ⟨_, rfl⟩
  have HR := hid hR
  have HAi := hid hAi
  have HT := hid T
  have HNE := hid hne
  obtain ⟨m, hm⟩ : ∃ m, cs.length = m := ⟨_, rfl⟩
  have hps := hid hn
  rw [hn] at hn6 ⊢
  rw [hm] at hil ⊢
  clear hR hAi T hne hn
  have t0 : (n : Int) ≤ (n : Int) + 8 := by omega
  have t1 : (0 : Int) ≤ (n : Int) := by omega
  go_enter Tryd.func21, Tryd.ntmps21
  go_wp2
  go_loopw [11] (fun i w' => ∃ (k : Nat) (qs : List (List UInt8)), k ≤ 3 ∧ i = .int .i64 (k : Int) ∧ Hid (qs.length = n) ∧ Hid (Row w' H (qs ++ behind 8)) ∧ Hid (But H w w')) (fun i _ => 3 - (intOf i).toNat)
  case atStart => exact ⟨0, ps, by omega, rfl, hps, HR, But.refl _ _⟩
  case round =>
    obtain ⟨k, qs, hk, rfl, hql, hQ, hB⟩ := hrel
    by_cases hk3 : k < 3
    · have b0 : (k : Int) < 3 := by omega
      go_wp2
      go_loopw [12] (fun i w' => ∃ (t : Nat) (qs : List (List UInt8)), t ≤ 2 ∧ i = .int .i64 (t : Int) ∧ Hid (qs.length = n) ∧ Hid (Row w' H (qs ++ behind 8)) ∧ Hid (But H w w')) (fun i _ => 2 - (intOf i).toNat)
      case atStart => exact ⟨0, qs, by omega, rfl, hql, hQ, hB⟩
      case round =>
        clear hql hQ hB qs
        obtain ⟨t, qs, ht, rfl, hql, hQ, hB⟩ := hrel
        by_cases ht2 : t < 2
        · have b1 : (t : Int) < 2 := by omega
          obtain ⟨v1, w1, hap, hO1, hw1⟩ := append_copy wr (some ⟨H, 0, none⟩) (n + 8) qs hQ.out.first (by have := hql.out; omega)
          rw [hql.out] at hap
          obtain ⟨a1, c1, rfl, hA1, hl1, hc1⟩ := hO1.at
          have A1 := hid hA1
          have O1 := hid hO1
          have R1 := hid (hQ.out.below hw1 hQ.out.lt)
          have K1 := hid (hB.out.trans (But.ofBelow hw1))
          have T1 := hid (K1.out.tabs HT.out hH)
          have I1 := hid (HAi.out.but K1.out HNE.out)
          have s1 : H < wr.heap.size := hQ.out.lt
          rw [hql.out] at hap hl1
          have HO1 : Hid (∀ x, a1 = some x → x.block ≠ H) := fun x hx => by
            have := hO1.ge x.block (by rw [hx]; rcases hO1 with ⟨e, _⟩ | ⟨g, c, e, _⟩
                                       · rw [hx] at e; cases e
                                       · rw [hx] at e; injection e with e; injection e with e; subst e; rfl)
            omega
          clear hQ hB hw1 hO1 hA1 s1
          obtain rfl | rfl | rfl : k = 0 ∨ k = 1 ∨ k = 2 := by omega
          · obtain ⟨r, z, hr⟩ : ∃ r z, Hid (pathOut qs index = (r, z)) := ⟨_, _, rfl⟩
            obtain ⟨rl, hrl⟩ : ∃ rl, Hid (r.length = rl) := ⟨_, rfl⟩
            have hrb := hid (show rl ≤ 1000000 from by rw [← hrl.out]; exact pathOut_len hr.out)
            have cr := rPath_any qs index
            have cR := Path_any qs index
            rw [hql.out] at cr cR
            go_wp2_with (first
              | (at_builtin; go_must (refine Lib.wpList_append_run _ rfl _ _ 22 22 rfl _ _ rfl rfl _ _ hap ?_))
              | (go_at_call 12; fail))
            refine (cr a1 c1 w1 hl1 hc1 A1.out).mono ?_
            intro e w2 hh
            obtain ⟨a2, c2, rfl, o2, hA2, hw2⟩ := tells_of hr hrl hh
            have A2 := hid hA2
            have R2 := hid (R1.out.below hw2 R1.out.lt)
            have K2 := hid (K1.out.trans (But.ofBelow hw2))
            have T2 := hid (T1.out.next hw2)
            have L2 := hid (A1.out.below hw2 (Nat.le_refl _))
            clear hh o2 hA2 hw2 A1 R1 K1 T1 I1 O1 hap
            go_wp2_with (go_at_call 11; fail)
            refine (cR (some ⟨H, 0, none⟩) (n + 8) w2 (by omega) (by omega) R2.out.first T2.out).mono ?_
            intro e w3 hh
            obtain ⟨a3, c3, rfl, o3, hA3, hw3⟩ := tells_of hr hrl hh
            have cS := same_yes r a3 a2 c3 c2 w3 hA3 (A2.out.below hw3 (Nat.le_refl _)) (by have := hrl.out; have := hrb.out; omega)
            rw [hrl.out] at cS
            have R3 := hid (R2.out.below hw3 R2.out.lt)
            have K3 := hid (K2.out.trans (But.ofBelow hw3))
            have L3 := hid (L2.out.below hw3 (Nat.le_refl _))
            clear hh o3 hA3 hw3 R2 K2 T2 L2 A2 
            have y1 : (z != z) = false := by simp
            go_wp2_with (go_at_call 17; refine cS.mono ?_; rintro e w4 ⟨rfl, hw4, hh4⟩)
            have R4 := hid (R3.out.heap hh4)
            have K4 := hid (K3.out.trans (But.ofBelow hw4))
            have L4 := hid (L3.out.heap hh4)
            clear R3 K3 L3 hw4 hh4 cS cr cR
            go_loopw [19] (fun i w' => ∃ j : Nat, j ≤ n ∧ i = .int .i64 (j : Int) ∧ Hid (Row w' H (rv qs j ++ behind 8)) ∧ Hid (But H w w') ∧ Hid (At w' a1 qs)) (fun i _ => n - (intOf i).toNat)
            case atStart => exact ⟨0, by omega, rfl, by rw [rv_zero]; exact R4, K4, L4⟩
            case round =>
              clear R4 K4 L4
              obtain ⟨j, hj, rfl, hR, hB, hL⟩ := hrel
              by_cases hjn : j < n
              · have q0 : (j : Int) < (n : Int) := by omega
                obtain ⟨p, hp⟩ : ∃ p, qs[n - 1 - j]? = some p := ⟨_, List.getElem?_eq_getElem (by have := hql.out; omega)⟩
                obtain ⟨x, rfl, hxb, hcx⟩ := hL.out (n - 1 - j) p hp
                have hxH := HO1.out x rfl
                have q1 : IntKind.i64.wrap ((n : Int) - 1) = (n : Int) - 1 := wrap_small _ (by omega) (by omega)
                have q2 : IntKind.i64.wrap ((n : Int) - 1 - (j : Int)) = (n : Int) - 1 - (j : Int) := wrap_small _ (by omega) (by omega)
                have q3 : (0 : Int) ≤ (n : Int) - 1 - (j : Int) := by omega
                have q4 : (n : Int) - 1 - (j : Int) < (n : Int) := by omega
                have q5 : ((n : Int) - 1 - (j : Int)).toNat = n - 1 - j := by omega
                have q6 : (j : Int) < (n : Int) + 8 := by omega
                have hll : (rv qs j ++ behind 8).length = n + 8 := by rw [List.length_append, rv_len qs j (by have := hql.out; omega), behind_len 8 (by omega), hql.out]
                have hcx0 := hR.out.cell (List.getElem?_eq_getElem (show j < (rv qs j ++ behind 8).length by omega))
                have fz := hR.out.free (show j < (rv qs j ++ behind 8).length by omega)
                have R' := hR.out.set j p
                rw [rv_step qs j (by have := hql.out; omega) p (by rw [hql.out]; exact hp)] at R'
                have sB := setCell_but wr H j (sv p)
                have B' := hid (hB.out.trans sB)
                have L' : Hid (At (wr.setCell ⟨H, j, none⟩ (sv p)) (some x) qs) := fun i q hq => by
                  obtain ⟨y, hy, h1, h2⟩ := hL.out i q hq
                  obtain rfl := Option.some.inj hy
                  refine ⟨x, rfl, Nat.lt_of_lt_of_le h1 sB.size, ?_⟩
                  rw [← h2]
                  exact World.cell?_of_block (w := wr) (by rw [addr_block]; exact sB.block x.block h1 hxH)
                rw [svS p] at R' B' L' hcx
                have R'' := hid R'
                clear R' hR hB hL hp sB
                go_wp2
                exact ⟨⟨j + 1, by omega, by go_num, R'', B', L'⟩, by simp [intOf]; omega⟩
              · obtain rfl : j = n := by omega
                have q0 : ¬ (j : Int) < (j : Int) := by omega
                go_wp2
                have hl' : Hid (qs.reverse.length = j) := by
                  show qs.reverse.length = j
                  rw [List.length_reverse]; exact hql.out
                have hR' : Hid (Row wr H (qs.reverse ++ behind 8)) := by
                  have := hR.out
                  rw [← hql.out, rv_all] at this
                  exact this
                refine ⟨?_, by simp [intOf]; omega⟩
                first
                  | exact ⟨t + 1, qs.reverse, by omega, by go_num, hl', hR', hB⟩
                  | (repeat apply Exists.intro
                     exact ⟨⟨t + 1, qs.reverse, by omega, by go_num, hl', hR', hB⟩, rfl⟩)
          · obtain ⟨r, z, hr⟩ : ∃ r z, Hid (proofOut qs first = (r, z)) := ⟨_, _, rfl⟩
            obtain ⟨rl, hrl⟩ : ∃ rl, Hid (r.length = rl) := ⟨_, rfl⟩
            have hrb := hid (show rl ≤ 1000000 from by rw [← hrl.out]; exact proofOut_len hr.out)
            have cr := rProof_any qs first
            have cR := Proof_any qs first
            rw [hql.out] at cr cR
            go_wp2_with (first
              | (at_builtin; go_must (refine Lib.wpList_append_run _ rfl _ _ 22 22 rfl _ _ rfl rfl _ _ hap ?_))
              | (go_at_call 14; fail))
            refine (cr a1 c1 w1 hl1 hc1 A1.out).mono ?_
            intro e w2 hh
            obtain ⟨a2, c2, rfl, o2, hA2, hw2⟩ := tells_of hr hrl hh
            have A2 := hid hA2
            have R2 := hid (R1.out.below hw2 R1.out.lt)
            have K2 := hid (K1.out.trans (But.ofBelow hw2))
            have T2 := hid (T1.out.next hw2)
            have L2 := hid (A1.out.below hw2 (Nat.le_refl _))
            clear hh o2 hA2 hw2 A1 R1 K1 T1 I1 O1 hap
            go_wp2_with (go_at_call 13; fail)
            refine (cR (some ⟨H, 0, none⟩) (n + 8) w2 (by omega) (by omega) R2.out.first T2.out).mono ?_
            intro e w3 hh
            obtain ⟨a3, c3, rfl, o3, hA3, hw3⟩ := tells_of hr hrl hh
            have cS := same_yes r a3 a2 c3 c2 w3 hA3 (A2.out.below hw3 (Nat.le_refl _)) (by have := hrl.out; have := hrb.out; omega)
            rw [hrl.out] at cS
            have R3 := hid (R2.out.below hw3 R2.out.lt)
            have K3 := hid (K2.out.trans (But.ofBelow hw3))
            have L3 := hid (L2.out.below hw3 (Nat.le_refl _))
            clear hh o3 hA3 hw3 R2 K2 T2 L2 A2 
            have y1 : (z != z) = false := by simp
            go_wp2_with (go_at_call 17; refine cS.mono ?_; rintro e w4 ⟨rfl, hw4, hh4⟩)
            have R4 := hid (R3.out.heap hh4)
            have K4 := hid (K3.out.trans (But.ofBelow hw4))
            have L4 := hid (L3.out.heap hh4)
            clear R3 K3 L3 hw4 hh4 cS cr cR
            go_loopw [19] (fun i w' => ∃ j : Nat, j ≤ n ∧ i = .int .i64 (j : Int) ∧ Hid (Row w' H (rv qs j ++ behind 8)) ∧ Hid (But H w w') ∧ Hid (At w' a1 qs)) (fun i _ => n - (intOf i).toNat)
            case atStart => exact ⟨0, by omega, rfl, by rw [rv_zero]; exact R4, K4, L4⟩
            case round =>
              clear R4 K4 L4
              obtain ⟨j, hj, rfl, hR, hB, hL⟩ := hrel
              by_cases hjn : j < n
              · have q0 : (j : Int) < (n : Int) := by omega
                obtain ⟨p, hp⟩ : ∃ p, qs[n - 1 - j]? = some p := ⟨_, List.getElem?_eq_getElem (by have := hql.out; omega)⟩
                obtain ⟨x, rfl, hxb, hcx⟩ := hL.out (n - 1 - j) p hp
                have hxH := HO1.out x rfl
                have q1 : IntKind.i64.wrap ((n : Int) - 1) = (n : Int) - 1 := wrap_small _ (by omega) (by omega)
                have q2 : IntKind.i64.wrap ((n : Int) - 1 - (j : Int)) = (n : Int) - 1 - (j : Int) := wrap_small _ (by omega) (by omega)
                have q3 : (0 : Int) ≤ (n : Int) - 1 - (j : Int) := by omega
                have q4 : (n : Int) - 1 - (j : Int) < (n : Int) := by omega
                have q5 : ((n : Int) - 1 - (j : Int)).toNat = n - 1 - j := by omega
                have q6 : (j : Int) < (n : Int) + 8 := by omega
                have hll : (rv qs j ++ behind 8).length = n + 8 := by rw [List.length_append, rv_len qs j (by have := hql.out; omega), behind_len 8 (by omega), hql.out]
                have hcx0 := hR.out.cell (List.getElem?_eq_getElem (show j < (rv qs j ++ behind 8).length by omega))
                have fz := hR.out.free (show j < (rv qs j ++ behind 8).length by omega)
                have R' := hR.out.set j p
                rw [rv_step qs j (by have := hql.out; omega) p (by rw [hql.out]; exact hp)] at R'
                have sB := setCell_but wr H j (sv p)
                have B' := hid (hB.out.trans sB)
                have L' : Hid (At (wr.setCell ⟨H, j, none⟩ (sv p)) (some x) qs) := fun i q hq => by
                  obtain ⟨y, hy, h1, h2⟩ := hL.out i q hq
                  obtain rfl := Option.some.inj hy
                  refine ⟨x, rfl, Nat.lt_of_lt_of_le h1 sB.size, ?_⟩
                  rw [← h2]
                  exact World.cell?_of_block (w := wr) (by rw [addr_block]; exact sB.block x.block h1 hxH)
                rw [svS p] at R' B' L' hcx
                have R'' := hid R'
                clear R' hR hB hL hp sB
                go_wp2
                exact ⟨⟨j + 1, by omega, by go_num, R'', B', L'⟩, by simp [intOf]; omega⟩
              · obtain rfl : j = n := by omega
                have q0 : ¬ (j : Int) < (j : Int) := by omega
                go_wp2
                have hl' : Hid (qs.reverse.length = j) := by
                  show qs.reverse.length = j
                  rw [List.length_reverse]; exact hql.out
                have hR' : Hid (Row wr H (qs.reverse ++ behind 8)) := by
                  have := hR.out
                  rw [← hql.out, rv_all] at this
                  exact this
                refine ⟨?_, by simp [intOf]; omega⟩
                first
                  | exact ⟨t + 1, qs.reverse, by omega, by go_num, hl', hR', hB⟩
                  | (repeat apply Exists.intro
                     exact ⟨⟨t + 1, qs.reverse, by omega, by go_num, hl', hR', hB⟩, rfl⟩)
          · obtain ⟨r, z, hr⟩ : ∃ r z, Hid (manyOut qs cs = (r, z)) := ⟨_, _, rfl⟩
            obtain ⟨rl, hrl⟩ : ∃ rl, Hid (r.length = rl) := ⟨_, rfl⟩
            have hrb := hid (show rl ≤ 1000000 from by rw [← hrl.out]; exact manyOut_len hr.out)
            have cr := rMany_any qs cs
            have cR := Many_any qs cs
            rw [hql.out] at cr cR
            rw [hm] at cr cR
            go_wp2_with (first
              | (at_builtin; go_must (refine Lib.wpList_append_run _ rfl _ _ 22 22 rfl _ _ rfl rfl _ _ hap ?_))
              | (go_at_call 16; fail))
            refine (cr a1 ai c1 capi w1 hl1 hc1 A1.out I1.out).mono ?_
            intro e w2 hh
            obtain ⟨a2, c2, rfl, o2, hA2, hw2⟩ := tells_of hr hrl hh
            have A2 := hid hA2
            have R2 := hid (R1.out.below hw2 R1.out.lt)
            have K2 := hid (K1.out.trans (But.ofBelow hw2))
            have T2 := hid (T1.out.next hw2)
            have L2 := hid (A1.out.below hw2 (Nat.le_refl _))
            have I2 := hid (I1.out.below hw2 (Nat.le_refl _))
            clear hh o2 hA2 hw2 A1 R1 K1 T1 I1 O1 hap
            go_wp2_with (go_at_call 15; fail)
            refine (cR (some ⟨H, 0, none⟩) ai (n + 8) capi w2 (by omega) (by omega) R2.out.first T2.out hil hic I2.out).mono ?_
            intro e w3 hh
            obtain ⟨a3, c3, rfl, o3, hA3, hw3⟩ := tells_of hr hrl hh
            have cS := same_yes r a3 a2 c3 c2 w3 hA3 (A2.out.below hw3 (Nat.le_refl _)) (by have := hrl.out; have := hrb.out; omega)
            rw [hrl.out] at cS
            have R3 := hid (R2.out.below hw3 R2.out.lt)
            have K3 := hid (K2.out.trans (But.ofBelow hw3))
            have L3 := hid (L2.out.below hw3 (Nat.le_refl _))
            clear hh o3 hA3 hw3 R2 K2 T2 L2 A2 I2
            have y1 : (z != z) = false := by simp
            go_wp2_with (go_at_call 17; refine cS.mono ?_; rintro e w4 ⟨rfl, hw4, hh4⟩)
            have R4 := hid (R3.out.heap hh4)
            have K4 := hid (K3.out.trans (But.ofBelow hw4))
            have L4 := hid (L3.out.heap hh4)
            clear R3 K3 L3 hw4 hh4 cS cr cR
            go_loopw [19] (fun i w' => ∃ j : Nat, j ≤ n ∧ i = .int .i64 (j : Int) ∧ Hid (Row w' H (rv qs j ++ behind 8)) ∧ Hid (But H w w') ∧ Hid (At w' a1 qs)) (fun i _ => n - (intOf i).toNat)
            case atStart => exact ⟨0, by omega, rfl, by rw [rv_zero]; exact R4, K4, L4⟩
            case round =>
              clear R4 K4 L4
              obtain ⟨j, hj, rfl, hR, hB, hL⟩ := hrel
              by_cases hjn : j < n
              · have q0 : (j : Int) < (n : Int) := by omega
                obtain ⟨p, hp⟩ : ∃ p, qs[n - 1 - j]? = some p := ⟨_, List.getElem?_eq_getElem (by have := hql.out; omega)⟩
                obtain ⟨x, rfl, hxb, hcx⟩ := hL.out (n - 1 - j) p hp
                have hxH := HO1.out x rfl
                have q1 : IntKind.i64.wrap ((n : Int) - 1) = (n : Int) - 1 := wrap_small _ (by omega) (by omega)
                have q2 : IntKind.i64.wrap ((n : Int) - 1 - (j : Int)) = (n : Int) - 1 - (j : Int) := wrap_small _ (by omega) (by omega)
                have q3 : (0 : Int) ≤ (n : Int) - 1 - (j : Int) := by omega
                have q4 : (n : Int) - 1 - (j : Int) < (n : Int) := by omega
                have q5 : ((n : Int) - 1 - (j : Int)).toNat = n - 1 - j := by omega
                have q6 : (j : Int) < (n : Int) + 8 := by omega
                have hll : (rv qs j ++ behind 8).length = n + 8 := by rw [List.length_append, rv_len qs j (by have := hql.out; omega), behind_len 8 (by omega), hql.out]
                have hcx0 := hR.out.cell (List.getElem?_eq_getElem (show j < (rv qs j ++ behind 8).length by omega))
                have fz := hR.out.free (show j < (rv qs j ++ behind 8).length by omega)
                have R' := hR.out.set j p
                rw [rv_step qs j (by have := hql.out; omega) p (by rw [hql.out]; exact hp)] at R'
                have sB := setCell_but wr H j (sv p)
                have B' := hid (hB.out.trans sB)
                have L' : Hid (At (wr.setCell ⟨H, j, none⟩ (sv p)) (some x) qs) := fun i q hq => by
                  obtain ⟨y, hy, h1, h2⟩ := hL.out i q hq
                  obtain rfl := Option.some.inj hy
                  refine ⟨x, rfl, Nat.lt_of_lt_of_le h1 sB.size, ?_⟩
                  rw [← h2]
                  exact World.cell?_of_block (w := wr) (by rw [addr_block]; exact sB.block x.block h1 hxH)
                rw [svS p] at R' B' L' hcx
                have R'' := hid R'
                clear R' hR hB hL hp sB
                go_wp2
                exact ⟨⟨j + 1, by omega, by go_num, R'', B', L'⟩, by simp [intOf]; omega⟩
              · obtain rfl : j = n := by omega
                have q0 : ¬ (j : Int) < (j : Int) := by omega
                go_wp2
                have hl' : Hid (qs.reverse.length = j) := by
                  show qs.reverse.length = j
                  rw [List.length_reverse]; exact hql.out
                have hR' : Hid (Row wr H (qs.reverse ++ behind 8)) := by
                  have := hR.out
                  rw [← hql.out, rv_all] at this
                  exact this
                refine ⟨?_, by simp [intOf]; omega⟩
                first
                  | exact ⟨t + 1, qs.reverse, by omega, by go_num, hl', hR', hB⟩
                  | (repeat apply Exists.intro
                     exact ⟨⟨t + 1, qs.reverse, by omega, by go_num, hl', hR', hB⟩, rfl⟩)
        · have b1 : ¬ (t : Int) < 2 := by omega
          go_wp2
          exact ⟨⟨k + 1, qs, by omega, by go_num, hql, hQ, hB⟩, by simp [intOf]; omega⟩
    · have b0 : ¬ (k : Int) < 3 := by omega
      go_wp2
      go_ret
      exact ⟨rfl, hB.out⟩
end Go.Proofs.YtkbngmhhlpdpnaaDoor
