import Derived.Test.YtjcapdkibbjmiaaGreatDoorPkCP9
import Derived.Test.YtjcapdkibbjmiaaGreatDoorPkSQ1
import Derived.BigQuiet
import Derived.OwnWalk
import Derived.Test.YtjcapdkibbjmiaaGreatDoorPkFL2
import Derived.Test.YtjcapdkibbjmiaaGreatDoorPkCP2c
namespace Go.Proofs.YtjcapdkibbjmiaaGreatDoor
open Go.RowKit Go.Shelf
namespace Chn
theorem rFolds13 {w : World} {a : Option Addr} {c n : Nat} {K : List (Nat × Nat)} (hn : Hid (K.length = n)) (ln : n ≤ 1000000) (h : OwnP w (.slice a n c) K) {x y : Nat} (hxy : x < y) (hy : y ≤ 1099511627776) :
    Calls Tryz.prog 69 #[.slice a n c, sg x y] w fun r w' => r = .returned (.bool (can K (x, y))) ∧ Below w.heap.size w w' := by
  have hl : K.length = (List.replicate K.length ([] : List UInt8)).length := by simp
  have hb : (pmC K).length = (bas (List.replicate K.length ([] : List UInt8))).length := by simp [pmC, bas]
  have e := ksp_prd (pmC K) (bas (List.replicate K.length ([] : List UInt8))) hb
  have hA : AtQ w a (ksp (prd (pmC K) (bas (List.replicate K.length ([] : List UInt8))))) := by rw [e]; exact (OwnP.atP h).q
  have hlen : (ksp (prd (pmC K) (bas (List.replicate K.length ([] : List UInt8))))).length = n := by rw [e]; simp [pmC]; exact hn.out
  have := rFolds8_any (K := prd (pmC K) (bas (List.replicate K.length ([] : List UInt8)))) (a := a) (c := c) (by rw [hlen]; omega) (y - x) x (y - x) w (Nat.le_refl _) (by omega) (by omega) hA
  rw [fdB_can hl (y - x) x (y - x) (Nat.le_refl _) (by omega), hlen, show x + (y - x) = y by omega] at this
  exact this
set_option maxRecDepth 100000 in
set_option maxHeartbeats 2000000 in
theorem rHeads_any (cs : List Int) (m : Nat) (HM : Hid (cs.length = m)) (a : Option Addr) (cap : Nat) (w : World) (hc : m ≤ 9223372036854775807) (hA : AtI w a cs) :
    Calls Tryz.prog 26 #[.slice a m cap] w fun r w' => r = .returned (.bool (mayB cs)) ∧ Below w.heap.size w w' := by
  obtain ⟨B, hB⟩ : ∃ B, Hid (mayB cs = B) := ⟨_, rfl⟩
  rw [hB.out]
  have bad : Hid (¬ (1 ≤ m ∧ m ≤ 64 ∧ 1 ≤ cs.getD 0 0 ∧ cs.getD (m - 1) 0 ≤ 1099511627776) → B = false) := fun hn => by
    rw [← hB.out]
    unfold mayB
    rw [HM.out, decide_eq_false hn, Bool.false_and]
  by_cases h1 : m = 0
  · have e := hid (bad.out (by omega))
    subst h1
    clear hA bad
    go_enter Tryz.func26, Tryz.ntmps26
    go_wp2
    go_ret
    exact ⟨by rw [e.out]; rfl, Below.refl _ _⟩
  · obtain ⟨x, rfl⟩ := hA.pos (by rw [HM.out]; omega)
    have q1 : ¬ (m : Int) < 1 := by omega
    have q0 : (0 : Int) < (m : Int) := by omega
    by_cases h2 : 64 < m
    · have e := hid (bad.out (by omega))
      have q2 : (64 : Int) < (m : Int) := by omega
      clear hA bad
      go_enter Tryz.func26, Tryz.ntmps26
      go_wp2
      go_ret
      exact ⟨by rw [e.out]; rfl, Below.refl _ _⟩
    · have q2 : ¬ (64 : Int) < (m : Int) := by omega
      have c0 : w.cell? x = some (.int .i64 (cs.getD 0 0)) := by
        obtain ⟨y, hy, _, hc0⟩ := hA 0 _ (getI (by rw [HM.out]; omega))
        obtain rfl := Option.some.inj hy
        exact hc0
      have c0' : w.cell? (x.add 0) = some (.int .i64 (cs.getD 0 0)) := c0
      have cL : w.cell? (x.add (m - 1)) = some (.int .i64 (cs.getD (m - 1) 0)) := by
        obtain ⟨y, hy, _, hc0⟩ := hA (m - 1) _ (getI (by rw [HM.out]; omega))
        obtain rfl := Option.some.inj hy
        exact hc0
      have HA := hid hA
      have w1 : IntKind.i64.wrap ((m : Int) - 1) = (m : Int) - 1 := by rw [IntKind.wrap_i64]; omega
      have w2 : ((m : Int) - 1).toNat = m - 1 := by omega
      have w3 : (0 : Int) ≤ (m : Int) - 1 := by omega
      have w4 : (m : Int) - 1 < (m : Int) := by omega
      by_cases h3 : cs.getD 0 0 < 1
      · have e := hid (bad.out (by omega))
        clear hA bad HA
        generalize cs.getD 0 0 = z at *
        go_enter Tryz.func26, Tryz.ntmps26
        go_wp2
        go_ret
        exact ⟨by rw [e.out]; rfl, Below.refl _ _⟩
      · by_cases h4 : 1099511627776 < cs.getD (m - 1) 0
        · have e := hid (bad.out (by omega))
          clear hA bad HA
          generalize cs.getD 0 0 = z at *
          generalize cs.getD (m - 1) 0 = y at *
          go_enter Tryz.func26, Tryz.ntmps26
          go_wp2
          go_ret
          exact ⟨by rw [e.out]; rfl, Below.refl _ _⟩
        · have eB : Hid (B = upTo cs (m - 1)) := by
            unfold Hid
            rw [← hB.out]
            unfold mayB
            rw [HM.out, decide_eq_true (by omega), Bool.true_and]
          clear hA bad hB
          obtain ⟨z, hz⟩ : ∃ z, cs.getD 0 0 = z := ⟨_, rfl⟩
          obtain ⟨y, hy⟩ : ∃ y, cs.getD (m - 1) 0 = y := ⟨_, rfl⟩
          rw [hz] at c0 c0' h3
          rw [hy] at cL h4
          clear hz hy
          go_enter Tryz.func26, Tryz.ntmps26
          go_wp2
          clear c0 c0' cL
          go_loopw [3] (fun i w' => ∃ J j : Nat, J ≤ m - 1 ∧ Hid (j = J + 1) ∧ i = .int .i64 (j : Int) ∧ Hid (upTo cs J = true) ∧ Hid (Below w.heap.size w w')) (fun i _ => m - (intOf i).toNat)
          case atStart => exact ⟨0, 1, by omega, rfl, rfl, rfl, Below.refl _ _⟩
          case round =>
            obtain ⟨J, j, hJ, hj, rfl, hup, hbw⟩ := hrel
            by_cases hjm : J < m - 1
            · have b0 : (j : Int) < (m : Int) := by have := hj.out; omega
              have d0 : wr.cell? (x.add J) = some (.int .i64 (cs.getD J 0)) := by
                obtain ⟨y, hy, _, hc0⟩ := (HA.out.below hbw.out (Nat.le_refl _)) J _ (getI (by rw [HM.out]; omega))
                obtain rfl := Option.some.inj hy
                exact hc0
              have d1 : wr.cell? (x.add j) = some (.int .i64 (cs.getD j 0)) := by
                obtain ⟨y, hy, _, hc0⟩ := (HA.out.below hbw.out (Nat.le_refl _)) j _ (getI (by rw [HM.out]; have := hj.out; omega))
                obtain rfl := Option.some.inj hy
                exact hc0
              have v1 : IntKind.i64.wrap ((j : Int) - 1) = (J : Int) := by rw [IntKind.wrap_i64]; have := hj.out; omega
              have v3 : (0 : Int) ≤ (J : Int) := by omega
              have v4 : (J : Int) < (m : Int) := by omega
              have v6 : (0 : Int) ≤ (j : Int) := by omega
              have hcj : Hid (cs.getD (J + 1) 0 = cs.getD j 0) := by unfold Hid; rw [hj.out]
              by_cases hlt : cs.getD J 0 < cs.getD (J + 1) 0
              · have e2 : Hid (upTo cs (J + 1) = true) := by unfold Hid; rw [upTo_next, hup.out, decide_eq_true hlt]; rfl
                have hge : ¬ cs.getD j 0 ≤ cs.getD J 0 := by rw [← hcj.out]; omega
                generalize cs.getD J 0 = p at *
                generalize cs.getD j 0 = q at *
                clear hup hlt hcj
                go_wp2
                go_quiet (fail)
                go_wp2
                exact ⟨⟨J + 1, j + 1, by omega, by unfold Hid; rw [hj.out], by go_num, e2, (by exact ⟨hbw.out.os, hbw.out.tape, hbw.out.output, hbw.out.size, hbw.out.block⟩)⟩, by simp [intOf]; omega⟩
              · have e3 : Hid (B = false) := by unfold Hid; rw [eB.out]; exact upTo_not hjm hlt
                have hge : cs.getD j 0 ≤ cs.getD J 0 := by rw [← hcj.out]; omega
                generalize cs.getD J 0 = p at *
                generalize cs.getD j 0 = q at *
                clear hup hlt hcj
                go_wp2
                go_quiet (fail)
                go_wp2
                go_ret
                exact ⟨by rw [e3.out]; rfl, (by exact ⟨hbw.out.os, hbw.out.tape, hbw.out.output, hbw.out.size, hbw.out.block⟩)⟩
            · have b0 : ¬ (j : Int) < (m : Int) := by have := hj.out; omega
              have e3 : Hid (B = true) := by unfold Hid; rw [eB.out, show m - 1 = J by omega]; exact hup.out
              clear hup
              go_wp2
              go_ret
              exact ⟨by rw [e3.out]; rfl, hbw.out⟩
end Chn
end Go.Proofs.YtjcapdkibbjmiaaGreatDoor

namespace Go.Proofs.YtjcapdkibbjmiaaGreatDoor
open Go.RowKit Go.Shelf
namespace Chn
structure Rl (w w' : World) (v : Value) (K : List (Nat × Nat)) : Prop where
  own : OwnP w' v K
  ge : ∀ k, v.ownBlock = some k → w.heap.size ≤ k
  bel : Below w.heap.size w w'
theorem Rl.below {w w' w2 : World} {v : Value} {K : List (Nat × Nat)} (h : Rl w w' v K) (hb : Below w'.heap.size w' w2) : Rl w w2 v K := ⟨h.own.below hb, h.ge, h.bel.trans (hb.mono h.bel.size)⟩
theorem Rl.push {w w' w2 : World} {v v' : Value} {K K' : List (Nat × Nat)} (h : Rl w w' v K) (o : OwnP w2 v' K') (g : Grow w' w2 v v') : Rl w w2 v' K' :=
  ⟨o, fun k hk => by
    have := h.bel.size
    rcases Grow.alt' g k hk with e | e
    · exact h.ge k e
    · omega, h.bel.trans (keep_belowC g.keep h.bel.size h.ge)⟩
set_option maxRecDepth 100000 in
set_option maxHeartbeats 2000000 in
theorem rspans_any (hs : List Nat) (H : Hds hs) (m : Nat) (HM : Hid (hs.length = m)) (a : Option Addr) (cap : Nat) (w : World) (hA : AtI w a (ix hs)) :
    Calls Tryz.prog 45 #[.slice a m cap] w fun r w' => ∃ v, r = .returned v ∧ Rl w w' v (told hs) := by
  have l1 : 1 ≤ m := by rw [← HM.out]; exact H.ne
  have l2 : m ≤ 64 := by rw [← HM.out]; exact H.le
  obtain ⟨x, rfl⟩ := hA.pos (by simp [ix]; rw [HM.out]; omega)
  have HA := hid hA
  have HH := hid H
  clear hA H
  go_enter Tryz.func45, Tryz.ntmps45
  go_wp2
  go_loopw [3, 4, 5, 6, 7, 8] (fun v i _ _ _ _ w' => ∃ J j : Nat, J ≤ m - 1 ∧ Hid (j = J + 1) ∧ i = .int .i64 (j : Int) ∧ Hid (Rl w w' v (tol hs J))) (fun _ i _ _ _ _ _ => m - (intOf i).toNat)
  case atStart => exact ⟨0, 1, by omega, rfl, rfl, ⟨OwnM.nil 2 _, (fun k hk => by cases hk), Below.refl _ _⟩⟩
  case round =>
    obtain ⟨J, j, hJ, hj, rfl, hT⟩ := hrel
    by_cases hjm : J < m - 1
    · have b0 : (j : Int) < (m : Int) := by have := hj.out; omega
      have hj1 : J + 1 < hs.length := by rw [HM.out]; omega
      have hj0 : J < hs.length := by omega
      have pr := HH.out.pair hj1
      have i1 := fun w' => rProof8_ok (hs.getD (J + 1) 0) (hs.getD J 0) pr.1 pr.2.1 pr.2.2 w'
      rw [show Tree.prfF (hs.getD (J + 1) 0) 0 (hs.getD (J + 1) 0) (hs.getD J 0) = prf (hs.getD J 0) (hs.getD (J + 1) 0) from rfl] at i1
      have A1 := HA.out.below hT.out.bel (Nat.le_refl _)
      have fact : ∀ w', AtI w' (some x) (ix hs) → w'.cell? (x.add J) = some (.int .i64 (hs.getD J 0 : Int)) ∧ w'.cell? (x.add j) = some (.int .i64 (hs.getD (J + 1) 0 : Int)) := fun w' h => by
        obtain ⟨y, hy, _, h0⟩ := h J _ (ix_at hj0)
        obtain ⟨z, hz, _, h1⟩ := h (J + 1) _ (ix_at hj1)
        obtain rfl := Option.some.inj hy
        obtain rfl := Option.some.inj hz
        rw [hj.out]
        exact ⟨h0, h1⟩
      have x0 := fact _ A1
      have HF := hid fact
      have HAW := hid (fun w' (h : Below wr.heap.size wr w') => A1.below h (Nat.le_refl _))
      have hL : Hid (tol hs (J + 1) = tells (tol hs J) (prf (hs.getD J 0) (hs.getD (J + 1) 0))) := rfl
      have hlo := prf_lo pr.1 (Nat.le_of_lt pr.2.1)
      have hln := prf_len pr.1 (Nat.le_of_lt pr.2.1) pr.2.2
      have hKl := hid (tol_few HH.out (i := J) hj0)
      have p3 := pr.2.2
      unfold Hid at HF
      generalize hs.getD J 0 = A at *
      generalize hs.getD (J + 1) 0 = B at *
      have HF := hid HF
      generalize prf A B = L at *
      have HL := hid hlo
      have v1 : IntKind.i64.wrap ((j : Int) - 1) = (J : Int) := by rw [IntKind.wrap_i64]; have := hj.out; omega
      have v3 : (0 : Int) ≤ (J : Int) := by omega
      have v4 : (J : Int) < (m : Int) := by omega
      have v6 : (0 : Int) ≤ (j : Int) := by omega
      clear fact A1 pr hlo
      go_wp2
      go_region_held3 (fun w' => w'.cell? (x.add J) = some (.int .i64 (A : Int)) ∧ w'.cell? (x.add j) = some (.int .i64 (B : Int))) (first | exact x1 | exact x0) (first | (go_at_call 68; refine (i1 _).mono ?_; rintro r w1 ⟨b1, vL, rfl, OL, hvL⟩; have b1 := drewBelow8 b1; have x1 := HF.out _ (HAW.out _ b1); have T1 := hid (hT.out.below b1); have OF : Hid (∀ k, vL.ownBlock = some k → ¬ u3.ownBlock = some k) := (fun k hk e => by { have h1 : wr.heap.size ≤ k := hvL k hk; have := hT.out.own.lt k e; omega }); have BS1 := hid OL; obtain ⟨la, lc, rfl, _, _⟩ := OL.shape; clear OL hvL b1))
      clear x0 x1 hT HAW HF
      obtain ⟨nl, hnl⟩ : ∃ nl, L.length = nl := ⟨_, rfl⟩
      have HNL := hid hnl
      unfold Hid at OF
      rw [hnl] at hln OF ⊢
      have OF := hid OF
      clear hnl
      go_wp2
      go_loopw [3, 7, 8] (fun v i _ w' => ∃ k : Nat, k ≤ nl ∧ i = .int .i64 (k : Int) ∧ Hid (Rl w w' v (tells (tol hs J) (L.take k))) ∧ Hid (OwnP w' (.slice la nl lc) L) ∧ Hid (∀ q, (Value.slice la nl lc).ownBlock = some q → ¬ v.ownBlock = some q)) (fun _ i _ _ => nl - (intOf i).toNat)
      case atStart => exact ⟨0, by omega, rfl, T1, (by have := BS1.out; unfold Hid; unfold OwnP at this ⊢; rw [HNL.out] at this ⊢; exact this), OF⟩
      case round =>
        clear T1 BS1 OF
        obtain ⟨k, hk, rfl, hT, hOw, hOf⟩ := hrel
        by_cases hkl : k < nl
        · have e0 : (k : Int) < (nl : Int) := by omega
          have e1 : (0 : Int) ≤ (k : Int) := by omega
          have hkL : k < L.length := by rw [HNL.out]; exact hkl
          obtain ⟨⟨sx, sy⟩, hs'⟩ : ∃ s, L[k]? = some s := ⟨_, List.getElem?_eq_getElem hkL⟩
          obtain ⟨g, hg0, hg, c0, c1⟩ := ownP_atC hOw.out hs'
          subst hg0
          have hss := HL.out _ (List.mem_of_getElem? hs')
          have hsx : sx < sy := hss.1
          have hsy : sy ≤ 1099511627776 := by have : sy ≤ B := hss.2; omega
          have nx := hid (tells_next (K := tol hs J) hs')
          have hKn : Hid ((tells (tol hs J) (L.take k)).length ≤ 1000000) := by
            have a1 := tells_len (L.take k) (tol hs J)
            have a2 : (L.take k).length ≤ nl := by rw [List.length_take, HNL.out]; omega
            have := hKl.out
            unfold Hid
            omega
          unfold Hid at hT hKn nx
          generalize tells (tol hs J) (L.take k) = K at *
          obtain ⟨va, vc, hva, _, _⟩ := hT.own.shape
          obtain ⟨kn, hkn⟩ : ∃ kn, K.length = kn := ⟨_, rfl⟩
          have HKN := hid hkn
          rw [hkn] at hva hKn
          subst hva
          have i3 := rFolds13 (show Hid (K.length = kn) from hkn) hKn (show OwnP wr (.slice va kn vc) K from hT.own) hsx hsy
          have hTT := hid hT
          clear hT hss hs' hkn
          cases hc : can K (sx, sy) with
          | true =>
            have nx : Hid (tells (tol hs J) (L.take (k + 1)) = K) := by unfold Hid; rw [nx]; unfold tell; rw [if_pos hc]
            rw [hc] at i3
            clear hc
            go_wp2_with (go_at_call 69; refine i3.mono ?_; rintro r w2 ⟨rfl, b2⟩; have T2 := hid (hTT.out.below b2); have B2 := hid (hOw.out.below b2); clear b2)
            exact ⟨⟨k + 1, by omega, by go_num, (by unfold Hid; rw [nx.out]; exact T2.out), B2, hOf⟩, by simp [intOf]; omega⟩
          | false =>
            have nx : Hid (tells (tol hs J) (L.take (k + 1)) = K ++ [(sx, sy)]) := by unfold Hid; rw [nx]; unfold tell; rw [if_neg (by rw [hc]; simp)]
            rw [hc] at i3
            clear hc
            go_wp2_with (first
              | (go_at_call 69; refine i3.mono ?_; rintro r w2 ⟨rfl, b2⟩; have T2 := hid (hTT.out.below b2); have B2 := hid (hOw.out.below b2); have d0 := (b2.cell (p := ⟨g, k * 2, none⟩) hg).trans c0; have d1 := (b2.cell (p := ⟨g, k * 2 + 1, none⟩) hg).trans c1; obtain ⟨v3, w3, hap, O3, G3⟩ := append_pair w2 (.slice va kn vc) K sx sy T2.out.own (by { have := HKN.out; omega }); have T3 := hid (T2.out.push O3 G3); have B3 := hid (B2.out.keep G3.keep hOf.out); have OF3 : Hid (∀ q, (Value.slice (some ⟨g, 0, none⟩) nl lc).ownBlock = some q → ¬ v3.ownBlock = some q) := (fun q hq e => by { rcases Grow.alt' G3 q e with h | h; exact hOf.out q hq h; have := B2.out.lt q hq; omega }); clear b2 O3 G3)
              | (at_builtin; go_must (refine Lib.wpList_append_run _ rfl _ _ 47 47 rfl _ _ rfl rfl _ _ hap ?_)))
            exact ⟨⟨k + 1, by omega, by go_num, (by unfold Hid; rw [nx.out]; exact T3.out), B3, OF3⟩, by simp [intOf]; omega⟩
        · obtain rfl : k = nl := by omega
          have e0 : ¬ (k : Int) < (k : Int) := by omega
          have T9 : Hid (Rl w wr u3 (tol hs (J + 1))) := by
            have := hT.out
            rw [← HNL.out, List.take_length, ← hL.out] at this
            exact this
          clear hT hOw hOf
          go_wp2
          exact ⟨⟨J + 1, j + 1, by omega, by unfold Hid; rw [hj.out], by go_num, T9⟩, by simp [intOf]; omega⟩
    · have b0 : ¬ (j : Int) < (m : Int) := by have := hj.out; omega
      have e1 : Hid (told hs = tol hs J) := by unfold Hid told; rw [HM.out, show m - 1 = J by omega]
      go_wp2
      go_ret
      exact ⟨_, rfl, by rw [e1.out]; exact hT.out⟩
end Chn
end Go.Proofs.YtjcapdkibbjmiaaGreatDoor

namespace Go.Proofs.YtjcapdkibbjmiaaGreatDoor
open Go.RowKit
set_option maxRecDepth 100000 in
set_option maxHeartbeats 2000000 in
theorem rinside_any {w : World} {q h : Nat} {L : List (List UInt8)} {F : Nat → Prop} (t : RtL w q h L F) (b e : Int) :
    Calls Tryz.prog 72 #[.pointer (some ⟨q, 0, none⟩), .agg #[.int .i64 b, .int .i64 e]] w fun r w' => r = .returned (.bool (spB L.length b e)) ∧ Below w.heap.size w w' := by
  obtain ⟨w1, hw1⟩ : ∃ w1, w.alloc (.cells #[Value.int .i64 b, .int .i64 e] 60) = w1 := ⟨_, rfl⟩
  have b1 := (Below.refl w.heap.size w).alloc (Nat.le_refl _) (.cells #[Value.int .i64 b, .int .i64 e] 60)
  have r1 := heap_alloc_new w (.cells #[Value.int .i64 b, .int .i64 e] 60)
  rw [hw1] at b1 r1
  have s0 : w1.cell? ⟨w.heap.size, 0, none⟩ = some (.int .i64 b) := by rw [cell_of_row _ _ _ _ _ _ r1]; rfl
  have s1 : w1.cell? ⟨w.heap.size, 1, none⟩ = some (.int .i64 e) := by rw [cell_of_row _ _ _ _ _ _ r1]; rfl
  obtain ⟨a, c, r2, o1, n1, _, hA, _, _⟩ := (t.below b1).open
  have s2 : w1.cell? ⟨q, 1, none⟩ = some (.slice a L.length c) := by rw [cell_of_row _ _ _ _ _ _ r2]; rfl
  have B1 := hid b1
  obtain ⟨n, hn⟩ : ∃ n, L.length = n := ⟨_, rfl⟩
  rw [hn] at s2 ⊢
  obtain ⟨d, hc⟩ : ∃ c, spB n b e = c := ⟨_, rfl⟩
  rw [hc]
  unfold spB at hc
  have HC := hid hc
  clear t b1 r1 hc r2 o1 n1 hA
  have fin : Below w.heap.size w w1.drew := B1.out.drew
  by_cases h0 : 0 ≤ b
  · have y0 : decide (0 ≤ b) = true := decide_eq_true h0
    have y0' : decide (b ≥ 0) = true := decide_eq_true h0
    by_cases h1 : b ≤ e
    · have y1 : decide (b ≤ e) = true := decide_eq_true h1
      have c3 : decide (e ≤ (n : Int)) = d := by rw [← HC.out]; exact decide_eq_decide.2 ⟨fun x => ⟨h0, h1, x⟩, fun x => x.2.2⟩
      clear h0 h1
      go_enter Tryz.func72, Tryz.ntmps72
      go_wp2
      go_quiet (fail)
      go_wp2
      go_ret
      exact ⟨by rw [← c3]; rfl, ⟨B1.out.os, B1.out.tape, B1.out.output, B1.out.size, B1.out.block⟩⟩
    · have c3 : d = false := by rw [← HC.out]; exact decide_eq_false fun x => h1 x.2.1
      subst c3
      have y1 : decide (b ≤ e) = false := decide_eq_false h1
      clear h0 h1 HC
      go_enter Tryz.func72, Tryz.ntmps72
      go_wp2
      go_quiet (fail)
      go_wp2
      go_ret
      exact ⟨rfl, ⟨B1.out.os, B1.out.tape, B1.out.output, B1.out.size, B1.out.block⟩⟩
  · have c3 : d = false := by rw [← HC.out]; exact decide_eq_false fun x => h0 x.1
    subst c3
    have y0 : decide (0 ≤ b) = false := decide_eq_false h0
    clear h0 HC
    go_enter Tryz.func72, Tryz.ntmps72
    go_wp2
    go_quiet (fail)
    go_wp2
    go_ret
    exact ⟨rfl, ⟨B1.out.os, B1.out.tape, B1.out.output, B1.out.size, B1.out.block⟩⟩
end Go.Proofs.YtjcapdkibbjmiaaGreatDoor

namespace Go.Proofs.YtjcapdkibbjmiaaGreatDoor
open Go.RowKit
theorem At.sg {w : World} {x : Addr} {L : List (List UInt8)} (h : At w (some x) L) (b e : Nat) : At w (some (x.add b)) (Til.sg L b e) := (h.take e).drop b
end Go.Proofs.YtjcapdkibbjmiaaGreatDoor

namespace Go.Proofs.YtjcapdkibbjmiaaGreatDoor
open Go.RowKit
theorem At.map_sg {w : World} {a : Option Addr} {L : List (List UInt8)} (h : At w a L) {b e : Nat} (he : e ≤ L.length) : At w (a.map (·.add b)) (Til.sg L b e) := by
  by_cases hbe : b < e
  · obtain ⟨y, rfl⟩ := h.pos (by omega)
    exact h.sg b e
  · have : Til.sg L b e = [] := List.eq_nil_of_length_eq_zero (by rw [Til.sg_len he]; omega)
    rw [this]
    exact At.nil _ _
theorem s3_below {q g : Nat} {x y z : Value} {w w' : World} (h : w.cell? ⟨q, 1, none⟩ = some x ∧ w.cell? ⟨g, 0, none⟩ = some y ∧ w.cell? ⟨g, 1, none⟩ = some z) (hq : q < w.heap.size) (hg : g < w.heap.size) (hb : Below w.heap.size w w') : w'.cell? ⟨q, 1, none⟩ = some x ∧ w'.cell? ⟨g, 0, none⟩ = some y ∧ w'.cell? ⟨g, 1, none⟩ = some z :=
  ⟨(hb.cell (p := ⟨q, 1, none⟩) hq).trans h.1, (hb.cell (p := ⟨g, 0, none⟩) hg).trans h.2.1, (hb.cell (p := ⟨g, 1, none⟩) hg).trans h.2.2⟩
set_option maxRecDepth 100000 in
set_option maxHeartbeats 4000000 in
theorem rPart7_any {w : World} {q h : Nat} {L : List (List UInt8)} {F : Nat → Prop} (t : RtL w q h L F) (b e : Int) {x : List UInt8} {z : Int} (hx : Hid (tPartO L b e = (x, z))) :
    Calls Tryz.prog 47 #[.pointer (some ⟨q, 0, none⟩), .agg #[.int .i64 b, .int .i64 e]] w fun r w' => r = .returned (.tuple #[sv x, .int .i64 z]) ∧ Below w.heap.size w w' := by
  obtain ⟨w1, hw1⟩ : ∃ w1, w.alloc (.cells #[Value.int .i64 b, .int .i64 e] 60) = w1 := ⟨_, rfl⟩
  have b1 := (Below.refl w.heap.size w).alloc (Nat.le_refl _) (.cells #[Value.int .i64 b, .int .i64 e] 60)
  have r1 := heap_alloc_new w (.cells #[Value.int .i64 b, .int .i64 e] 60)
  rw [hw1] at b1 r1
  have c0 : w1.cell? ⟨w.heap.size, 0, none⟩ = some (.int .i64 b) := by rw [cell_of_row _ _ _ _ _ _ r1]; rfl
  have c1 : w1.cell? ⟨w.heap.size, 1, none⟩ = some (.int .i64 e) := by rw [cell_of_row _ _ _ _ _ _ r1]; rfl
  have T1 := hid (t.below b1)
  have i1 := rinside_any T1.out b e
  have B1 := hid b1
  have hlt : w.heap.size < w1.heap.size := lt_of_heap r1
  have hxo := hx.out
  unfold tPartO at hxo
  obtain ⟨d, hc⟩ : ∃ c, spB L.length b e = c := ⟨_, rfl⟩
  rw [hc] at i1 hxo
  have n20 := t.n20
  have hHs := t.hs
  clear t b1 r1 hx
  cases d
  · rw [if_neg (by simp)] at hxo
    injection hxo with h1 h2
    subst h1 h2
    go_enter Tryz.func47, Tryz.ntmps47
    go_wp2_with (go_at_call 72; refine i1.mono ?_; rintro r w2 ⟨rfl, hw2⟩)
    go_ret2
    exact ⟨rfl, B1.out.trans (hw2.mono B1.out.size)⟩
  · rw [if_pos rfl] at hxo
    injection hxo with h1 h2
    subst h2
    unfold spB at hc
    have hc := of_decide_eq_true hc
    obtain ⟨b', rfl⟩ : ∃ b' : Nat, b = (b' : Int) := ⟨b.toNat, by omega⟩
    obtain ⟨e', rfl⟩ : ∃ e' : Nat, e = (e' : Int) := ⟨e.toNat, by omega⟩
    rw [Int.toNat_natCast, Int.toNat_natCast] at h1
    have hbe : b' ≤ e' := by omega
    have hen : e' ≤ L.length := by omega
    have m0 : (0 : Int) ≤ (b' : Int) := by omega
    have m1 : (b' : Int) ≤ (e' : Int) := by omega
    have hlen := Til.sg_len (L := L) (b := b') hen
    clear hc
    go_enter Tryz.func47, Tryz.ntmps47
    go_wp2_with (go_at_call 72; fail)
    refine i1.mono ?_
    rintro r w2 ⟨rfl, hw2⟩
    have d0 := (hw2.cell (p := ⟨w.heap.size, 0, none⟩) hlt).trans c0
    have d1 := (hw2.cell (p := ⟨w.heap.size, 1, none⟩) hlt).trans c1
    obtain ⟨a, c, r2, _, _, _, hA, hLc, hc9⟩ := (T1.out.below hw2).open
    have d2 : w2.cell? ⟨q, 1, none⟩ = some (.slice a L.length c) := by rw [cell_of_row _ _ _ _ _ _ r2]; rfl
    have B2 := hid (B1.out.trans (hw2.mono B1.out.size))
    have m2 : (e' : Int) ≤ (c : Int) := by omega
    have S0 : w2.cell? ⟨q, 1, none⟩ = some (.slice a L.length c) ∧ w2.cell? ⟨w.heap.size, 0, none⟩ = some (.int .i64 (b' : Int)) ∧ w2.cell? ⟨w.heap.size, 1, none⟩ = some (.int .i64 (e' : Int)) := ⟨d2, d0, d1⟩
    have hqlt := lt_of_heap r2
    have hglt : w.heap.size < w2.heap.size := Nat.lt_of_lt_of_le hlt hw2.size
    have hd : Below w2.heap.size w2 w2.drew := (Below.refl _ _).drew
    by_cases hcb : c = b'
    · have i3 := hash7_any _ (Til.sg L b' e') a 0 w2.drew (Nat.le_refl _) (by omega) (by omega) (by omega) (Til.sg_hs hHs _ _) (by
        have : Til.sg L b' e' = [] := List.eq_nil_of_length_eq_zero (by omega)
        rw [this]; exact At.nil _ _)
      rw [hlen, h1] at i3
      clear r2 hA h1 hlen T1 i1 hHs d0 d1 d2 c0 c1 B1 hw2
      generalize L.length = n at *
      obtain rfl : b' = c := hcb.symm
      go_wp2
      go_region_held3 (fun w' => w'.cell? ⟨q, 1, none⟩ = some (.slice a n b') ∧ w'.cell? ⟨w.heap.size, 0, none⟩ = some (.int .i64 (b' : Int)) ∧ w'.cell? ⟨w.heap.size, 1, none⟩ = some (.int .i64 (e' : Int))) (first | exact S0 | exact S3) ((go_at_call 73; refine i3.mono ?_; rintro r w3 ⟨rfl, hw3⟩; have S3 := s3_below (w := w2.drew) S0 hqlt hglt hw3))
      all_goals go_wp2
      all_goals go_ret2
      all_goals exact ⟨rfl, B2.out.trans ((hd.trans (hw3.mono hd.size)).mono B2.out.size)⟩
    · have i3 := hash7_any _ (Til.sg L b' e') (a.map (·.add b')) (c - b') w2.drew (Nat.le_refl _) (by omega) (by omega) (by omega) (Til.sg_hs hHs _ _) ((hA.map_sg hen).below hd (Nat.le_refl _))
      rw [hlen, h1] at i3
      clear r2 hA h1 hlen T1 i1 hHs d0 d1 d2 c0 c1 B1 hw2
      generalize L.length = n at *
      go_wp2
      go_region_held3 (fun w' => w'.cell? ⟨q, 1, none⟩ = some (.slice a n c) ∧ w'.cell? ⟨w.heap.size, 0, none⟩ = some (.int .i64 (b' : Int)) ∧ w'.cell? ⟨w.heap.size, 1, none⟩ = some (.int .i64 (e' : Int))) (first | exact S0 | exact S3) ((go_at_call 73; refine i3.mono ?_; rintro r w3 ⟨rfl, hw3⟩; have S3 := s3_below (w := w2.drew) S0 hqlt hglt hw3))
      all_goals go_wp2
      all_goals go_ret2
      all_goals exact ⟨rfl, B2.out.trans ((hd.trans (hw3.mono hd.size)).mono B2.out.size)⟩
end Go.Proofs.YtjcapdkibbjmiaaGreatDoor

namespace Go.Proofs.YtjcapdkibbjmiaaGreatDoor
open Go.RowKit Go.Shelf
namespace Chn
theorem ChI.set0 {w : World} {g : Nat} {a b : Value} (h : ChI w g a b) (v : Value) : ChI (w.setCell ⟨g, 0, none⟩ v) g v b := heap_setCell_same w g 0 _ _ _ h
theorem ChI.set1 {w : World} {g : Nat} {a b : Value} (h : ChI w g a b) (v : Value) : ChI (w.setCell ⟨g, 1, none⟩ v) g a v := heap_setCell_same w g 1 _ _ _ h
theorem append_intsC (w : World) (a : Addr) (cap : Nat) (L : List Nat) (m : Nat) (hm : Hid (L.length = m)) (hA : AtI w (some a) (ix L)) (hp : 0 < m) (hlen : m ≤ 1000000) :
    ∃ v' w', (Builtin.append_ #[23, 23] 23 #[.slice none 0 0, .slice (some a) m cap]).run Tryz.prog w = .ok v' w' ∧ OwnM 1 w' v' m (ivC L) ∧ Grow w w' (.slice none 0 0) v' := by
  obtain ⟨i0, hi, hz0, hz1, hz2⟩ := info_parts infoIC
  have hsrc : Src Tryz.prog 1 23 (.slice (some a) m cap) m (ivC L) w :=
    Src.ofSlice _ Tryz.underlying23 a m cap (ivC L) (by rw [ivC_len, hm.out, Nat.mul_one]) (fun j u hj => by
      simp only [ivC, List.getElem?_map, Option.map_eq_some_iff] at hj
      obtain ⟨p, hp, rfl⟩ := hj
      obtain ⟨y, hy, _, hc⟩ := hA j (p : Int) (by unfold ix; rw [List.getElem?_map, hp]; rfl)
      obtain rfl := Option.some.inj hy
      exact hc) (fun u hu => by obtain ⟨p, _, rfl⟩ := List.mem_map.1 hu; rfl)
  obtain ⟨v', w', hap, hO, hG⟩ := run_append_M (P := Tryz.prog) _ 23 23 23 3 i0 (.int .i64 0) Tryz.underlying23 hi hz0 hz1 rfl _ 0 [] (OwnM.nil 1 _) _ m (ivC L) hsrc
    (by rw [hz2]; omega) (by rw [maxLen]; omega) (fun _ => by omega)
  rw [Nat.zero_add, List.nil_append] at hO
  exact ⟨v', w', hap, hO, hG⟩
set_option maxRecDepth 100000 in
set_option maxHeartbeats 4000000 in
theorem rProve_no (cs : List Int) (m : Nat) (hm : Hid (cs.length = m)) (q : Nat) (a : Option Addr) (cap : Nat) (w : World) (hA : AtI w a cs) (lc : m ≤ 9223372036854775807) (hb : mayB cs = false) :
    Calls Tryz.prog 18 #[.pointer (some ⟨q, 0, none⟩), .slice a m cap] w fun r w' => r = .returned (.tuple #[ch (.slice none 0 0) (.slice none 0 0), .int .i64 130]) ∧ Below w.heap.size w w' := by
  have b0 := (Below.refl w.heap.size w).alloc (Nat.le_refl _) (.cells #[.slice none 0 0, .slice none 0 0] 45)
  have s0 := ChI.new w (.slice none 0 0) (.slice none 0 0)
  have i1 := rHeads_any cs m hm a cap _ lc (hA.below b0 (Nat.le_refl _))
  rw [hb] at i1
  have B0 := hid b0
  have S0 := hid s0
  clear b0 s0 hA
  go_enter Tryz.func18, Tryz.ntmps18
  go_wp2_with (go_at_call 26; refine i1.mono ?_; rintro r w1 ⟨rfl, b1⟩; have B1 := hid (B0.out.trans (b1.mono B0.out.size)); have S1 := hid (S0.out.below b1); clear b1)
  go_quiet (fail)
  have B2 : Hid (Below w.heap.size w (w1.drewN nq)) := ⟨B1.out.os, B1.out.tape, B1.out.output, B1.out.size, B1.out.block⟩
  have S2 : Hid (ChI (w1.drewN nq) w.heap.size (.slice none 0 0) (.slice none 0 0)) := S1.out
  generalize w1.drewN nq = w2 at *
  have k0 := S2.out.c0
  have k1 := S2.out.c1
  have l0 := frozen_of_row _ _ 0 _ _ S2.out
  have l1 := frozen_of_row _ _ 1 _ _ S2.out
  go_wp2
  have R8 := heap_setCell_same _ w.heap.size 1 _ _ (.slice none 0 0) (heap_setCell_same w2 w.heap.size 0 _ _ (.slice none 0 0) S2.out)
  have k9 : Keep (fun i => i = w.heap.size) w2 ((w2.setCell ⟨w.heap.size, 0, none⟩ (.slice none 0 0)).setCell ⟨w.heap.size, 1, none⟩ (.slice none 0 0)) := (Keep.ofSet (S := fun i => i = w.heap.size) w2 w.heap.size 0 (.slice none 0 0) rfl).trans (Keep.ofSet (S := fun i => i = w.heap.size) _ w.heap.size 1 (.slice none 0 0) rfl) fun _ _ e => e
  exact bodyPost_ret (results_rowC_tmp rfl _ _ w.heap.size 45 _ (0, 0) _ rfl R8 Tryz.underlying45 rfl (sizeCh _ _)) rfl ⟨rfl, B2.out.trans (keep_belowC k9 B2.out.size (fun i e => by omega))⟩
set_option maxRecDepth 100000 in
set_option maxHeartbeats 4000000 in
theorem rProve_over (hs : List Nat) (HH : Hds hs) (m : Nat) (hm : Hid (hs.length = m)) {w : World} {q h : Nat} {L : List (List UInt8)} {F : Nat → Prop} (t : RtL w q h L F) (hl : L.length < hs.getD (m - 1) 0) (a : Option Addr) (cap : Nat) (hA : AtI w a (ix hs)) :
    Calls Tryz.prog 18 #[.pointer (some ⟨q, 0, none⟩), .slice a m cap] w fun r w' => r = .returned (.tuple #[ch (.slice none 0 0) (.slice none 0 0), .int .i64 130]) ∧ Below w.heap.size w w' := by
  have lm : m ≤ 64 := by rw [← hm.out]; exact HH.le
  have lm1 : 1 ≤ m := by rw [← hm.out]; exact HH.ne
  obtain ⟨M, hM⟩ : ∃ M, m = M + 1 := ⟨m - 1, by omega⟩
  have hM1 : m - 1 = M := by omega
  rw [hM1] at hl
  obtain ⟨x, rfl, _, _⟩ := hA M _ (ix_at (by rw [hm.out]; omega))
  have b0 := (Below.refl w.heap.size w).alloc (Nat.le_refl _) (.cells #[.slice none 0 0, .slice none 0 0] 45)
  have s0 := ChI.new w (.slice none 0 0) (.slice none 0 0)
  have hxl := hid (show (ix hs).length = m by rw [← hm.out]; simp [ix])
  have i1 := rHeads_any (ix hs) m hxl (some x) cap _ (by omega) (hA.below b0 (Nat.le_refl _))
  rw [hds_mayB HH] at i1
  have fact : ∀ w', Below w.heap.size w w' → w'.cell? (x.add M) = some (.int .i64 (hs.getD M 0 : Int)) := fun w' bb => by
    obtain ⟨y, hy, _, h0⟩ := (hA.below bb (Nat.le_refl _)) M _ (ix_at (by rw [hm.out]; omega))
    obtain rfl := Option.some.inj hy
    exact h0
  have HF := hid fact
  have i2 := hid (fun w' (bb : Below w.heap.size w w') => rSizeL (t.below bb))
  generalize hs.getD M 0 = z at *
  have z1 : (L.length : Int) < (z : Int) := by omega
  have z2 : decide (L.length < z) = true := decide_eq_true hl
  have v1 : IntKind.i64.wrap ((m : Int) - 1) = (M : Int) := by rw [IntKind.wrap_i64]; omega
  have v3 : (0 : Int) ≤ (M : Int) := by omega
  have v4 : (M : Int) < (m : Int) := by omega
  clear hM hM1
  have B0 := hid b0
  have S0 := hid s0
  generalize hLL : L.length = ll at *
  clear hA b0 s0 t fact hl hLL
  go_enter Tryz.func18, Tryz.ntmps18
  go_wp2_with (go_at_call 26; refine i1.mono ?_; rintro r w1 ⟨rfl, b1⟩; have B1 := hid (B0.out.trans (b1.mono B0.out.size)); have S1 := hid (S0.out.below b1); have x1 := HF.out _ B1.out; clear b1)
  go_quiet (first | (go_at_call 46; refine Calls.quiet_of_same (i2.out _ ?_); exact ⟨B1.out.os, B1.out.tape, B1.out.output, B1.out.size, B1.out.block⟩))
  have B2 : Hid (Below w.heap.size w (w1.drewN nq)) := ⟨B1.out.os, B1.out.tape, B1.out.output, B1.out.size, B1.out.block⟩
  have S2 : Hid (ChI (w1.drewN nq) w.heap.size (.slice none 0 0) (.slice none 0 0)) := S1.out
  generalize w1.drewN nq = w2 at *
  have k0 := S2.out.c0
  have k1 := S2.out.c1
  have l0 := frozen_of_row _ _ 0 _ _ S2.out
  have l1 := frozen_of_row _ _ 1 _ _ S2.out
  clear x1 HF i1 i2
  go_wp2
  have R8 := heap_setCell_same _ w.heap.size 1 _ _ (.slice none 0 0) (heap_setCell_same w2 w.heap.size 0 _ _ (.slice none 0 0) S2.out)
  have k9 : Keep (fun i => i = w.heap.size) w2 ((w2.setCell ⟨w.heap.size, 0, none⟩ (.slice none 0 0)).setCell ⟨w.heap.size, 1, none⟩ (.slice none 0 0)) := (Keep.ofSet (S := fun i => i = w.heap.size) w2 w.heap.size 0 (.slice none 0 0) rfl).trans (Keep.ofSet (S := fun i => i = w.heap.size) _ w.heap.size 1 (.slice none 0 0) rfl) fun _ _ e => e
  exact bodyPost_ret (results_rowC_tmp rfl _ _ w.heap.size 45 _ (0, 0) _ rfl R8 Tryz.underlying45 rfl (sizeCh _ _)) rfl ⟨rfl, B2.out.trans (keep_belowC k9 B2.out.size (fun i e => by omega))⟩
end Chn
end Go.Proofs.YtjcapdkibbjmiaaGreatDoor
