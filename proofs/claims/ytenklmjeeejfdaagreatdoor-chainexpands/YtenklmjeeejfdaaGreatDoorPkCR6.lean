import Derived.Test.YtenklmjeeejfdaaGreatDoorPkTL34
import Derived.Test.YtenklmjeeejfdaaGreatDoorPkI4
import Derived.Test.YtenklmjeeejfdaaGreatDoorPkI10
/- Layer 13, the document: Expand (written by genCR6.py) -/
namespace Go.Proofs.YtenklmjeeejfdaaGreatDoor
open Go.RowKit Go.Shelf
namespace Chn
def kx (hs : List Nat) (J q : Nat) : List (Nat × Nat) := tells (tol hs J) ((prf (hs.getD J 0) (hs.getD (J + 1) 0)).take q)
theorem kx_all (hs : List Nat) (J : Nat) : kx hs J (prf (hs.getD J 0) (hs.getD (J + 1) 0)).length = tol hs (J + 1) := by
  unfold kx
  rw [List.take_length]
  rfl
theorem kx_pre (hs : List Nat) {J : Nat} (hJ : J + 1 < hs.length) (q : Nat) : ∃ E, told hs = kx hs J q ++ E := by
  obtain ⟨E1, e1⟩ := tells_pre ((prf (hs.getD J 0) (hs.getD (J + 1) 0)).drop q) (kx hs J q)
  have e2 : tol hs (J + 1) = kx hs J q ++ E1 := by
    rw [← e1, ← kx_all]
    unfold kx tells
    rw [List.take_length, ← List.foldl_append, List.take_append_drop]
  obtain ⟨E2, e3⟩ := tol_pre hs (J + 1) (hs.length - 1 - (J + 1))
  rw [show J + 1 + (hs.length - 1 - (J + 1)) = hs.length - 1 by omega, e2] at e3
  exact ⟨E1 ++ E2, by unfold told; rw [e3, List.append_assoc]⟩
theorem kx_val {hs : List Nat} (HH : Hds hs) {H : List (List UInt8)} (hl : H.length = (told hs).length) (hq : hsB8 H = true) {J q : Nat} (hJ : J + 1 < hs.length) {s : Nat × Nat} (hs' : (prf (hs.getD J 0) (hs.getD (J + 1) 0))[q]? = some s) :
    foldA (hs.getD (J + 1) 0 : Int) (pmC (kx hs J (q + 1))) (H.take (kx hs J (q + 1)).length) (s.1 : Int) (s.2 : Int) = (⟨(fld (told hs) H s).toArray⟩, 0) := by
  have pr := HH.pair hJ
  have hm := List.mem_of_getElem? hs'
  have hlo := prf_lo pr.1 (Nat.le_of_lt pr.2.1) s hm
  obtain ⟨E, hE⟩ := kx_pre hs hJ (q + 1)
  have hn : kx hs J (q + 1) = tell (kx hs J q) s := tells_next hs'
  have hc : can (kx hs J (q + 1)) s = true := by rw [hn]; exact tell_can hlo.1
  have hkl : (kx hs J (q + 1)).length ≤ (told hs).length := by rw [hE, List.length_append]; omega
  have hlen : (kx hs J (q + 1)).length = (H.take (kx hs J (q + 1)).length).length := by rw [List.length_take]; omega
  have h4 : (told hs).length ≤ 2583 := tol_few HH (by have := HH.ne; omega)
  have hh : hsB8 (H.take (kx hs J (q + 1)).length) = true := by
    unfold hsB8 at hq ⊢
    rw [List.all_eq_true] at hq ⊢
    exact fun x hx => hq x (List.mem_of_mem_take hx)
  have hin : Tree.insF (hs.getD (J + 1) 0) 0 (hs.getD (J + 1) 0) s.1 s.2 = true := prf_ins (hs.getD (J + 1) 0) 0 (hs.getD (J + 1) 0) (hs.getD J 0) (Nat.le_refl _) (by omega) (by omega) (by omega) s hm
  rw [foldA_can (n := hs.getD (J + 1) 0) (by omega) pr.2.2 hin hlen (by omega) hh hc]
  rw [show ((s.1, s.2) : Nat × Nat) = s from rfl, fld_then hl.symm (tol_tld hs _) (fun t ht => (tol_lo HH (i := hs.length - 1) (by have := HH.ne; omega) t ht).1) hE hlo.1 hc]
theorem atQ_pre {w : World} {a : Option Addr} {l l' : List (Int × Int)} (h : AtQ w a (l ++ l')) : AtQ w a l := fun j q hq => h j q (by rw [List.getElem?_append_left (List.getElem?_eq_some_iff.1 hq).1]; exact hq)
theorem at_take {w : World} {a : Option Addr} {l : List (List UInt8)} (h : At w a l) (n : Nat) : At w a (l.take n) := fun j x hx => h j x (by
  rw [List.getElem?_take] at hx
  split at hx
  · exact hx
  · cases hx)
theorem rFolds14 {w : World} {a : Option Addr} {c n : Nat} {K : List (Nat × Nat)} (hn : K.length = n) (ln : n ≤ 1000000) (hA' : AtQ w a (pmC K)) {x y : Nat} (hxy : x < y) (hy : y ≤ 1099511627776) :
    Calls Tryz.prog 49 #[.slice a n c, sg x y] w fun r w' => r = .returned (.bool (can K (x, y))) ∧ Below w.heap.size w w' := by
  have hl : K.length = (List.replicate K.length ([] : List UInt8)).length := by simp
  have hb : (pmC K).length = (bas (List.replicate K.length ([] : List UInt8))).length := by simp [pmC, bas]
  have e := ksp_prd (pmC K) (bas (List.replicate K.length ([] : List UInt8))) hb
  have hA : AtQ w a (ksp (prd (pmC K) (bas (List.replicate K.length ([] : List UInt8))))) := by rw [e]; exact hA'
  have hlen : (ksp (prd (pmC K) (bas (List.replicate K.length ([] : List UInt8))))).length = n := by rw [e]; simp [pmC]; exact hn
  have := rFolds8_any (K := prd (pmC K) (bas (List.replicate K.length ([] : List UInt8)))) (a := a) (c := c) (by rw [hlen]; omega) (y - x) x (y - x) w (Nat.le_refl _) (by omega) (by omega) hA
  rw [fdB_can hl (y - x) x (y - x) (Nat.le_refl _) (by omega), hlen, show x + (y - x) = y by omega] at this
  exact this
theorem rFold14 {w : World} {n : Nat} {K : List (Nat × Nat)} {H : List (List UInt8)} {a ah : Option Addr} {c chp k : Nat} {y : List UInt8} {s t : Nat} (hk : K.length = k) (hl : k ≤ H.length) (lk : k ≤ 1000000) (hA : AtQ w a (pmC K)) (hH : At w ah H) (e : foldA (n : Int) (pmC K) (H.take K.length) (s : Int) (t : Int) = (⟨y.toArray⟩, 0)) :
    Calls Tryz.prog 50 #[.int .i64 (n : Int), .slice a k c, .slice ah k chp, sg s t] w fun r w' => r = .returned (.tuple #[.string ⟨y.toArray⟩, .int .i64 0]) ∧ Below w.heap.size w w' := by
  have l1 : (pmC K).length = k := by simp [pmC]; exact hk
  have l2 : (H.take K.length).length = k := by rw [List.length_take, hk]; omega
  have h := rFold8_any (n : Int) (pmC K) (H.take K.length) (s : Int) (t : Int) a ah c chp w (by rw [l1]; omega) (by rw [l2]; omega) hA (at_take hH _)
  rw [e, l1, l2] at h
  exact h
set_option maxRecDepth 100000 in
set_option maxHeartbeats 8000000 in
theorem rExpand_ok (hs : List Nat) (HH : Hds hs) (H : List (List UInt8)) (m k : Nat) (hm : Hid (hs.length = m)) (hk : Hid (H.length = k)) (HT : Hid ((told hs).length = k)) (ac ah : Option Addr) (cc chp : Nat) (w : World) (hA : AtI w ac (ix hs)) (hAh : At w ah H) (hq : hsB8 H = true) (qh1 : k ≤ chp) (qh2 : chp ≤ 9223372036854775807) :
    Calls Tryz.prog 24 #[ch (.slice ac m cc) (.slice ah k chp)] w fun r w' => ∃ v, r = .returned (.tuple #[v, .int .i64 0]) ∧ LL w.heap.size w' v (exL hs H) ∧ Below w.heap.size w w' := by
  have lm : m ≤ 64 := by rw [← hm.out]; exact HH.le
  have lm1 : 1 ≤ m := by rw [← hm.out]; exact HH.ne
  have lk : k ≤ 2583 := by rw [← HT.out]; exact tol_few HH (by have := HH.ne; omega)
  have b0 := (Below.refl w.heap.size w).alloc (Nat.le_refl _) (.cells #[.slice ac m cc, .slice ah k chp] 25)
  have s0 := ChI.new w (.slice ac m cc) (.slice ah k chp)
  have hxl := hid (show (ix hs).length = m by rw [← hm.out]; simp [ix])
  have i1 := rHeads_any (ix hs) m hxl ac cc _ (by omega) (hA.below b0 (Nat.le_refl _))
  rw [hds_mayB HH] at i1
  have i2 := hid (fun w' (bb : Below w.heap.size w w') => rspans_any hs HH m hm ac cc w' (hA.below bb (Nat.le_refl _)))
  have i3 := hid (fun w' (bb : Below w.heap.size w w') => rhashes13_is H true hq ah chp w' (by rw [hk.out]; omega) (hAh.below bb (Nat.le_refl _)))
  unfold Hid at i3
  rw [hk.out] at i3
  have i3 := hid i3
  obtain ⟨x, rfl⟩ := hA.pos (by simp [ix]; rw [hm.out]; omega)
  have AI := hid (fun w' (bb : Below w.heap.size w w') => hA.below bb (Nat.le_refl _))
  have AH := hid (fun w' (bb : Below w.heap.size w w') => hAh.below bb (Nat.le_refl _))
  have HQ := hid hq
  have HHH := hid HH
  have x0 := s0.c0
  have x1 := s0.c1
  have S0 := hid s0
  have B0 := hid b0
  clear b0 s0 hA hAh hq HH
  go_enter Tryz.func24, Tryz.ntmps24
  go_wp2_with (first
    | (go_at_call 20; refine i1.mono ?_; rintro r w1 ⟨rfl, b1⟩; have B1 := hid (B0.out.trans (b1.mono B0.out.size)); have S1 := hid (S0.out.below b1); have i2' := i2.out _ B1.out; have y0 := S1.out.c0; have y1 := S1.out.c1; clear b1)
    | (go_at_call 30; fail))
  refine i2'.mono ?_
  rintro r w2 ⟨v2, rfl, R2⟩
  have S2 := hid (S1.out.below R2.bel)
  have B2 := hid (B1.out.trans (R2.bel.mono B1.out.size))
  obtain ⟨a2, c2, hv2, g2, g3⟩ := OwnM.shape R2.own
  rw [HT.out] at hv2 g2
  subst hv2
  have z0 := S2.out.c0
  have z1 := S2.out.c1
  have i3' := i3.out _ B2.out
  have Q2 : Hid (AtQ w2 a2 (pmC (told hs))) := (OwnP.atP (n := k) R2.own).q
  clear i2 i2' R2 S1 S0 x0 x1 y0 y1 B0 B1 i1 i3
  have hne : ((k : Int) != (k : Int)) = false := by simp
  have hee : ((k : Int) == (k : Int)) = true := by simp
  go_wp2_with (go_at_call 47; refine i3'.mono ?_; rintro r w3 ⟨rfl, h3⟩; have h3 := h3.symm; subst h3)
  clear i3' z0 z1 hne hee
  have lW := hid B2.out.size
  have lX : Hid (w.heap.size < w2.heap.size) := lt_of_heap S2.out
  go_loopw [6, 7, 8, 9, 10, 11, 12, 13, 14, 15] (fun v n i _ _ _ _ _ _ _ w' => ∃ J j : Nat, J ≤ m - 1 ∧ Hid (j = J + 1) ∧ i = .int .i64 (j : Int) ∧ n = .int .i64 ((tol hs J).length : Int) ∧ Hid (LL w2.heap.size w' v ((List.range J).map (exP hs H))) ∧ Hid (Below w2.heap.size w2 w')) (fun _ _ i _ _ _ _ _ _ _ _ => m - (intOf i).toNat)
  case atStart => exact ⟨0, 1, by omega, rfl, rfl, rfl, LL.nil w2, Below.refl _ _⟩
  case round =>
    obtain ⟨J, j, hJ, hj, rfl, rfl, hL0, hB⟩ := hrel
    have BW := hid (B2.out.trans (hB.out.mono B2.out.size))
    have C := S2.out.below hB.out
    have z0 := C.c0
    have z1 := C.c1
    by_cases hjm : J < m - 1
    · have b0 : (j : Int) < (m : Int) := by have := hj.out; omega
      have hj1 : J + 1 < hs.length := by rw [hm.out]; omega
      have hj0 : J < hs.length := by omega
      have pr := HHH.out.pair hj1
      have i1 := fun w' => rProof8_ok (hs.getD (J + 1) 0) (hs.getD J 0) pr.1 pr.2.1 pr.2.2 w'
      rw [show Tree.prfF (hs.getD (J + 1) 0) 0 (hs.getD (J + 1) 0) (hs.getD J 0) = prf (hs.getD J 0) (hs.getD (J + 1) 0) from rfl] at i1
      have fact : ∀ w', Below w2.heap.size w2 w' → w'.cell? ⟨w.heap.size, 0, none⟩ = some (.slice (some x) m cc) ∧ w'.cell? ⟨w.heap.size, 1, none⟩ = some (.slice ah k chp) ∧ w'.cell? (x.add J) = some (.int .i64 (hs.getD J 0 : Int)) ∧ w'.cell? (x.add j) = some (.int .i64 (hs.getD (J + 1) 0 : Int)) := fun w' h => by
        have h' := AI.out w' (B2.out.trans (h.mono B2.out.size))
        have C' := S2.out.below h
        obtain ⟨y, hy, _, h0⟩ := h' J _ (ix_at hj0)
        obtain ⟨z, hz, _, h1⟩ := h' (J + 1) _ (ix_at hj1)
        obtain rfl := Option.some.inj hy
        obtain rfl := Option.some.inj hz
        rw [hj.out]
        exact ⟨C'.c0, C'.c1, h0, h1⟩
      have x0 := fact _ hB.out
      have hlo := prf_lo pr.1 (Nat.le_of_lt pr.2.1)
      have hln := prf_len pr.1 (Nat.le_of_lt pr.2.1) pr.2.2
      have k0 : kx hs J 0 = tol hs J := rfl
      have kN := hid (kx_all hs J)
      have kp := hid (fun q => kx_pre hs hj1 q)
      have kn : Hid (∀ (q : Nat) (s : Nat × Nat), (prf (hs.getD J 0) (hs.getD (J + 1) 0))[q]? = some s → kx hs J (q + 1) = tell (kx hs J q) s) := fun q s h => tells_next h
      have kv := hid (fun (q : Nat) (s : Nat × Nat) (h : (prf (hs.getD J 0) (hs.getD (J + 1) 0))[q]? = some s) => kx_val HHH.out (hk.out.trans HT.out.symm) HQ.out hj1 h)
      have hex : Hid (exP hs H J = (prf (hs.getD J 0) (hs.getD (J + 1) 0)).map (fld (told hs) H)) := rfl
      have p3 := pr.2.2
      have kl : Hid (∀ q, (kx hs J q).length ≤ k) := fun q => by
        obtain ⟨E, hE⟩ := kx_pre hs hj1 q
        rw [← HT.out, hE, List.length_append]; omega
      rw [← k0]
      clear k0
      generalize hs.getD J 0 = A at *
      generalize hs.getD (J + 1) 0 = B at *
      generalize prf A B = L at *
      generalize kx hs J = kf at *
      have HF := hid fact
      have HL := hid hlo
      have v1 : IntKind.i64.wrap ((j : Int) - 1) = (J : Int) := by rw [IntKind.wrap_i64]; have := hj.out; omega
      have v3 : (0 : Int) ≤ (J : Int) := by omega
      have v4 : (J : Int) < (m : Int) := by omega
      have v6 : (0 : Int) ≤ (j : Int) := by omega
      clear fact pr hlo
      go_wp2
      go_region_held3 (fun w' => w'.cell? ⟨w.heap.size, 0, none⟩ = some (.slice (some x) m cc) ∧ w'.cell? ⟨w.heap.size, 1, none⟩ = some (.slice ah k chp) ∧ w'.cell? (x.add J) = some (.int .i64 (A : Int)) ∧ w'.cell? (x.add j) = some (.int .i64 (B : Int))) (first | exact x1 | exact x0) (first | (go_at_call 48; refine (i1 _).mono ?_; rintro r w1 ⟨b1, vL, rfl, OL, hvL⟩; have b1 := drewBelow8 b1; have BL := hid (hB.out.trans (b1.mono hB.out.size)); have x1 := HF.out _ BL.out; have L1 := hid (hL0.out.below b1); have BS1 := hid OL; obtain ⟨la, lc, rfl, _, _⟩ := OL.shape; clear OL hvL b1))
      clear x0 x1 hL0 z0 z1 C hB BW i1
      obtain ⟨nl, hnl⟩ : ∃ nl, L.length = nl := ⟨_, rfl⟩
      have HNL := hid hnl
      rw [hnl] at hln ⊢
      have BS1 : Hid (OwnP w1 (.slice la nl lc) L) := by have := BS1.out; unfold Hid; unfold OwnP at this ⊢; rw [hnl] at this ⊢; exact this
      clear hnl
      have KL0 := kl.out 0
      go_wp2
      go_loopw [7, 11, 12, 13, 14, 15] (fun n p i _ _ _ w' => ∃ q : Nat, q ≤ nl ∧ i = .int .i64 (q : Int) ∧ n = .int .i64 ((kf q).length : Int) ∧ Hid (Own w' w1.heap.size p (svs ((L.take q).map (fld (told hs) H)))) ∧ Hid (Below w1.heap.size w1 w')) (fun _ _ i _ _ _ _ => nl - (intOf i).toNat)
      case atStart => exact ⟨0, by omega, rfl, rfl, Own.nil _ _, Below.refl _ _⟩
      case round =>
        obtain ⟨q, hqn, rfl, rfl, hO, hBI⟩ := hrel
        by_cases hql : q < nl
        · have e0 : (q : Int) < (nl : Int) := by omega
          have e1 : (0 : Int) ≤ (q : Int) := by omega
          have hqL : q < L.length := by rw [HNL.out]; exact hql
          obtain ⟨⟨sx, sy⟩, hs'⟩ : ∃ s, L[q]? = some s := ⟨_, List.getElem?_eq_getElem hqL⟩
          have hss := HL.out _ (List.mem_of_getElem? hs')
          have hsx : sx < sy := hss.1
          have hsy : sy ≤ 1099511627776 := by have : sy ≤ B := hss.2; omega
          obtain ⟨g, hg0, hg, c0, c1⟩ := ownP_atC BS1.out hs'
          subst hg0
          have fct : ∀ w', Below w1.heap.size w1 w' → w'.cell? ⟨w.heap.size, 0, none⟩ = some (.slice (some x) m cc) ∧ w'.cell? ⟨w.heap.size, 1, none⟩ = some (.slice ah k chp) ∧ w'.cell? (x.add j) = some (.int .i64 (B : Int)) ∧ w'.cell? ⟨g, q * 2, none⟩ = some (.int .i64 (sx : Int)) ∧ w'.cell? ⟨g, q * 2 + 1, none⟩ = some (.int .i64 (sy : Int)) := fun w' h => by
            obtain ⟨f0, f1, _, f3⟩ := HF.out _ (BL.out.trans (h.mono BL.out.size))
            exact ⟨f0, f1, f3, (h.cell (p := ⟨g, q * 2, none⟩) hg).trans c0, (h.cell (p := ⟨g, q * 2 + 1, none⟩) hg).trans c1⟩
          have nx := kn.out q (sx, sy) hs'
          have vx := kv.out q (sx, sy) hs'
          have hst := hid (show (L.take (q + 1)).map (fld (told hs) H) = (L.take q).map (fld (told hs) H) ++ [fld (told hs) H (sx, sy)] by rw [List.take_add_one, hs', List.map_append]; rfl)
          have hlen : ((L.take q).map (fld (told hs) H)).length ≤ 2000000 := by rw [List.length_map, List.length_take, HNL.out]; omega
          have AQ : ∀ w', Below w1.heap.size w1 w' → ∀ q, AtQ w' a2 (pmC (kf q)) := fun w' h q => by
            obtain ⟨E, hE⟩ := kp.out q
            have h2 := BL.out.trans (h.mono BL.out.size)
            have := Q2.out.below h2 (Nat.le_refl _)
            rw [hE, show pmC (kf q ++ E) = pmC (kf q) ++ pmC E by simp [pmC]] at this
            exact atQ_pre this
          have l1 := kl.out q
          have l2 := kl.out (q + 1)
          have iF := hid fun w' (h : Below w1.heap.size w1 w') => rFolds14 (c := c2) (n := (kf q).length) rfl (by omega) (AQ w' h q) hsx hsy
          have iV := hid fun w' (h : Below w1.heap.size w1 w') => rFold14 (n := B) (k := (kf (q + 1)).length) (c := c2) (chp := chp) (y := fld (told hs) H (sx, sy)) rfl (by rw [hk.out]; exact l2) (by omega) (AQ w' h (q + 1)) (AH.out w' (B2.out.trans ((BL.out.trans (h.mono BL.out.size)).mono B2.out.size))) vx
          generalize fld (told hs) H (sx, sy) = Y at *
          have y0 := fct _ hBI.out
          have HFC := hid fct
          obtain ⟨N0, hN0⟩ : ∃ N0, (kf q).length = N0 := ⟨_, rfl⟩
          obtain ⟨N1, hN1⟩ : ∃ N1, (kf (q + 1)).length = N1 := ⟨_, rfl⟩
          have hNN : N1 = if can (kf q) (sx, sy) = true then N0 else N0 + 1 := by
            rw [← hN1, nx, ← hN0]
            unfold tell
            split <;> simp
          generalize can (kf q) (sx, sy) = bc at *
          unfold Hid at iF iV
          rw [hN0] at iF l1
          rw [hN1] at iV l2
          have iF := hid iF
          have iV := hid iV
          rw [hN0]
          have HN1 := hid hN1
          have n0 : (0 : Int) ≤ (N0 : Int) := by omega
          have n1 : (0 : Int) ≤ (N1 : Int) := by omega
          have n2 : (N0 : Int) ≤ (c2 : Int) := by omega
          have n3 : (N1 : Int) ≤ (c2 : Int) := by omega
          have n4 : (N1 : Int) ≤ (chp : Int) := by omega
          clear fct AQ vx nx hN0 hN1 hss hs' c0 c1
          go_wp2
          go_region_held3 (fun w' => w'.cell? ⟨g, q * 2, none⟩ = some (.int .i64 (sx : Int)) ∧ w'.cell? ⟨g, q * 2 + 1, none⟩ = some (.int .i64 (sy : Int))) (first | exact y1.2.2.2 | exact y0.2.2.2) (first | (go_at_call 49; refine (iF.out _ hBI.out.drew).mono ?_; rintro r w4 ⟨rfl, b4⟩; have b4 := drewBelow8 b4; have B4 := hid (hBI.out.trans (b4.mono hBI.out.size)); have y1 := HFC.out _ B4.out; have O4 := hid (hO.out.below b4 (Nat.le_refl _)); clear b4))
          cases bc with
          | true =>
            have e5 : N1 = N0 := by rw [hNN, if_pos rfl]
            subst e5
            clear hNN
            go_wp2
            go_region_held3 (fun w' => w'.cell? ⟨w.heap.size, 0, none⟩ = some (.slice (some x) m cc) ∧ w'.cell? ⟨w.heap.size, 1, none⟩ = some (.slice ah k chp) ∧ w'.cell? (x.add j) = some (.int .i64 (B : Int)) ∧ w'.cell? ⟨g, q * 2, none⟩ = some (.int .i64 (sx : Int)) ∧ w'.cell? ⟨g, q * 2 + 1, none⟩ = some (.int .i64 (sy : Int))) (first | exact y2 | exact y1) (first | (go_at_call 50; refine (iV.out _ B4.out.drew).mono ?_; rintro r w5 ⟨rfl, b5⟩; have b5 := drewBelow8 b5; have B5 := hid (B4.out.trans (b5.mono B4.out.size)); have y2 := HFC.out _ B5.out; have O5 := hid (O4.out.below b5 (Nat.le_refl _)); clear b5))
            obtain ⟨v6, w6, hap, O6, b6⟩ := append_text w5 w1.heap.size u11 _ Y O5.out hlen B5.out.size
            rw [← hst.out] at O6
            have O6 := hid O6
            have B6 := hid (B5.out.trans b6)
            obtain ⟨a6, c6, hv6⟩ := Own.shape O6.out
            obtain ⟨nn, hnn⟩ : ∃ nn, (svs ((L.take (q + 1)).map (fld (told hs) H))).length = nn := ⟨_, rfl⟩
            rw [hnn] at hv6
            subst hv6
            clear hnn
            clear b6 O5 O4 hO B4 y0 y1 y2 hst iF iV
            rw [show sv Y = Value.string ⟨Y.toArray⟩ from rfl] at hap
            go_wp2_with (at_builtin; go_must (refine Lib.wpList_append_run _ rfl _ _ 23 23 rfl _ _ rfl rfl _ _ hap ?_))
            exact ⟨⟨q + 1, by omega, by go_num, by rw [HN1.out], O6, B6⟩, by simp [intOf]; omega⟩
          | false =>
            have e5 : N1 = N0 + 1 := by rw [hNN, if_neg (by simp)]
            have v9 : IntKind.i64.wrap ((N0 : Int) + 1) = (N1 : Int) := by rw [IntKind.wrap_i64]; omega
            clear hNN e5
            go_wp2
            go_region_held3 (fun w' => w'.cell? ⟨w.heap.size, 0, none⟩ = some (.slice (some x) m cc) ∧ w'.cell? ⟨w.heap.size, 1, none⟩ = some (.slice ah k chp) ∧ w'.cell? (x.add j) = some (.int .i64 (B : Int)) ∧ w'.cell? ⟨g, q * 2, none⟩ = some (.int .i64 (sx : Int)) ∧ w'.cell? ⟨g, q * 2 + 1, none⟩ = some (.int .i64 (sy : Int))) (first | exact y2 | exact y1) (first | (go_at_call 50; refine (iV.out _ B4.out.drew).mono ?_; rintro r w5 ⟨rfl, b5⟩; have b5 := drewBelow8 b5; have B5 := hid (B4.out.trans (b5.mono B4.out.size)); have y2 := HFC.out _ B5.out; have O5 := hid (O4.out.below b5 (Nat.le_refl _)); clear b5))
            obtain ⟨v6, w6, hap, O6, b6⟩ := append_text w5 w1.heap.size u11 _ Y O5.out hlen B5.out.size
            rw [← hst.out] at O6
            have O6 := hid O6
            have B6 := hid (B5.out.trans b6)
            obtain ⟨a6, c6, hv6⟩ := Own.shape O6.out
            obtain ⟨nn, hnn⟩ : ∃ nn, (svs ((L.take (q + 1)).map (fld (told hs) H))).length = nn := ⟨_, rfl⟩
            rw [hnn] at hv6
            subst hv6
            clear hnn
            clear b6 O5 O4 hO B4 y0 y1 y2 hst iF iV
            rw [show sv Y = Value.string ⟨Y.toArray⟩ from rfl] at hap
            go_wp2_with (at_builtin; go_must (refine Lib.wpList_append_run _ rfl _ _ 23 23 rfl _ _ rfl rfl _ _ hap ?_))
            exact ⟨⟨q + 1, by omega, by go_num, by rw [HN1.out], O6, B6⟩, by simp [intOf]; omega⟩
        · obtain rfl : q = nl := by omega
          have e0 : ¬ (q : Int) < (q : Int) := by omega
          obtain ⟨ow, gw⟩ := own_M1 hO.out
          have hlen : ((L.take q).map (fld (told hs) H)).length = q := by rw [List.length_map, List.length_take, HNL.out]; omega
          have hpe : (L.take q).map (fld (told hs) H) = exP hs H J := by rw [hex.out, ← HNL.out, List.take_length]
          have hsv : (svs ((L.take q).map (fld (told hs) H))).length = ((L.take q).map (fld (told hs) H)).length := by simp [svs]
          rw [hsv, hpe] at ow
          have L2 := L1.out
          obtain ⟨pn, hpn⟩ : ∃ pn, (exP hs H J).length = pn := ⟨_, rfl⟩
          obtain ⟨pa, pc, hpv, _, _⟩ := ow.shape
          rw [hpn] at hpv
          obtain ⟨v8, w8, hap, L8, G8⟩ := L2.push hBI.out ow gw (by rw [List.length_map, List.length_range]; omega) hpv
          have B8 : Hid (Below w2.heap.size w2 w8) := by
            obtain ⟨_, _, _, _, h3⟩ := L2
            have hb := BL.out.trans (hBI.out.mono BL.out.size)
            exact hb.trans (keep_belowC G8.keep hb.size fun k e => (h3 k e).1)
          have L8 : Hid (LL w2.heap.size w8 v8 ((List.range (J + 1)).map (exP hs H))) := by
            unfold Hid
            rw [List.range_succ, List.map_append]
            exact L8
          have hkq : Hid ((kf q).length = (tol hs (J + 1)).length) := by unfold Hid; rw [← kN.out, HNL.out]
          subst hpv
          clear ow gw hpe hsv hlen hpn G8 L2 hO hBI HF
          go_wp2_with (at_builtin; go_must (refine Lib.wpList_append_run _ rfl _ _ 28 28 rfl _ _ rfl rfl _ _ hap ?_))
          exact ⟨⟨J + 1, j + 1, by omega, by unfold Hid; rw [hj.out], by go_num, by rw [hkq.out], L8, B8⟩, by have := hj.out; simp [intOf]; omega⟩
    · have b0 : ¬ (j : Int) < (m : Int) := by have := hj.out; omega
      have hJm : J = m - 1 := by omega
      go_wp2
      go_ret2
      refine ⟨_, rfl, ?_, BW.out⟩
      have := hL0.out
      rw [hJm, ← hm.out] at this
      exact LL.mono this (Nat.le_of_lt lX.out)
end Chn
end Go.Proofs.YtenklmjeeejfdaaGreatDoor

namespace Go.Proofs.YtenklmjeeejfdaaGreatDoor
open Go.RowKit
set_option maxRecDepth 100000 in
set_option maxHeartbeats 400000 in
theorem r4hashes_any (l : List (List UInt8)) (a : Option Addr) (cap : Nat) (w : World) (hc : l.length ≤ 9223372036854775807) (hA : At w a l) :
    Calls Tryz.prog 96 #[.slice a l.length cap] w fun e w' => e = .returned (.bool (l.all (·.length == 32))) ∧ w' = w := by
  generalize hn : l.length = n at *
  have HA := hid hA
  obtain ⟨z, hz⟩ : ∃ z, Hid (l.all (·.length == 32) = z) := ⟨_, rfl⟩
  rw [hz.out]
  clear hA
  go_enter Tryz.func96, Tryz.ntmps96
  go_wp2
  go_loopw [3] (fun i w' => ∃ k : Nat, k ≤ n ∧ i = .int .i64 (k : Int) ∧ Hid ((l.take k).all (·.length == 32) = true) ∧ w' = w) (fun i _ => n - (intOf i).toNat)
  case atStart => exact ⟨0, by omega, rfl, rfl, rfl⟩
  case round =>
    obtain ⟨k, hk, rfl, hall, rfl⟩ := hrel
    by_cases hkn : k < n
    · have b0 : (k : Int) < (n : Int) := by omega
      obtain ⟨x, rfl⟩ := HA.out.pos (by omega)
      obtain ⟨s, hs, hcell⟩ := HA.out.cell k (by omega)
      by_cases h32 : s.size = 32
      · have b1 : ((s.size : Int) != 32) = false := by simp; omega
        have e2 := hid (all_take l k (by omega) hall.out (by rw [← hs.out, data_length]; exact h32))
        clear HA
        go_wp2
        exact ⟨⟨k + 1, by omega, by go_num, e2, trivial⟩, by simp [intOf]; omega⟩
      · have b1 : ((s.size : Int) != 32) = true := by simp; omega
        have e2 := hid (all_not l k (by omega) (by rw [← hs.out, data_length]; exact h32))
        clear HA
        go_wp2
        go_ret
        exact ⟨by rw [← hz.out, e2.out]; rfl, rfl⟩
    · obtain rfl : k = n := by omega
      have b0 : ¬ (k : Int) < (k : Int) := by omega
      rw [← hn, List.take_length] at hall
      go_wp2
      go_ret
      exact ⟨by rw [← hz.out, hall.out]; rfl, rfl⟩
set_option maxRecDepth 100000 in
set_option maxHeartbeats 2000000 in
theorem r4node_any {l r N : List UInt8} (h : Hid (Tree.nd l r = N)) (w : World) :
    Calls Tryz.prog 121 #[sv l, sv r] w fun e w' => e = .returned (sv N) ∧ Below w.heap.size w w' := by
  obtain ⟨m, d, hm⟩ : ∃ m d, Hid (nodeOf l r = (m, d)) := ⟨_, _, rfl⟩
  have e' := hid (show N = m by rw [← h.out, ← nodeOf_nd, hm.out])
  go_enter Tryz.func121, Tryz.ntmps121
  go_wp2_with (go_at_call 94; refine (rnode_at hm _).mono ?_; rintro e w1 ⟨rfl, hw1⟩)
  go_ret
  exact ⟨by rw [e'.out]; rfl, hw1⟩
theorem split_last {l : List (List UInt8)} {k : Nat} (h : l.length = k) (hk : 1 ≤ k) : ∃ q h', q + 1 = k ∧ l = l.take q ++ [h'] ∧ (l.take q).length = q ∧ l[q]? = some h' := by
  refine ⟨k - 1, l[k - 1]'(by omega), by omega, ?_, by rw [List.length_take]; omega, List.getElem?_eq_getElem (by omega)⟩
  have := List.take_append_getElem (l := l) (i := k - 1) (by omega)
  have e : l.take k = l := List.take_of_length_le (by omega)
  rw [show k - 1 + 1 = k from by omega, e] at this
  exact this.symm
theorem drewBelow {w w' : World} (h : Below w.drew.heap.size w.drew w') : Below w.heap.size w w' := (Below.refl w.heap.size w).drew.trans h
end Go.Proofs.YtenklmjeeejfdaaGreatDoor

namespace Go.Proofs.YtenklmjeeejfdaaGreatDoor
open Go.RowKit
theorem append_textG (w : World) (base : Nat) (v : Value) (L : List (List UInt8)) (p : List UInt8) (hown : Own w base v (svs L)) (hlen : L.length + 1 ≤ 8796093022208) (hbase : base ≤ w.heap.size) :
    ∃ v' w', (Builtin.append_ #[23, 23] 23 #[v, .slice (some ⟨w.heap.size, 0, none⟩) 1 1]).run Tryz.prog (w.alloc (.cells #[sv p] 9)) = .ok v' w' ∧ Own w' base v' (svs (L ++ [p])) ∧ Below base w w' := by
  obtain ⟨i0, hi, hz0, hz1, hz2⟩ := info_parts infoS
  have hsrc : Src Tryz.prog 1 23 (.slice (some ⟨w.heap.size, 0, none⟩) 1 1) 1 [sv p] (w.alloc (.cells #[sv p] 9)) :=
    Src.ofSlice _ Tryz.underlying23 ⟨w.heap.size, 0, none⟩ 1 1 [sv p] (by simp) (fun j u hj => by
      rw [Addr.add_mid, cell_of_row _ _ _ _ _ _ (heap_alloc_new w _), Nat.zero_add]; simpa using hj) (fun u hu => by simp at hu; subst hu; rfl)
  obtain ⟨v', w', h1, h2, h3, h4⟩ := run_append_O (P := Tryz.prog) (w.alloc (.cells #[sv p] 9)) base 23 23 23 9 i0 (.string ⟨#[]⟩) Tryz.underlying23 hi hz0 hz1 rfl v (svs L) (hown.alloc _) _ 1 [sv p] hsrc
    (by rw [svs_length, hz2]; omega) (by rw [svs_length, maxLen]; omega) (by rw [size_alloc]; omega) (fun _ => by omega)
  refine ⟨v', w', h1, by simpa [svs] using h2, ?_⟩
  exact ((Below.refl base w).alloc hbase _).trans (Below.ofGrown h3 hown.ge (by rw [size_alloc]; omega))
end Go.Proofs.YtenklmjeeejfdaaGreatDoor

namespace Go.Proofs.YtenklmjeeejfdaaGreatDoor
open Go.RowKit
theorem Tree.bth_len1 {P : List (List UInt8)} (h : P.length = 1) : ∃ x, P = [x] := by
  obtain ⟨x, hx⟩ := List.length_eq_one_iff.1 h
  exact ⟨x, hx⟩
set_option maxRecDepth 100000 in
set_option maxHeartbeats 600000 in
theorem rboth_any : ∀ (f m n : Nat) (whole : Bool) (old : List UInt8) (P : List (List UInt8)) (a : Option Addr) (cap : Nat) (w : World), n ≤ f → n ≤ 1099511627776 → 1 ≤ m → m ≤ n → P.length = Tree.pl m n whole → P.length ≤ cap → cap ≤ 9223372036854775807 → At w a P →
    Calls Tryz.prog 97 #[.int .i64 m, .int .i64 n, .bool whole, sv old, .slice a P.length cap] w fun e w' => e = .returned (.tuple #[sv (Tree.bth m n whole old P).1, sv (Tree.bth m n whole old P).2]) ∧ Below w.heap.size w w' := by
  intro f
  induction f with
  | zero => intro m n whole old P a cap w hf _ h1 h2; omega
  | succ f ih =>
    intro m n whole old P a cap w hf hn h1 h2 hlen hcap hc hA
    by_cases he : m = n
    · subst he
      rw [Tree.bth_same]
      rw [Tree.pl_same] at hlen
      have b0 : ((m : Int) == (m : Int)) = true := by simp
      clear ih
      cases whole
      · obtain ⟨x, rfl⟩ := Tree.bth_len1 hlen
        obtain ⟨y, rfl, hyb, hcell⟩ := hA 0 x rfl
        rw [addr_zero] at hcell
        show Calls _ _ #[_, _, _, _, .slice (some y) 1 cap] _ fun e w' => e = .returned (.tuple #[sv x, sv x]) ∧ _
        go_enter Tryz.func97, Tryz.ntmps97
        go_wp2
        go_quiet (fail)
        go_wp2
        go_ret2
        exact ⟨rfl, below_drewN (Below.refl _ _) _⟩
      · show Calls _ _ _ _ fun e w' => e = .returned (.tuple #[sv old, sv old]) ∧ _
        generalize P.length = pl at *
        clear hA
        go_enter Tryz.func97, Tryz.ntmps97
        go_wp2
        go_ret2
        exact ⟨rfl, Below.refl _ _⟩
    · have b0 : ((m : Int) == (n : Int)) = false := by simp; omega
      have k1 := Tree.sp_lt (n := n) (by omega)
      have k2 := Tree.sp_pos (n := n) (by omega)
      have hs := rsplit4_any n (by omega) (by omega)
      have pL := @Tree.pl_left m n h1 (by omega)
      have pR := @Tree.pl_right m n h1 (by omega)
      have bL := @Tree.bth_left m n h1 (by omega)
      have bR := @Tree.bth_right m n h1 (by omega)
      generalize Tree.sp n = k at *
      obtain ⟨kk, hkk⟩ : ∃ kk, P.length = kk := ⟨_, rfl⟩
      by_cases hmk : m ≤ k
      · have hpl := pL hmk whole
        obtain ⟨q, h, hq, hP, htl, hget⟩ := split_last hkk (by omega)
        have hq' : (P.take q).length = Tree.pl m k whole := by omega
        have i1 := fun w' (hA' : At w' a (P.take q)) => ih m k whole old (P.take q) a cap w' (by omega) (by omega) h1 hmk hq' (by omega) hc hA'
        rw [htl] at i1
        have e1 : Hid (Tree.bth m n whole old P = ((Tree.bth m k whole old (P.take q)).1, Tree.nd (Tree.bth m k whole old (P.take q)).2 h)) := by
          unfold Hid
          conv => lhs; rw [hP]
          exact bL hmk whole old (P.take q) h hq'
        generalize Tree.bth m n whole old P = X at *
        generalize Tree.bth m k whole old (P.take q) = Y at *
        obtain ⟨x, rfl, hxb, hcell⟩ := hA q h hget
        have A0 := hid (hA.take q)
        obtain ⟨N, hN⟩ : ∃ N, Hid (Tree.nd Y.2 h = N) := ⟨_, rfl⟩
        have e2 := hid (show X = (Y.1, N) by rw [e1.out, hN.out])
        have b1 : (m : Int) ≤ (k : Int) := by omega
        have f1 : (kk : Int) - 1 = (q : Int) := by omega
        have f2 : (q : Int) ≤ (cap : Int) := by omega
        have f3 : IntKind.i64.wrap (q : Int) = (q : Int) := wrap_small _ (by omega) (by omega)
        have f4 : (q : Int) < (kk : Int) := by omega
        have f5 : q ≤ cap := by omega
        rw [hkk] at hcap ⊢
        clear ih pL pR bL bR hpl hlen hget hP htl hA hkk hq hq' e1
        go_enter Tryz.func97, Tryz.ntmps97
        go_wp2_with (first
          | (go_at_call 120; refine (hs _).mono ?_; rintro e w1 ⟨rfl, rfl⟩)
          | (go_at_call 97; (with_reducible refine (i1 _ A0.out).mono ?_); rintro e w2 ⟨rfl, hw2⟩; have hcell2 := (hw2.cell (p := x.add q) (by rw [addr_block]; exact hxb)).trans hcell)
          | (go_at_call 121; (with_reducible refine (r4node_any hN _).mono ?_); rintro e w3 ⟨rfl, hw3⟩))
        go_ret2
        exact ⟨by rw [e2.out]; rfl, hw2.trans (hw3.mono hw2.size)⟩
      · have hpl := pR hmk whole
        obtain ⟨q, h, hq, hP, htl, hget⟩ := split_last hkk (by omega)
        have hq' : (P.take q).length = Tree.pl (m - k) (n - k) false := by omega
        have i1 := fun w' (hA' : At w' a (P.take q)) => ih (m - k) (n - k) false old (P.take q) a cap w' (by omega) (by omega) (by omega) (by omega) hq' (by omega) hc hA'
        rw [htl, show ((m - k : Nat) : Int) = (m : Int) - (k : Int) from by omega, show ((n - k : Nat) : Int) = (n : Int) - (k : Int) from by omega] at i1
        have e1 : Hid (Tree.bth m n whole old P = (Tree.nd h (Tree.bth (m - k) (n - k) false old (P.take q)).1, Tree.nd h (Tree.bth (m - k) (n - k) false old (P.take q)).2)) := by
          unfold Hid
          conv => lhs; rw [hP]
          exact bR hmk whole old (P.take q) h hq'
        generalize Tree.bth m n whole old P = X at *
        generalize Tree.bth (m - k) (n - k) false old (P.take q) = Y at *
        obtain ⟨x, rfl, hxb, hcell⟩ := hA q h hget
        have A0 := hid (hA.take q)
        obtain ⟨Y1, hY1⟩ : ∃ Y1, Y.1 = Y1 := ⟨_, rfl⟩
        obtain ⟨Y2, hY2⟩ : ∃ Y2, Y.2 = Y2 := ⟨_, rfl⟩
        rw [hY1, hY2] at e1 i1
        obtain ⟨N1, hN1⟩ : ∃ N, Hid (Tree.nd h Y1 = N) := ⟨_, rfl⟩
        obtain ⟨N2, hN2⟩ : ∃ N, Hid (Tree.nd h Y2 = N) := ⟨_, rfl⟩
        have e2 := hid (show X = (N1, N2) by rw [e1.out, hN1.out, hN2.out])
        have b1 : ¬ (m : Int) ≤ (k : Int) := by omega
        have g1 : IntKind.i64.wrap ((n : Int) - (k : Int)) = (n : Int) - (k : Int) := wrap_small _ (by omega) (by omega)
        have g2 : IntKind.i64.wrap ((m : Int) - (k : Int)) = (m : Int) - (k : Int) := wrap_small _ (by omega) (by omega)
        have f1 : (kk : Int) - 1 = (q : Int) := by omega
        have f2 : (q : Int) ≤ (cap : Int) := by omega
        have f3 : IntKind.i64.wrap (q : Int) = (q : Int) := wrap_small _ (by omega) (by omega)
        have f4 : (q : Int) < (kk : Int) := by omega
        have f5 : q ≤ cap := by omega
        rw [hkk] at hcap ⊢
        clear ih pL pR bL bR hpl hlen hget hP htl hA hkk hq hq' e1 hY1 hY2
        go_enter Tryz.func97, Tryz.ntmps97
        go_wp2_with (first
          | (go_at_call 120; refine (hs _).mono ?_; rintro e w1 ⟨rfl, rfl⟩)
          | (go_at_call 97; (with_reducible refine (i1 _ A0.out).mono ?_); rintro e w2 ⟨rfl, hw2⟩; have hcell2 := (hw2.cell (p := x.add q) (by rw [addr_block]; exact hxb)).trans hcell; have hxb2 := Nat.lt_of_lt_of_le hxb hw2.size))
        go_region_held3 (fun w' => w'.cell? (x.add q) = some (sv h)) (first | exact hcell4 | exact hcell3 | exact hcell2) (first
          | (go_at_call 121; (with_reducible refine (r4node_any hN1 w2.drew).mono ?_); rintro e w3 ⟨rfl, hw3'⟩; have hw3 := drewBelow hw3'; have hcell3 := (hw3.cell (p := x.add q) (by rw [addr_block]; exact hxb2)).trans hcell2)
          | (go_at_call 121; (with_reducible refine (r4node_any hN2 _).mono ?_); rintro e w4 ⟨rfl, hw4'⟩; have hw4 := hw3.trans (hw4'.mono hw3.size); have hcell4 := (hw4.cell (p := x.add q) (by rw [addr_block]; exact hxb2)).trans hcell2))
        go_wp2
        go_ret2
        exact ⟨by rw [e2.out]; rfl, hw2.trans (hw4.mono hw2.size)⟩
end Go.Proofs.YtenklmjeeejfdaaGreatDoor

namespace Go.Proofs.YtenklmjeeejfdaaGreatDoor
open Go.RowKit
set_option maxRecDepth 100000 in
set_option maxHeartbeats 600000 in
theorem rRootsOf_any (m n : Int) (old : List UInt8) (proof : List (List UInt8)) (a : Option Addr) (cap : Nat) (w : World) (hc : proof.length ≤ cap ∧ cap ≤ 9223372036854775807) (hA : At w a proof) :
    Calls Tryz.prog 77 #[.int .i64 m, .int .i64 n, sv old, .slice a proof.length cap] w fun e w' => e = .returned (.tuple #[sv (rootsOf4 m n old proof).1.1, sv (rootsOf4 m n old proof).1.2, .int .i64 (rootsOf4 m n old proof).2]) ∧ Below w.heap.size w w' := by
  obtain ⟨hlc, hc⟩ := hc
  have h1 := rProofLen_any m n w
  by_cases h : (prfLen m n).2 = 0
  · obtain ⟨a1, a2, a3, hl⟩ := prfLen_ok h
    have h2 := r4hashes_any proof a cap w (by omega) hA
    have hs := sv_size old
    by_cases hk : chk old proof (prfLen m n).1 = 0
    · have ho : rootsOf4 m n old proof = (Tree.bth m.toNat n.toNat true old proof, 0) := by rw [rootsOf4, if_pos h, if_pos hk]
      rw [ho]
      obtain ⟨hlen, hlf, hall⟩ := chk_len hk
      rw [hall] at h2
      rw [hl] at hlen h1
      simp only at hlen h1
      have h4 := rboth_any _ m.toNat n.toNat true old proof a cap w (Nat.le_refl _) (by omega) (by omega) (by omega) (by omega) hlc hc hA
      rw [Int.toNat_of_nonneg (show 0 ≤ m by omega), Int.toNat_of_nonneg (show 0 ≤ n by omega)] at h4
      generalize Tree.bth m.toNat n.toNat true old proof = X at *
      rw [hlf] at hs
      rw [show sv old = .string ⟨old.toArray⟩ from rfl] at h4 ⊢
      generalize ByteArray.mk old.toArray = LF at *
      have b0 : ((LF.size : Int) != 32) = false := by simp; omega
      generalize (Tree.pl m.toNat n.toNat true : Nat) = L at *
      obtain ⟨pl, hpl⟩ : ∃ pl, proof.length = pl := ⟨_, rfl⟩
      rw [hpl] at hlen h2 h4 hlc ⊢
      obtain rfl : pl = L := by omega
      have b1 : ((pl : Int) != (pl : Int)) = false := by simp
      clear hA hl hk h ho hlen hall hlf hpl
      go_enter Tryz.func77, Tryz.ntmps77
      go_wp2_with (first
        | (go_at_call 95; refine h1.mono ?_; rintro e w1 ⟨rfl, rfl⟩)
        | (go_at_call 96; refine h2.mono ?_; rintro e w2 ⟨rfl, rfl⟩)
        | (go_at_call 97; refine h4.mono ?_; rintro e w4 ⟨rfl, hw4⟩))
      go_ret3
      exact ⟨rfl, hw4⟩
    · have ho : rootsOf4 m n old proof = (([], []), chk old proof (prfLen m n).1) := by rw [rootsOf4, if_pos h, if_neg hk]
      rw [ho, svE]
      rw [hl] at h1 hk ⊢
      simp only at h1 hk ⊢
      generalize (Tree.pl m.toNat n.toNat true : Nat) = L at *
      unfold chk at hk ⊢
      by_cases h32 : old.length = 32 ∧ proof.all (·.length == 32) = true
      · rw [if_pos h32] at hk ⊢
        rw [h32.2] at h2
        have hne : ¬ ((proof.length : Nat) : Int) = (L : Int) := fun h => by rw [if_pos h] at hk; exact hk rfl
        rw [if_neg hne]
        rw [h32.1] at hs
        rw [show sv old = .string ⟨old.toArray⟩ from rfl]
        generalize ByteArray.mk old.toArray = LF at *
        have b0 : ((LF.size : Int) != 32) = false := by simp; omega
        generalize proof.length = pl at *
        have b1 : ((pl : Int) != (L : Int)) = true := by simp; omega
        clear hA hl ho h hk h32
        go_enter Tryz.func77, Tryz.ntmps77
        go_wp2_with (first
          | (go_at_call 95; refine h1.mono ?_; rintro e w1 ⟨rfl, rfl⟩)
          | (go_at_call 96; refine h2.mono ?_; rintro e w2 ⟨rfl, rfl⟩))
        go_ret3
        exact ⟨rfl, Below.refl _ _⟩
      · rw [if_neg h32]
        rw [show sv old = .string ⟨old.toArray⟩ from rfl]
        by_cases hlf : old.length = 32
        · have hall : proof.all (·.length == 32) = false := by
            cases hh : proof.all (·.length == 32)
            · rfl
            · exact absurd ⟨hlf, hh⟩ h32
          rw [hall] at h2
          rw [hlf] at hs
          generalize ByteArray.mk old.toArray = LF at *
          have b0 : ((LF.size : Int) != 32) = false := by simp; omega
          generalize proof.length = pl at *
          clear hA hl ho h hk h32
          go_enter Tryz.func77, Tryz.ntmps77
          go_wp2_with (first
            | (go_at_call 95; refine h1.mono ?_; rintro e w1 ⟨rfl, rfl⟩)
            | (go_at_call 96; refine h2.mono ?_; rintro e w2 ⟨rfl, rfl⟩))
          go_ret3
          exact ⟨rfl, Below.refl _ _⟩
        · generalize proof.all (·.length == 32) = bb at *
          generalize ByteArray.mk old.toArray = LF at *
          have b0 : ((LF.size : Int) != 32) = true := by simp; omega
          generalize proof.length = pl at *
          clear hA hl ho h hk h32
          go_enter Tryz.func77, Tryz.ntmps77
          go_wp2_with (first
            | (go_at_call 95; refine h1.mono ?_; rintro e w1 ⟨rfl, rfl⟩)
            | (go_at_call 96; refine h2.mono ?_; rintro e w2 ⟨rfl, rfl⟩))
          go_ret3
          exact ⟨rfl, Below.refl _ _⟩
  · have ho : rootsOf4 m n old proof = (([], []), (prfLen m n).2) := by rw [rootsOf4, if_neg h]
    rw [ho, svE]
    generalize (prfLen m n).1 = y at *
    generalize (prfLen m n).2 = z at *
    have b0 : (z != 0) = true := by simpa using h
    generalize proof.length = pl at *
    clear hA ho
    go_enter Tryz.func77, Tryz.ntmps77
    go_wp2_with (go_at_call 95; refine h1.mono ?_; rintro e w1 ⟨rfl, rfl⟩)
    go_ret3
    exact ⟨rfl, Below.refl _ _⟩
set_option maxRecDepth 100000 in
set_option maxHeartbeats 2000000 in
theorem rConsistency_any (m n : Int) (old now : List UInt8) (proof : List (List UInt8)) (a : Option Addr) (cap : Nat) (w : World) (hc : proof.length ≤ cap ∧ cap ≤ 9223372036854775807) (hA : At w a proof)  :
    Calls Tryz.prog 51 #[.int .i64 m, .int .i64 n, sv old, sv now, .slice a proof.length cap] w fun e w' => e = .returned (.int .i64 (conOf4 m n old now proof)) ∧ Below w.heap.size w w' := by
  have h1 := rRootsOf_any m n old proof a cap w hc hA 
  have hs := sv_size now
  unfold conOf4
  generalize rootsOf4 m n old proof = o at *
  obtain ⟨⟨x, y⟩, z⟩ := o
  simp only at h1 ⊢
  generalize proof.length = pl at *
  clear hA
  by_cases hz : z = 0
  · subst hz
    rw [if_pos rfl]
    by_cases h32 : now.length = 32
    · rw [if_pos h32]
      have i1 : ((((ByteArray.mk now.toArray).size : Nat) : Int) != 32) = false := by rw [hs]; simp [h32]
      by_cases hx : x = old
      · subst hx
        by_cases hy : y = now
        · subst hy
          rw [if_pos rfl]
          have e1 := str_eq x
          have e2 := str_eq y
          rw [show sv x = .string ⟨x.toArray⟩ from rfl] at h1 ⊢
          rw [show sv y = .string ⟨y.toArray⟩ from rfl] at h1 ⊢
          generalize ByteArray.mk x.toArray = R at *
          generalize ByteArray.mk y.toArray = R' at *
          go_enter Tryz.func51, Tryz.ntmps51
          go_wp2_with (first
            | (go_at_call 77; refine h1.mono ?_; rintro e w1 ⟨rfl, hw1⟩))
          go_ret
          exact ⟨rfl, hw1⟩
        · rw [if_neg (fun h => hy (congrArg Prod.snd h))]
          have e1 := str_eq x
          have e2 := str_ne hy
          have e3 := str_ne' hy
          have e4 := str_ne2 hy
          rw [show sv x = .string ⟨x.toArray⟩ from rfl] at h1 ⊢
          rw [show sv y = .string ⟨y.toArray⟩ from rfl] at h1
          rw [show sv now = .string ⟨now.toArray⟩ from rfl]
          generalize ByteArray.mk x.toArray = R at *
          generalize ByteArray.mk y.toArray = R1 at *
          generalize ByteArray.mk now.toArray = R2 at *
          go_enter Tryz.func51, Tryz.ntmps51
          go_wp2_with (first
            | (go_at_call 77; refine h1.mono ?_; rintro e w1 ⟨rfl, hw1⟩))
          go_ret
          exact ⟨rfl, hw1⟩
      · rw [if_neg (fun h => hx (congrArg Prod.fst h))]
        have e1 := str_ne hx
        have e3 := str_ne' hx
        have e4 := str_ne2 hx
        rw [show sv x = .string ⟨x.toArray⟩ from rfl] at h1
        rw [show sv y = .string ⟨y.toArray⟩ from rfl] at h1
        rw [show sv old = .string ⟨old.toArray⟩ from rfl] at h1 ⊢
        rw [show sv now = .string ⟨now.toArray⟩ from rfl]
        generalize ByteArray.mk x.toArray = R at *
        generalize ByteArray.mk y.toArray = R1 at *
        generalize ByteArray.mk now.toArray = R2 at *
        generalize ByteArray.mk old.toArray = R3 at *
        go_enter Tryz.func51, Tryz.ntmps51
        go_wp2_with (first
          | (go_at_call 77; refine h1.mono ?_; rintro e w1 ⟨rfl, hw1⟩))
        go_ret
        exact ⟨rfl, hw1⟩
    · rw [if_neg h32]
      have i1 : ((((ByteArray.mk now.toArray).size : Nat) : Int) != 32) = true := by rw [hs]; simp; try omega
      rw [show sv now = .string ⟨now.toArray⟩ from rfl]
      generalize ByteArray.mk now.toArray = R2 at *
      go_enter Tryz.func51, Tryz.ntmps51
      go_wp2_with (first
        | (go_at_call 77; refine h1.mono ?_; rintro e w1 ⟨rfl, hw1⟩))
      go_ret
      exact ⟨rfl, hw1⟩
  · rw [if_neg hz]
    have b0 : (z != 0) = true := by simpa using hz
    go_enter Tryz.func51, Tryz.ntmps51
    go_wp2_with (go_at_call 77; refine h1.mono ?_; rintro e w1 ⟨rfl, hw1⟩)
    go_ret
    exact ⟨rfl, hw1⟩
end Go.Proofs.YtenklmjeeejfdaaGreatDoor
