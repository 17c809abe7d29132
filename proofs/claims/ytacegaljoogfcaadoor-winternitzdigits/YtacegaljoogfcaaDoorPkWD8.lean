import Derived.Test.YtacegaljoogfcaaDoorPkWD7
/- Layer 20: WinternitzDigits (written by genWD8.py) -/
namespace Go.Proofs.YtacegaljoogfcaaDoor
open Go.RowKit
namespace Wz
/-- the first k cells of the i-th list are marks -/
def fst (l : List Value) (k : Nat) (u : Value) : Prop := ∀ t, t < k → l[t]? = some u
theorem fst_all {l : List Value} {u : Value} (h : fst l l.length u) : l = List.replicate l.length u := by
  apply List.ext_getElem?
  intro t
  rw [List.getElem?_replicate]
  split
  · next ht => exact h t ht
  · next ht => exact List.getElem?_eq_none (by omega)
theorem fst_set {l : List Value} {k : Nat} {u : Value} (h : fst l k u) (hk : k < l.length) : fst (l.set k u) (k + 1) u := fun t ht => by
  rw [List.getElem?_set]
  split
  · next e => subst e; first | rfl | (rw [if_pos hk])
  · next e => exact h t (by omega)
theorem keep_belowI {S0 : Nat → Prop} {w0 w w' : World} (h : Keep S0 w0 w) (hb : Below w.heap.size w w') : Keep S0 w0 w' :=
  ⟨hb.os.trans h.os, hb.tape.trans h.tape, hb.output.trans h.output, Nat.le_trans h.size hb.size, fun k h1 h2 => (hb.block k (Nat.lt_of_lt_of_le h1 h.size)).trans (h.block k h1 h2)⟩
theorem bdrew8 {B : Nat} {a w : World} (h : Below B a w) (n : Nat) : Below B a (w.drewN n) := ⟨h.os, h.tape, h.output, h.size, h.block⟩
theorem keep_bel {w w' : World} (h : Keep NoS w w') : Below w.heap.size w w' := ⟨h.os, h.tape, h.output, h.size, fun k hk => h.block k hk (fun e => e)⟩
theorem keep_fin {w w0 w' : World} (h : Keep NoS w0 w') (hb : Below w.heap.size w w0) : Below w.heap.size w w' :=
  ⟨h.os.trans hb.os, h.tape.trans hb.tape, h.output.trans hb.output, Nat.le_trans hb.size h.size, fun k hk => (h.block k (Nat.lt_of_lt_of_le hk hb.size) (fun e => e)).trans (hb.block k hk)⟩
set_option maxRecDepth 100000 in
set_option maxHeartbeats 8000000 in
theorem digits_law (s t : ByteArray) (hs : s.size ≤ 140737488354000) (ht : t.size ≤ 140737488354000) (w : World) (T : Tabs w) :
    Calls Tryd.prog 4 #[.string s, .string t] w fun e w' => e = .returned (.bool true) ∧ Below w.heap.size w w' := by
  have hT := T.lt
  obtain ⟨Q, hQ⟩ : ∃ Q : Nat → List UInt8, ∀ I, Hid (Sha.sha (109 :: (if I = 2 then t else s).data.toList) = Q I) := ⟨fun I => Sha.sha (109 :: (if I = 2 then t else s).data.toList), fun I => hid (Eq.refl (Sha.sha (109 :: (if I = 2 then t else s).data.toList)))⟩
  obtain ⟨cs0, hcs⟩ : ∃ cs0 : Nat → List Value, cs0 = fun j => ivn (dg (Q j)) := ⟨_, rfl⟩
  have hQl : ∀ I, (Q I).length = 32 := fun I => by rw [← (hQ I).out]; exact Sha.sha_length _
  have hcl : ∀ j, (cs0 j).length = 67 := fun j => by rw [hcs]; show (ivn (dg (Q j))).length = 67; rw [ivn_len, dg_len _ (hQl j)]
  have hcl := hid hcl
  go_enter Tryd.func4, Tryd.ntmps4
  go_wp2_with (go_at_call 5; refine (known20_any _ T).mono ?_)
  rintro e w1 ⟨rfl, B1⟩
  have T1 := T.below B1 hT
  have s1 := B1.size
  obtain ⟨w0, hw0⟩ : ∃ w0, w1.alloc (.cells #[.string s, .string s, .string t, .string s] 9) = w0 := ⟨_, rfl⟩
  have B0 : Below w1.heap.size w1 w0 := by rw [← hw0]; exact (Below.refl _ _).alloc (Nat.le_refl _) _
  have T0 := T1.below B0 T1.lt
  have BW := hid (B1.trans (B0.mono B1.size))
  obtain ⟨ga, hga⟩ : ∃ ga, w1.heap.size = ga := ⟨_, rfl⟩
  have A0 : Ask w0 ga Q := by
    have hrow : w0.heap[ga]? = some (.cells #[.string s, .string s, .string t, .string s] 9 (0, 0)) := by rw [← hw0, ← hga]; exact heap_alloc_new w1 _
    refine ⟨by rw [← hw0, size_alloc]; omega, fun I hI => ⟨if I = 2 then t else s, ?_, by split <;> assumption, hQ I⟩⟩
    rw [cell_of_row _ _ _ _ _ _ hrow]
    rcases show I = 0 ∨ I = 1 ∨ I = 2 ∨ I = 3 by omega with rfl | rfl | rfl | rfl <;> rfl
  have A0 := hid A0
  have HW := hid hw0
  clear hw0 hQ hs ht B0 B1 T1 s1
  have G0 := hid (Gt.start w0 cs0)
  go_wp2
  rw [HW.out]
  clear HW hga
  go_loopw [7, 8] (fun vl i w' => ∃ (I : Nat) (vs : List Value) (ρ : Nat → Nat), I ≤ 4 ∧ i = .int .i64 (I : Int) ∧ Hid (vs.length = I) ∧ Hid (Gt w0 w' vl vs cs0 ρ)) (fun _ i _ => 4 - (intOf i).toNat)
  case atStart => exact ⟨0, [], _, by omega, rfl, rfl, G0⟩
  case round =>
    clear G0
    obtain ⟨I, vs, ρ, hI, rfl, hl, hG⟩ := hrel
    by_cases hlt : I < 4
    · have c1 : (I : Int) < 4 := by omega
      have i0 : (0 : Int) ≤ (I : Int) := by omega
      obtain ⟨q, cq, hqs, hq⟩ := (A0.out.keep hG.out.kp).at_ I hlt
      have lq := (A0.out.keep hG.out.kp).lt
      have Tr : Tabs wr := T0.below (keep_bel hG.out.kp) T0.lt
      have i1 := digits_any q (by omega) (Q I) hq wr Tr
      clear hq hqs
      go_wp2_with (go_at_call 6; refine i1.mono ?_)
      rintro e w2 ⟨v, rfl, O2, B2⟩
      obtain ⟨O3, ge⟩ := own_m O2
      have hv : OwnM 1 w2 v (cs0 vs.length).length (cs0 vs.length) := by rw [hl.out, hcs]; exact O3
      have G2 := hG.out.made B2 hv
      obtain ⟨a, c, e67, _, _⟩ := hv.shape
      rw [hcl.out] at e67
      subst e67
      obtain ⟨vl', w3, hap, o3, g3⟩ := append_iss w2 u7 vs a 67 c G2.ol (by rw [hl.out]; omega)
      have G3 := hid (G2.push g3 o3 hv (fun k hk => rx_new (ge k hk)))
      have l3 : Hid ((vs ++ [Value.slice a 67 c]).length = I + 1) := by rw [List.length_append, hl.out]; exact rfl
      clear O2 O3 ge hv G2 o3 g3 hG i1 cq
      go_wp2_with (at_builtin; go_must (refine Lib.wpList_append_run _ rfl _ _ 28 28 rfl _ _ rfl rfl _ _ hap ?_))
      exact ⟨⟨I + 1, _, _, by omega, by go_num, l3, G3⟩, by simp [intOf]; omega⟩
    · obtain rfl : I = 4 := by omega
      have c1 : ¬ (4 : Int) < 4 := by omega
      obtain ⟨al, cl, rfl, _, _⟩ := hG.out.ol.shape
      obtain ⟨gl, cl', e0, _, _⟩ := hG.out.ol.cell (List.getElem?_eq_getElem (show 0 < vs.length by rw [hl.out]; omega))
      injection e0 with e0 _ e1
      subst e0
      rw [hl.out] at hG ⊢
      obtain ⟨wg, hwg⟩ : ∃ wg, wr = wg := ⟨_, rfl⟩
      rw [hwg] at hG ⊢
      clear hwg
      have Ag := hid (A0.out.keep hG.out.kp)
      have lists : Hid (∀ I, I < 4 → ∃ g c, vs[I]? = some (.slice (some ⟨g, 0, none⟩) 67 c) ∧ LsN wg g (dg (Q I))) := fun I hI => by
        obtain ⟨v, hv⟩ : ∃ v, vs[I]? = some v := ⟨_, List.getElem?_eq_getElem (by rw [hl.out]; exact hI)⟩
        have h1 := (hG.out.own I v hv).1
        rw [hcs] at h1
        obtain ⟨g, c, rfl, h3⟩ := lsn_of h1 (by rw [dg_len _ (hQl I)]; omega)
        exact ⟨g, c, by rw [hv, dg_len _ (hQl I)], h3⟩
      have rowl : Hid (∀ I v, vs[I]? = some v → wg.cell? ⟨gl, I, none⟩ = some v) := fun I v hv => by
        obtain ⟨g, c, e, h1, _⟩ := hG.out.ol.cell hv
        injection e with e _ _
        injection e with e
        injection e with e
        subst e
        exact h1
      have lgl := hG.out.ol.lt gl rfl
      have HQ := hid hQl
      clear A0 T0 hQl
      go_wp2
      go_loopw [9, 10, 11] (fun i _ _ w' => ∃ I : Nat, I ≤ 4 ∧ i = .int .i64 (I : Int) ∧ Hid (Below wg.heap.size wg w')) (fun i _ _ _ => 4 - (intOf i).toNat)
      case atStart => exact ⟨0, by omega, rfl, Below.refl _ _⟩
      case round =>
        obtain ⟨I, hI, rfl, hB⟩ := hrel
        by_cases hlt : I < 4
        · have c1 : (I : Int) < 4 := by omega
          have i0 : (0 : Int) ≤ (I : Int) := by omega
          obtain ⟨q, cq, hqs, hq⟩ := Ag.out.at_ I hlt
          have lq := Ag.out.lt
          have cq := (hB.out.cell (p := ⟨ga, I, none⟩) lq).trans cq
          have i1 := rdigits_any q hqs (Q I) hq wr
          clear hq hqs
          go_wp2_with (go_at_call 8; refine i1.mono ?_)
          rintro e w2 ⟨v, rfl, O2, B2⟩
          obtain ⟨g2, cap2, rfl, L2, _⟩ := own_lsn O2 (by rw [dg_len _ (HQ.out I)]; omega)
          obtain ⟨g, c, hv, L1⟩ := lists.out I hlt
          have B2 := hB.out.trans (B2.mono hB.out.size)
          have lg := L1.lt
          have L1 := hid (L1.below B2 lg)
          have L2 := hid L2
          have B2 := hid B2
          have rl := (B2.out.cell (p := ⟨gl, I, none⟩) lgl).trans (rowl.out I _ hv)
          have n1 : ((67 : Int) != 67) = false := rfl
          have HV := hid (rowl.out I _ hv)
          rw [dg_len _ (HQ.out I)]
          clear hB O2 i1 cq hv
          go_wp2
          go_loopw [11] (fun i w' => ∃ K : Nat, K ≤ 67 ∧ i = .int .i64 (K : Int) ∧ Hid (LsN w' g (dg (Q I))) ∧ Hid (LsN w' g2 (dg (Q I))) ∧ Hid (Below wg.heap.size wg w')) (fun i _ => 67 - (intOf i).toNat)
          case atStart => exact ⟨0, by omega, rfl, L1, L2, B2⟩
          case round =>
            clear L1 L2 B2 rl
            obtain ⟨K, hK, rfl, L1, L2, B2⟩ := hrel
            by_cases hKn : K < 67
            · have c2 : (K : Int) < 67 := by omega
              have k0 : (0 : Int) ≤ (K : Int) := by omega
              have rl := (B2.out.cell (p := ⟨gl, I, none⟩) lgl).trans HV.out
              have ca := L1.out.get (j := K) (by rw [dg_len _ (HQ.out I)]; exact hKn)
              have cb := L2.out.get (j := K) (by rw [dg_len _ (HQ.out I)]; exact hKn)
              have nx : ∀ x : Int, (x != x) = false := fun x => by simp
              have nx := nx (((dg (Q I)).getD K 0 : Nat) : Int)
              generalize (dg (Q I)).getD K 0 = x at *
              go_wp2
              go_quiet (fail)
              go_wp2
              exact ⟨⟨K + 1, by omega, by go_num, hid (L1.out.drewN _), hid (L2.out.drewN _), hid (bdrew8 B2.out _)⟩, by simp [intOf]; omega⟩
            · obtain rfl : K = 67 := by omega
              have c2 : ¬ (67 : Int) < 67 := by omega
              go_wp2
              exact ⟨⟨I + 1, by omega, by go_num, B2⟩, by simp [intOf]; omega⟩
        · obtain rfl : I = 4 := by omega
          have c1 : ¬ (4 : Int) < 4 := by omega
          obtain ⟨wh, hwh⟩ : ∃ wh, wr = wh := ⟨_, rfl⟩
          rw [hwh] at hB ⊢
          clear hwh
          have H0 := hid ((hG.out.ow mkW).below hB.out)
          have HN := hl
          have HC : Hid (∀ j, (cs0 j).length ≤ 2000000) := fun j => by rw [hcl.out]; omega
          obtain ⟨ρ1, hρ⟩ : ∃ ρ1, rx (fun k => if ρ k = 1 then 0 else ρ k) wg 0 = ρ1 := ⟨_, rfl⟩
          rw [hρ] at H0
          clear hρ hcs hcl Ag lists rowl lgl HQ hG hB T hI hlt c1
          go_wp2
          go_loopw [12, 13] (fun i _ w' => ∃ (I : Nat) (cs : Nat → List Value) (ρ : Nat → Nat), I ≤ 4 ∧ i = .int .i64 (I : Int) ∧ Hid (Ow NoS w0 gl vs mkW 0 cs ρ w' (.slice none 0 0) [] (.slice none 0 0) 0) ∧ Hid (∀ j, (cs j).length = (cs0 j).length) ∧ Hid (∀ j, j < I → cs j = List.replicate (cs j).length (mkW j))) (fun i _ _ => 4 - (intOf i).toNat)
          case atStart => exact ⟨0, cs0, ρ1, by omega, rfl, H0, hid (fun _ => rfl), hid (fun j hj => by omega)⟩
          case round =>
            clear H0
            obtain ⟨I, cs, ρ, hI, rfl, hO, hL, hF⟩ := hrel
            by_cases hIN : I < 4
            · have b0 : (I : Int) < (4 : Int) := by omega
              have j0 : (0 : Int) ≤ (I : Int) := by omega
              obtain ⟨v, hv⟩ : ∃ v, vs[I]? = some v := ⟨_, List.getElem?_eq_getElem (by rw [HN.out]; exact hIN)⟩
              have HV := hid hv
              obtain ⟨n, hn⟩ : ∃ n, (cs I).length = n := ⟨_, rfl⟩
              have hn2 : n ≤ 2000000 := by rw [← hn, hL.out I]; exact HC.out I
              obtain ⟨a, c, hsh, _, _⟩ := (hO.out.own I v (Nat.zero_le _) hv).1.shape
              rw [hn] at hsh
              subst hsh
              have HNl := hid hn
              clear hn hv
              go_wp2
              go_loopw [13] (fun k w' => ∃ (K : Nat) (cs' : Nat → List Value) (ρ' : Nat → Nat), K ≤ n ∧ k = .int .i64 (K : Int) ∧ Hid (Ow NoS w0 gl vs mkW 0 cs' ρ' w' (.slice none 0 0) [] (.slice none 0 0) 0) ∧ Hid (∀ j, (cs' j).length = (cs0 j).length) ∧ Hid (∀ j, j < I → cs' j = List.replicate (cs' j).length (mkW j)) ∧ Hid (fst (cs' I) K (mkW I)) ∧ Hid ((cs' I).length = n)) (fun k _ => n - (intOf k).toNat)
              case atStart => exact ⟨0, cs, ρ, by omega, rfl, hO, hL, hF, hid (fun t ht => by omega), HNl⟩
              case round =>
                clear hO hL hF HNl
                obtain ⟨K, cs', ρ', hK, rfl, hO, hL, hF, hP, hnl⟩ := hrel
                have c0 := hO.out.gr I _ HV.out
                rw [Nat.zero_add] at c0
                have l0 := hO.out.lg
                by_cases hKn : K < n
                · have b1 : (K : Int) < (n : Int) := by omega
                  have k0 : (0 : Int) ≤ (K : Int) := by omega
                  obtain ⟨g, cg, eg, _⟩ := (hO.out.own I _ (Nat.zero_le _) HV.out).1.cell (List.getElem?_eq_getElem (show K < (cs' I).length by rw [hnl.out]; exact hKn))
                  rw [hnl.out] at eg
                  injection eg with e1 e2 e3
                  subst e1
                  subst e3
                  obtain ⟨O2, ⟨y1, z1⟩, f1⟩ := hO.out.set (Nat.zero_le _) HV.out (by rw [hnl.out]; exact hKn) (mkW I)
                  have HO2 := hid O2
                  have hwI : IntKind.i64.wrap (-1 - (I : Int)) = -1 - (I : Int) := by rw [IntKind.wrap_i64]; omega
                  unfold mkW at HO2
                  clear hO O2
                  go_wp2
                  refine ⟨⟨K + 1, (fun j => if j = I then (cs' I).set K (mkW I) else cs' j), _, by omega, by go_num, HO2, hid (fun j => ?_), hid (fun j hj => ?_), hid ?_, hid ?_⟩, by simp [intOf]; omega⟩
                  · show ((if j = I then (cs' I).set K (mkW I) else cs' j) : List Value).length = _
                    by_cases e : j = I
                    · rw [if_pos e, List.length_set, e]; exact hL.out I
                    · rw [if_neg e]; exact hL.out j
                  · show ((if j = I then (cs' I).set K (mkW I) else cs' j) : List Value) = List.replicate ((if j = I then (cs' I).set K (mkW I) else cs' j) : List Value).length (mkW j)
                    rw [if_neg (by omega)]; exact hF.out j hj
                  · show fst (if I = I then (cs' I).set K (mkW I) else cs' I) (K + 1) (mkW I)
                    rw [if_pos rfl]; exact fst_set hP.out (by rw [hnl.out]; exact hKn)
                  · show ((if I = I then (cs' I).set K (mkW I) else cs' I) : List Value).length = n
                    rw [if_pos rfl, List.length_set]; exact hnl.out
                · obtain rfl : K = n := by omega
                  have b1 : ¬ (K : Int) < (K : Int) := by omega
                  go_wp2
                  refine ⟨⟨I + 1, cs', ρ', by omega, by go_num, hO, hL, hid (fun j hj => ?_)⟩, by simp [intOf]; omega⟩
                  by_cases e : j = I
                  · rw [e]; exact fst_all (by rw [hnl.out]; exact hP.out)
                  · exact hF.out j (by omega)
            · obtain rfl : I = 4 := by omega
              have b0 : ¬ (4 : Int) < (4 : Int) := by omega
              go_wp2
              go_loopw [14, 15, 16, 17] (fun va i _ _ w' => ∃ (J : Nat) (ρ' : Nat → Nat) (ls : List Value), J ≤ 4 ∧ i = .int .i64 (J : Int) ∧ ls.length = 40 * J ∧ Hid (Ow NoS w0 gl vs mkW J cs ρ' w' va ls (.slice none 0 0) 0)) (fun _ i _ _ _ => 4 - (intOf i).toNat)
              case atStart => exact ⟨0, ρ, [], by omega, rfl, rfl, hO⟩
              case round =>
                clear hO
                obtain ⟨J, ρ2, ls, hJ, rfl, hll, hO⟩ := hrel
                by_cases hJI : J < 4
                · have b1 : (J : Int) < (4 : Int) := by omega
                  have j1 : (0 : Int) ≤ (J : Int) := by omega
                  obtain ⟨v, hv⟩ : ∃ v, vs[J]? = some v := ⟨_, List.getElem?_eq_getElem (by rw [HN.out]; exact hJI)⟩
                  have c0 := hO.out.gr J _ hv
                  rw [Nat.zero_add] at c0
                  have X0 := hid (hO.out.take hv (hF.out J hJI) hll)
                  obtain ⟨n, hn⟩ : ∃ n, (cs J).length = n := ⟨_, rfl⟩
                  have hn2 : n ≤ 2000000 := by rw [← hn, hL.out J]; exact HC.out J
                  rw [hn] at X0
                  clear hO hv hn
                  go_wp2
                  go_loopw [14, 16, 17] (fun va x k w' => ∃ (q m : Nat) (ρ' : Nat → Nat) (ls : List Value), q ≤ 40 ∧ k = .int .i64 (q : Int) ∧ m ≤ 2000000 + q ∧ Hid (Ox NoS w0 gl vs mkW J q m cs ρ' w' va ls (.slice none 0 0) 0 x)) (fun _ _ k _ => 40 - (intOf k).toNat)
                  case atStart => exact ⟨0, n, ρ2, ls, by omega, rfl, by omega, X0⟩
                  case round =>
                    clear X0
                    obtain ⟨q, m, ρ3, ls3, hq, rfl, hm, hX⟩ := hrel
                    by_cases hq40 : q < 40
                    · have b2 : (q : Int) < 40 := by omega
                      obtain ⟨xa, xc, hxe, _, _⟩ := hX.out.ox.shape
                      subst hxe
                      obtain ⟨va1, w1, hap1, o1, g1⟩ := append_iss wr _ ls3 xa m xc hX.out.b.oa (by rw [hX.out.ll]; omega)
                      have X1 := hX.out.pushA hq40 g1 o1
                      obtain ⟨x3, w3, hap3, o3, g3⟩ := append_mW w1 _ m J X1.ox (by omega)
                      have X4 := hid (X1.grow g3 o3)
                      have hwJ : IntKind.i64.wrap (-1 - (J : Int)) = -1 - (J : Int) := by rw [IntKind.wrap_i64]; omega
                      clear hX X1 o1 g1 o3 g3
                      unfold mkW at hap3
                      go_wp2_with (first
                        | (at_builtin; refine Lib.wpList_append_run _ rfl _ _ 28 28 rfl _ _ rfl rfl _ _ hap1 ?_)
                        | (at_builtin; refine Lib.wpList_append_run _ rfl _ _ 23 23 rfl _ _ rfl rfl _ _ hap3 ?_))
                      exact ⟨⟨q + 1, m + 1, _, _, by omega, by go_num, by omega, X4⟩, by simp [intOf]; omega⟩
                    · obtain rfl : q = 40 := by omega
                      have b2 : ¬ (40 : Int) < 40 := by omega
                      have hX1 := hX.out.b
                      have hl2 := hX.out.ll
                      go_wp2
                      exact ⟨⟨J + 1, ρ3, ls3, by omega, by go_num, by omega, hid hX1⟩, by simp [intOf]; omega⟩
                · obtain rfl : J = 4 := by omega
                  have b1 : ¬ (4 : Int) < (4 : Int) := by omega
                  obtain ⟨Z, hZ⟩ : ∃ Z, 40 * 4 = Z := ⟨_, rfl⟩
                  rw [hZ] at hll
                  have hZ2 : Z ≤ 4000 := by omega
                  obtain ⟨wE, hwE⟩ : ∃ wE, wr = wE := ⟨_, rfl⟩
                  rw [hwE] at hO ⊢
                  clear hwE
                  obtain ⟨aa, ca, hae, _, _⟩ := hO.out.oa.shape
                  subst hae
                  have hcA := hid (fun (T : Nat) (u : Value) (e : ls[T]? = some u) => hO.out.oa.cell e)
                  have hMk := hid (fun (T : Nat) (u : Value) (e : ls[T]? = some u) => (hO.out.mrk T u e).1)
                  have HK := hid hO.out.kp
                  have HL2 := hid hll
                  rw [hll]
                  clear hO
                  go_wp2
                  go_loopw [18, 19] (fun i _ w' => ∃ T : Nat, T ≤ Z ∧ i = .int .i64 (T : Int) ∧ Hid (Below wE.heap.size wE w')) (fun i _ _ => Z - (intOf i).toNat)
                  case atStart => exact ⟨0, by omega, rfl, Below.refl _ _⟩
                  case round =>
                    obtain ⟨T, hT, rfl, hB⟩ := hrel
                    by_cases hTZ : T < Z
                    · have b2 : (T : Int) < (Z : Int) := by omega
                      have t0 : (0 : Int) ≤ (T : Int) := by omega
                      obtain ⟨u, hu⟩ : ∃ u, ls[T]? = some u := ⟨_, List.getElem?_eq_getElem (by rw [HL2.out]; exact hTZ)⟩
                      obtain ⟨ga, ca', e1, d1, la⟩ := hcA.out T u hu
                      injection e1 with e1 _ _
                      subst e1
                      obtain ⟨a, n, cc, rfl, hn, hM⟩ := hMk.out T u hu
                      have HM := hid hM
                      obtain ⟨o, ho⟩ : ∃ o, T / 40 = o := ⟨_, rfl⟩
                      have ho2 : o ≤ 255 := by omega
                      rw [ho] at HM
                      have hqo : Int.tdiv (T : Int) 40 = (o : Int) := by rw [← ho]; rfl
                      have dr := (hB.out.cell (p := ⟨ga, T, none⟩) la).trans d1
                      clear hM hu ho
                      go_wp2
                      go_loopw [19] (fun k w' => ∃ K : Nat, K ≤ n ∧ k = .int .i64 (K : Int) ∧ Hid (Below wE.heap.size wE w')) (fun k _ => n - (intOf k).toNat)
                      case atStart => exact ⟨0, by omega, rfl, hB⟩
                      case round =>
                        clear dr hB
                        obtain ⟨K, hK, rfl, hB⟩ := hrel
                        have c1 := (hB.out.cell (p := ⟨ga, T, none⟩) la).trans d1
                        by_cases hKn : K < n
                        · have b3 : (K : Int) < (n : Int) := by omega
                          have k0 : (0 : Int) ≤ (K : Int) := by omega
                          obtain ⟨g, hga, gl', c3'⟩ := HM.out K hKn
                          subst hga
                          have c3 := (hB.out.cell (p := ⟨g, K, none⟩) gl').trans c3'
                          unfold mkW at c3
                          have hwo : IntKind.i64.wrap (-1 - (o : Int)) = -1 - (o : Int) := by rw [IntKind.wrap_i64]; omega
                          have hne : ((-1 - (o : Int)) != (-1 - (o : Int))) = false := by simp
                          go_wp2
                          exact ⟨⟨K + 1, by omega, by go_num, hB⟩, by simp [intOf]; omega⟩
                        · obtain rfl : K = n := by omega
                          have b3 : ¬ (K : Int) < (K : Int) := by omega
                          go_wp2
                          first
                            | exact ⟨⟨T + 1, by omega, by go_num, hB⟩, by simp [intOf]; omega⟩
                            | exact ⟨⟨T + 1, by omega, by omega⟩, by simp [intOf]; omega⟩
                    · obtain rfl : T = Z := by omega
                      have b2 : ¬ (T : Int) < (T : Int) := by omega
                      go_wp2
                      go_ret
                      exact ⟨rfl, keep_fin (keep_belowI HK.out hB.out) BW.out⟩
end Wz
end Go.Proofs.YtacegaljoogfcaaDoor
