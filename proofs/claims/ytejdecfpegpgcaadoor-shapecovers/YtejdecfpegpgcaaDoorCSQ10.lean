import Derived.Test.YtejdecfpegpgcaaDoorCSP18
import Derived.Test.YtejdecfpegpgcaaDoorCSP28
namespace Go.Proofs.YtejdecfpegpgcaaDoor
open Go.RowKit Go.Shelf
theorem append_node_new (w : World) (v : Value) (l : List (Nat × Nat)) (x y : Nat) (B : Nat) (h : OwnP w v l) (hf : ∀ k, v.ownBlock = some k → B ≤ k) (hB : B ≤ w.heap.size) (hl : l.length ≤ 1099511627776) :
    ∃ v' w', (Builtin.append_ #[35, 35] 35 #[v, .slice (some ⟨w.heap.size, 0, none⟩) 1 1]).run Tryd.prog (w.alloc (.cells #[.int .i64 (x : Int), .int .i64 (y : Int)] 69)) = .ok v' w' ∧ OwnP w' v' (l ++ [(x, y)]) ∧ (∀ k, v'.ownBlock = some k → B ≤ k) ∧ Below B w w' := by
  obtain ⟨v', w', h1, h2, h3⟩ := append_node w v l x y h hl
  refine ⟨v', w', h1, h2, fun k hk => ?_, ⟨h3.os, h3.tape, h3.output, h3.size, fun k hk => h3.old k (by omega) fun e => ?_⟩⟩
  · rcases h3.alt with e | ⟨e, _⟩
    · exact hf k (e ▸ hk)
    · exact Nat.le_trans hB (e k hk)
  · have := hf k e; omega
theorem pow2_inj {a b : Nat} (h : 2 ^ a = 2 ^ b) : a = b := by
  rcases Nat.lt_trichotomy a b with e | e | e
  · have := Nat.pow_lt_pow_right (a := 2) (by omega) e; omega
  · exact e
  · have := Nat.pow_lt_pow_right (a := 2) (by omega) e; omega
theorem grow_stop8 {f n b e : Nat} (h : ¬ (b % (2 * n) = 0 ∧ b + 2 * n ≤ e)) : Cut.grow f n b e = n := by
  cases f with
  | zero => rfl
  | succ f => rw [Cut.grow, if_neg h]
theorem grow_on8 {f n b e : Nat} (h : b % (2 * n) = 0 ∧ b + 2 * n ≤ e) : Cut.grow (f + 1) n b e = Cut.grow f (2 * n) b e := by rw [Cut.grow, if_pos h]
set_option maxRecDepth 100000 in
set_option maxHeartbeats 4000000 in
theorem rCover8_ok (b e : Nat) (h1 : b ≤ e) (h2 : e ≤ 1099511627776) (w : World) : Calls Tryd.prog 14 #[sg b e] w (SpP w 0 (covL b e)) := by
  obtain ⟨K, hK⟩ : ∃ K, Hid (covL b e = K) := ⟨_, rfl⟩
  rw [hK.out]
  have hK81 : Hid (K.length ≤ 81) := by unfold Hid; rw [← hK.out]; exact covL_len h2 h1
  have q1 : ¬ (b : Int) < 0 := by omega
  have q2 : ¬ (e : Int) < (b : Int) := by omega
  have q3 : ¬ (1099511627776 : Int) < (e : Int) := by omega
  have S0 := SpI.new w (b : Int) (e : Int)
  have c0 := S0.c0
  have c1 := S0.c1
  have HS := hid S0
  have b0 := hid ((Below.refl w.heap.size w).alloc (Nat.le_refl _) (.cells #[.int .i64 (b : Int), .int .i64 (e : Int)] 25))
  unfold sg
  go_enter Tryd.func14, Tryd.ntmps14
  go_wp2
  generalize w.alloc (.cells #[.int .i64 (b : Int), .int .i64 (e : Int)] 25) = w1 at *
  clear c0 c1 S0
  go_loopw [4, 5, 6, 7] (fun v xb _ _ w' => ∃ (x : Nat) (l : List (Nat × Nat)), xb = .int .i64 (x : Int) ∧ x ≤ e ∧ Hid (l ++ covL x e = K) ∧ Hid (OwnP w' v l) ∧ Hid (∀ k, v.ownBlock = some k → w.heap.size + 1 ≤ k) ∧ Hid (SpI w' w.heap.size (b : Int) (e : Int)) ∧ Hid (Below w.heap.size w w')) (fun _ xb _ _ _ => e - (intOf xb).toNat)
  case atStart => exact ⟨b, [], rfl, h1, hK, hid (OwnM.nil 2 _), hid (fun k hk => by cases hk), HS, b0⟩
  case round =>
    clear HS b0
    obtain ⟨x, l, rfl, hx, hl, hS, hF, hI, hB⟩ := hrel
    have c1 := hI.out.c1
    by_cases hxe : x < e
    · have c0 : (x : Int) < (e : Int) := by omega
      obtain ⟨g1, g2, g3, g4, g5⟩ := Cut.grow_facts h2 hxe
      have hlg := Cut.lev_grow h2 hxe
      have hcc := covL_cons h2 hxe
      have hl' : Hid (l ++ [(Cut.lev x e, x / 2 ^ Cut.lev x e)] ++ covL (x + 2 ^ Cut.lev x e) e = K) := by
        unfold Hid; rw [← hl.out, hcc, List.append_assoc]; rfl
      have hll : l.length ≤ 81 := by have := hK81.out; rw [← hl.out, List.length_append] at this; omega
      obtain ⟨G, hG⟩ : ∃ G, Hid (Cut.grow 40 1 x e = G) := ⟨_, rfl⟩
      obtain ⟨lv, hlv⟩ : ∃ lv, Hid (Cut.lev x e = lv) := ⟨_, rfl⟩
      rw [hlv.out] at hl' hlg
      rw [hG.out] at g3 g4 hlg
      have HLG := hid hlg
      clear hcc hl g1 g2 g5 hlg
      obtain ⟨sa, sc, rfl, _, _⟩ := hS.out.shape
      obtain ⟨wQ, hwQ⟩ : ∃ wQ, wr = wQ := ⟨_, rfl⟩
      rw [hwQ] at hS hI hB c1 ⊢
      clear hwQ
      go_wp2
      go_loopw [6, 7] (fun lvv nv w' => ∃ (k N : Nat), lvv = .int .i64 (k : Int) ∧ nv = .int .i64 (N : Int) ∧ k ≤ 40 ∧ 1 ≤ N ∧ N ≤ 1099511627776 ∧ Hid (2 ^ k = N) ∧ Hid (Cut.grow (40 - k) N x e = G) ∧ w' = wQ) (fun _ nv _ => 2199023255552 - (intOf nv).toNat)
      case atStart => exact ⟨0, 1, rfl, rfl, by omega, Nat.le_refl _, by omega, rfl, hG, rfl⟩
      case round =>
        obtain ⟨k, N, rfl, rfl, hk4, hN1, hN2, hkN, hGk, hwq⟩ := hrel
        rw [hwq]
        clear hwq
        have hz : ¬ (2 * (N : Int)) = 0 := by omega
        by_cases hcond : x % (2 * N) = 0 ∧ x + 2 * N ≤ e
        · have hk40 : k < 40 := by
            rcases Nat.lt_or_ge k 40 with h | h
            · exact h
            · have h1 := Nat.pow_le_pow_right (n := 2) (by omega) h
              rw [hkN.out, show (2 : Nat) ^ 40 = 1099511627776 from by decide] at h1
              omega
          have em : Int.tmod (x : Int) (2 * (N : Int)) = 0 := by
            rw [Int.tmod_eq_emod_of_nonneg (by omega), show 2 * (N : Int) = ((2 * N : Nat) : Int) from by omega, ← Int.natCast_emod, hcond.1]
            rfl
          have d2 : (x : Int) + 2 * (N : Int) ≤ (e : Int) := by omega
          have hG2 : Hid (Cut.grow (40 - (k + 1)) (2 * N) x e = G) := by
            unfold Hid
            have := hGk.out
            rw [show 40 - k = 40 - (k + 1) + 1 from by omega, grow_on8 hcond] at this
            exact this
          have hkN2 : Hid (2 ^ (k + 1) = 2 * N) := by unfold Hid; rw [Cut.pow_double, hkN.out]
          have hc2 := hcond.2
          clear hcond
          go_wp2
          exact ⟨⟨k + 1, 2 * N, by go_num, by go_num, by omega, by omega, by omega, hkN2, hG2, trivial⟩, by simp [intOf]; omega⟩
        · obtain rfl : N = G := by rw [← hGk.out]; exact (grow_stop8 hcond).symm
          obtain rfl : k = lv := pow2_inj (hkN.out.trans HLG.out)
          obtain ⟨D, hD⟩ : ∃ D, Hid (x / N = D) := ⟨_, rfl⟩
          have hDx : D ≤ x := by rw [← hD.out]; exact Nat.div_le_self _ _
          have ed : Int.tdiv (x : Int) (N : Int) = (D : Int) := by
            rw [Int.tdiv_eq_ediv_of_nonneg (by omega), ← Int.natCast_ediv, hD.out]
          have hl2 : Hid (l ++ [(k, D)] ++ covL (x + N) e = K) := by
            have := hl'.out
            rw [hkN.out, hD.out] at this
            exact this
          obtain ⟨v3, w3, hap, S3, f3, b3⟩ := append_node_new wQ _ l k D (w.heap.size + 1) hS.out hF.out (by have := lt_of_heap hI.out; omega) (by omega)
          obtain ⟨ta, tc, rfl, _, _⟩ := S3.shape
          rw [List.length_append] at hap S3 f3
          have HS3 := hid S3
          have HF3 := hid f3
          have HI3 : Hid (SpI w3 w.heap.size (b : Int) (e : Int)) := (b3.block w.heap.size (by omega)).trans hI.out
          have HB3 := hid (hB.out.trans (b3.mono (Nat.le_succ _)))
          have hn0 : ¬ (N : Int) = 0 := by omega
          have hDw : IntKind.i64.wrap (D : Int) = (D : Int) := by rw [IntKind.wrap_i64]; omega
          clear S3 f3 b3 hS hF hI hB hGk hG hkN hl' HLG hlv
          by_cases hmod : x % (2 * N) = 0
          · have d2 : ¬ (x : Int) + 2 * (N : Int) ≤ (e : Int) := by omega
            have em : Int.tmod (x : Int) (2 * (N : Int)) = 0 := by
              rw [Int.tmod_eq_emod_of_nonneg (by omega), show 2 * (N : Int) = ((2 * N : Nat) : Int) from by omega, ← Int.natCast_emod, hmod]
              rfl
            clear hcond hmod
            go_wp2_with (at_builtin; go_must (refine Lib.wpList_append_run _ rfl _ _ 35 35 rfl _ _ rfl rfl _ _ hap ?_))
            exact ⟨⟨x + N, l ++ [(k, D)], by go_num, g3, hl2, HS3, HF3, HI3, HB3⟩, by simp [intOf]; omega⟩
          · obtain ⟨M, hM⟩ : ∃ M : Nat, x % (2 * N) = M := ⟨_, rfl⟩
            have em : Int.tmod (x : Int) (2 * (N : Int)) = (M : Int) := by
              rw [Int.tmod_eq_emod_of_nonneg (by omega), show 2 * (N : Int) = ((2 * N : Nat) : Int) from by omega, ← Int.natCast_emod, hM]
            have hM2 : ((M : Int) == 0) = false := by simp; omega
            have hMl : M < 2 * N := by rw [← hM]; exact Nat.mod_lt _ (by omega)
            have hMw : IntKind.i64.wrap (M : Int) = (M : Int) := by rw [IntKind.wrap_i64]; omega
            clear hcond hmod hM
            go_wp2_with (at_builtin; go_must (refine Lib.wpList_append_run _ rfl _ _ 35 35 rfl _ _ rfl rfl _ _ hap ?_))
            exact ⟨⟨x + N, l ++ [(k, D)], by go_num, g3, hl2, HS3, HF3, HI3, HB3⟩, by simp [intOf]; omega⟩
    · obtain rfl : x = e := by omega
      have c0 : ¬ (x : Int) < (x : Int) := by omega
      have eK := hid (show K = l by rw [← hl.out, covL_nil, List.append_nil])
      go_wp2
      go_ret2
      exact ⟨hB.out, _, rfl, by rw [eK.out]; exact hS.out, fun k hk => Nat.le_trans (Nat.le_succ _) (hF.out k hk)⟩
set_option maxRecDepth 100000 in
set_option maxHeartbeats 4000000 in
theorem rCover8_any (b e : Int) (w : World) : Calls Tryd.prog 14 #[sg b e] w (SpP w (coverE b e) (coverL b e)) := by
  by_cases hc : 0 ≤ b ∧ b ≤ e ∧ e ≤ 1099511627776
  · have eE : coverE b e = 0 := by unfold coverE; rw [if_pos hc]
    have eL : coverL b e = covL b.toNat e.toNat := by unfold coverL; rw [if_pos eE]
    rw [eE, eL]
    have := rCover8_ok b.toNat e.toNat (by omega) (by omega) w
    rw [Int.toNat_of_nonneg hc.1, Int.toNat_of_nonneg (by omega)] at this
    exact this
  · have eE : coverE b e = 80 := by unfold coverE; rw [if_neg hc]
    have eL : coverL b e = [] := by unfold coverL; rw [if_neg (by rw [eE]; omega)]
    rw [eE, eL]
    have S0 := SpI.new w b e
    have c0 := S0.c0
    have c1 := S0.c1
    clear S0 eE eL
    unfold sg
    by_cases h1 : b < 0
    · go_enter Tryd.func14, Tryd.ntmps14
      go_wp2
      go_ret2
      exact SpP.bad ((Below.refl _ w).alloc (Nat.le_refl _) _)
    · by_cases h2 : e < b
      · go_enter Tryd.func14, Tryd.ntmps14
        go_wp2
        go_ret2
        exact SpP.bad ((Below.refl _ w).alloc (Nat.le_refl _) _)
      · have h3 : 1099511627776 < e := by omega
        go_enter Tryd.func14, Tryd.ntmps14
        go_wp2
        go_ret2
        exact SpP.bad ((Below.refl _ w).alloc (Nat.le_refl _) _)
end Go.Proofs.YtejdecfpegpgcaaDoor
