import Derived.Test.YtnnohacciikofaaDoorCFN9
import Derived.Test.YtnnohacciikofaaDoorCFN1
import Derived.Test.YtnnohacciikofaaDoorCFR6
import Derived.Test.YtnnohacciikofaaDoorCO29
import Derived.Test.YtnnohacciikofaaDoorCO6
import Derived.Laws.StructEq
namespace Go.Proofs.YtnnohacciikofaaDoor
open Go.RowKit
/-- spans, as cells -/
def spcs (l : List (Nat × Nat)) : List Value := l.flatMap fun q => [.int .i64 (q.1 : Int), .int .i64 ((q.1 + q.2 : Nat) : Int)]
theorem spcs_len (l : List (Nat × Nat)) : (spcs l).length = l.length * 2 := by
  induction l with
  | nil => rfl
  | cons q l ih => rw [spcs, List.flatMap_cons, List.length_append, ← spcs, ih]; simp; omega
theorem spcs_append (l m : List (Nat × Nat)) : spcs (l ++ m) = spcs l ++ spcs m := List.flatMap_append
theorem spcs_get : ∀ {l : List (Nat × Nat)} {j : Nat} {q : Nat × Nat}, l[j]? = some q → (spcs l)[j * 2]? = some (.int .i64 (q.1 : Int)) ∧ (spcs l)[j * 2 + 1]? = some (.int .i64 ((q.1 + q.2 : Nat) : Int))
  | [], j, q, h => by simp at h
  | a :: l, 0, q, h => by
    obtain rfl : a = q := by simpa using h
    exact ⟨rfl, rfl⟩
  | a :: l, j + 1, q, h => by
    have := spcs_get (l := l) (j := j) (by simpa using h)
    rw [show (j + 1) * 2 = j * 2 + 2 from by omega]
    exact this
/-- a list of spans that is one's own, new from B on -/
def Sps (w : World) (B : Nat) (v : Value) (l : List (Nat × Nat)) : Prop := OwnM 2 w v l.length (spcs l) ∧ ∀ k, v.ownBlock = some k → B ≤ k
theorem infoSp2 : (Tryd.prog.info? 69).map (fun i => (i.zero, i.size, i.bytes)) = some (some (.agg #[.int .i64 0, .int .i64 0]), 2, 16) := by kernel_rfl
theorem append_span (w : World) (v : Value) (l : List (Nat × Nat)) (q : Nat × Nat) (B : Nat) (h : Sps w B v l) (hB : B ≤ w.heap.size) (hl : l.length ≤ 2000000) :
    ∃ v' w', (Builtin.append_ #[82, 82] 82 #[v, .slice (some ⟨w.heap.size, 0, none⟩) 1 1]).run Tryd.prog (w.alloc (.cells #[.int .i64 (q.1 : Int), .int .i64 ((q.1 + q.2 : Nat) : Int)] 69)) = .ok v' w' ∧ Sps w' B v' (l ++ [q]) ∧ Below B w w' := by
  obtain ⟨v', w', h1, h2, h3⟩ := append_oneM 82 69 (.agg #[.int .i64 0, .int .i64 0]) 16 (by omega) Tryd.underlying82 infoSp2 rfl w v l.length (spcs l) [.int .i64 (q.1 : Int), .int .i64 ((q.1 + q.2 : Nat) : Int)] rfl (fun u hu => by
    simp only [List.mem_cons, List.not_mem_nil, or_false] at hu
    rcases hu with rfl | rfl <;> rfl) h.1 hl
  refine ⟨v', w', h1, ⟨?_, fun k hk => ?_⟩, ⟨h3.os, h3.tape, h3.output, h3.size, fun k hk => h3.old k (by omega) fun e => ?_⟩⟩
  · rw [spcs_append, List.length_append]; exact h2
  · rcases h3.alt with e | ⟨e, _⟩
    · exact h.2 k (e ▸ hk)
    · exact Nat.le_trans hB (e k hk)
  · have := h.2 k e; omega
theorem grow_stop {f n b e : Nat} (h : ¬ (b % (2 * n) = 0 ∧ b + 2 * n ≤ e)) : Cut.grow f n b e = n := by
  cases f with
  | zero => rfl
  | succ f => rw [Cut.grow, if_neg h]
theorem grow_on {f n b e : Nat} (h : b % (2 * n) = 0 ∧ b + 2 * n ≤ e) : Cut.grow (f + 1) n b e = Cut.grow f (2 * n) b e := by rw [Cut.grow, if_pos h]
set_option maxRecDepth 100000 in
set_option maxHeartbeats 4000000 in
theorem rCut_any (b e : Nat) (he : e ≤ 1099511627776) (hbe : b ≤ e) (w : World) :
    Calls Tryd.prog 40 #[.int .i64 (b : Int), .int .i64 (e : Int)] w fun r w' => ∃ v, r = .returned v ∧ Sps w' w.heap.size v (Cut.cut b e) ∧ Below w.heap.size w w' := by
  obtain ⟨K, hK⟩ : ∃ K, Hid (Cut.cut b e = K) := ⟨_, rfl⟩
  rw [hK.out]
  have hK81 : Hid (K.length ≤ 81) := by unfold Hid; rw [← hK.out]; exact Cut.cut_len he hbe
  go_enter Tryd.func40, Tryd.ntmps40
  go_wp2
  go_loopw [0, 5] (fun xb v w' => ∃ (x : Nat) (l : List (Nat × Nat)), xb = .int .i64 (x : Int) ∧ x ≤ e ∧ Hid (l ++ Cut.cut x e = K) ∧ Hid (Sps w' w.heap.size v l) ∧ Hid (Below w.heap.size w w')) (fun xb _ _ => e - (intOf xb).toNat)
  case atStart => exact ⟨b, [], rfl, hbe, hK, ⟨OwnM.nil 2 w, fun k hk => by cases hk⟩, Below.refl _ _⟩
  case round =>
    obtain ⟨x, l, rfl, hx, hl, hS, hB⟩ := hrel
    by_cases hxe : x < e
    · have c0 : (x : Int) < (e : Int) := by omega
      obtain ⟨g1, g2, g3, g4, g5⟩ := Cut.grow_facts he hxe
      have hcc := Cut.cut_cons he hxe
      have hl' : Hid (l ++ [(x, Cut.grow 40 1 x e)] ++ Cut.cut (x + Cut.grow 40 1 x e) e = K) := by
        unfold Hid; rw [← hl.out, hcc, List.append_assoc]; rfl
      have hll : l.length ≤ 81 := by have := hK81.out; rw [← hl.out, List.length_append] at this; omega
      obtain ⟨G, hG⟩ : ∃ G, Hid (Cut.grow 40 1 x e = G) := ⟨_, rfl⟩
      rw [hG.out] at hl' g3 g4
      clear hcc hl g1 g2 g5
      obtain ⟨sa, sc, rfl, _, _⟩ := hS.out.1.shape
      go_wp2
      go_loopw [6] (fun nv w' => ∃ (k N : Nat), nv = .int .i64 (N : Int) ∧ 1 ≤ N ∧ N ≤ 1099511627776 ∧ Hid (2 ^ k = N) ∧ Hid (Cut.grow (40 - k) N x e = G) ∧ w' = wr) (fun nv _ => 2199023255552 - (intOf nv).toNat)
      case atStart => exact ⟨0, 1, rfl, Nat.le_refl _, by omega, rfl, hG, rfl⟩
      case round =>
        obtain ⟨k, N, rfl, hN1, hN2, hkN, hGk, rfl⟩ := hrel
        by_cases hcond : x % (2 * N) = 0 ∧ x + 2 * N ≤ e
        · have d0 : (N : Int) < 1099511627776 := by omega
          have hk40 : k < 40 := by
            rcases Nat.lt_or_ge k 40 with h | h
            · exact h
            · have h1 := Nat.pow_le_pow_right (n := 2) (by omega) h
              rw [hkN.out, show (2 : Nat) ^ 40 = 1099511627776 from by decide] at h1
              omega
          have em : Int.tmod (x : Int) (2 * (N : Int)) = 0 := by
            rw [Int.tmod_eq_emod_of_nonneg (by omega), show 2 * (N : Int) = ((2 * N : Nat) : Int) from by omega, ← Int.natCast_emod, hcond.1]
            rfl
          have hz : ¬ (2 * (N : Int)) = 0 := by omega
          have d2 : (x : Int) + 2 * (N : Int) ≤ (e : Int) := by omega
          have hG2 : Hid (Cut.grow (40 - (k + 1)) (2 * N) x e = G) := by
            unfold Hid
            have := hGk.out
            rw [show 40 - k = 40 - (k + 1) + 1 from by omega, grow_on hcond] at this
            exact this
          have hkN2 : Hid (2 ^ (k + 1) = 2 * N) := by unfold Hid; rw [Cut.pow_double, hkN.out]
          have hc2 := hcond.2
          clear hcond
          go_wp2
          exact ⟨⟨k + 1, 2 * N, by go_num, by omega, by omega, hkN2, hG2, trivial⟩, by simp [intOf]; omega⟩
        · obtain rfl : N = G := by rw [← hGk.out]; exact (grow_stop hcond).symm
          obtain ⟨v3, w3, hap, S3, b3⟩ := append_span wr _ l (x, N) w.heap.size hS.out hB.out.size (by omega)
          obtain ⟨ta, tc, rfl, _, _⟩ := S3.1.shape
          rw [List.length_append] at hap S3
          have HS3 := hid S3
          have HB3 := hid (hB.out.trans b3)
          rw [show ((x + N : Nat) : Int) = (x : Int) + (N : Int) from by omega] at hap
          clear S3 b3 hS hB hGk hG hkN
          by_cases d0 : (N : Int) < 1099511627776
          · by_cases hmod : x % (2 * N) = 0
            · have d2 : ¬ (x : Int) + 2 * (N : Int) ≤ (e : Int) := by omega
              have em : Int.tmod (x : Int) (2 * (N : Int)) = 0 := by
                rw [Int.tmod_eq_emod_of_nonneg (by omega), show 2 * (N : Int) = ((2 * N : Nat) : Int) from by omega, ← Int.natCast_emod, hmod]
                rfl
              have hz : ¬ (2 * (N : Int)) = 0 := by omega
              clear hcond hmod
              go_wp2_with (at_builtin; go_must (refine Lib.wpList_append_run _ rfl _ _ 82 82 rfl _ _ rfl rfl _ _ hap ?_))
              exact ⟨⟨x + N, l ++ [(x, N)], rfl, g3, hl', HS3, HB3⟩, by simp [intOf]; omega⟩
            · obtain ⟨M, hM⟩ : ∃ M : Nat, x % (2 * N) = M := ⟨_, rfl⟩
              have em : Int.tmod (x : Int) (2 * (N : Int)) = (M : Int) := by
                rw [Int.tmod_eq_emod_of_nonneg (by omega), show 2 * (N : Int) = ((2 * N : Nat) : Int) from by omega, ← Int.natCast_emod, hM]
              have hM2 : ((M : Int) == 0) = false := by simp; omega
              have hMl : M < 2 * N := by rw [← hM]; exact Nat.mod_lt _ (by omega)
              have hMw : IntKind.i64.wrap (M : Int) = (M : Int) := wrap_small _ (by omega) (by omega)
              have hz : ¬ (2 * (N : Int)) = 0 := by omega
              clear hcond hmod hM
              go_wp2_with (at_builtin; go_must (refine Lib.wpList_append_run _ rfl _ _ 82 82 rfl _ _ rfl rfl _ _ hap ?_))
              exact ⟨⟨x + N, l ++ [(x, N)], rfl, g3, hl', HS3, HB3⟩, by simp [intOf]; omega⟩
          · clear hcond
            go_wp2_with (at_builtin; go_must (refine Lib.wpList_append_run _ rfl _ _ 82 82 rfl _ _ rfl rfl _ _ hap ?_))
            exact ⟨⟨x + N, l ++ [(x, N)], rfl, g3, hl', HS3, HB3⟩, by simp [intOf]; omega⟩
    · obtain rfl : x = e := by omega
      have c0 : ¬ (x : Int) < (x : Int) := by omega
      have eK := hid (show K = l by rw [← hl.out, Cut.cut_nil, List.append_nil])
      go_wp2
      go_ret
      exact ⟨_, rfl, by rw [eK.out]; exact hS.out, hB.out⟩
end Go.Proofs.YtnnohacciikofaaDoor

namespace Go.Proofs.YtnnohacciikofaaDoor
open Go.RowKit

/-- append([]string(nil), l...): a list of one's own with l's texts -/
theorem append_at (w : World) (a : Option Addr) (cap : Nat) (L : List (List UInt8)) (hA : At w a L) (hlen : L.length ≤ 8796093022208) :
    ∃ v' w', (Builtin.append_ #[24, 24] 24 #[.slice none 0 0, .slice a L.length cap]).run Tryd.prog w = .ok v' w' ∧ Own w' w.heap.size v' (svs L) ∧ Below w.heap.size w w' := by
  obtain ⟨i0, hi, hz0, hz1, hz2⟩ := info_parts infoS
  by_cases h0 : L.length = 0
  · obtain rfl : L = [] := List.length_eq_zero_iff.1 h0
    refine ⟨_, w, append_zero w _ ?_, Own.nil _ _, Below.refl _ _⟩
    cases a with
    | none => exact Src.ofNil w Tryd.underlying24 cap
    | some x => exact Src.ofSlice w Tryd.underlying24 x 0 cap [] (by simp) (fun j u hj => by simp at hj) (fun u hu => by simp at hu)
  · obtain ⟨x, rfl⟩ := hA.pos (by omega)
    have hsrc : Src Tryd.prog 1 24 (.slice (some x) L.length cap) L.length (svs L) w :=
      Src.ofSlice w Tryd.underlying24 x L.length cap (svs L) (by rw [svs_length, Nat.mul_one]) (fun j u hj => by
        rw [svs, List.getElem?_map] at hj
        cases hp : L[j]? with
        | none => rw [hp] at hj; cases hj
        | some p =>
          rw [hp] at hj
          obtain rfl := Option.some.inj hj
          obtain ⟨y, e, _, hc⟩ := hA j p hp
          cases e
          exact hc) (fun u hu => svs_one hu)
    obtain ⟨v', w', h1, h2, h3, h4⟩ := run_append_O (P := Tryd.prog) w w.heap.size 24 24 24 9 i0 (.string ⟨#[]⟩) Tryd.underlying24 hi hz0 hz1 rfl (.slice none 0 0) (svs []) (Own.nil _ _) _ L.length (svs L) hsrc
      (by rw [svs_length, hz2]; simp; omega) (by rw [svs_length, maxLen]; simp; omega) (Nat.le_refl _) (fun _ => by omega)
    exact ⟨v', w', h1, by simpa [svs] using h2, Below.ofGrown h3 (Own.nil w w.heap.size).ge (Nat.le_refl _)⟩
end Go.Proofs.YtnnohacciikofaaDoor

namespace Go.Proofs.YtnnohacciikofaaDoor
open Go.RowKit
set_option maxRecDepth 100000 in
set_option maxHeartbeats 2000000 in
theorem rhashes_is (l : List (List UInt8)) (q : Bool) (hq : hsB l = q) (a : Option Addr) (cap : Nat) (w : World) (hc : l.length ≤ 9223372036854775807) (hA : At w a l) :
    Calls Tryd.prog 71 #[.slice a l.length cap] w fun r w' => r = .returned (.bool q) ∧ w' = w := by
  have HQ := hid hq
  generalize hn : l.length = k at *
  have HA := hid hA
  clear hA hq
  go_enter Tryd.func71, Tryd.ntmps71
  go_wp2
  go_loopw [3] (fun i w' => ∃ j : Nat, j ≤ k ∧ i = .int .i64 (j : Int) ∧ Hid ((l.take j).all (·.length == 32) = true) ∧ w' = w) (fun i _ => k - (intOf i).toNat)
  case atStart => exact ⟨0, by omega, rfl, rfl, rfl⟩
  case round =>
    obtain ⟨j, hj, rfl, hall, rfl⟩ := hrel
    by_cases hjk : j < k
    · have b0 : (j : Int) < (k : Int) := by omega
      obtain ⟨y, rfl⟩ := HA.out.pos (by omega)
      obtain ⟨s, hs, hcell⟩ := HA.out.cell j (by omega)
      by_cases h32 : s.size = 32
      · have b1 : ((s.size : Int) != 32) = false := by simp; omega
        have e2 := hid (all_take l j (by omega) hall.out (by rw [← hs.out, data_length]; exact h32))
        clear HA hall hs
        go_wp2
        exact ⟨⟨j + 1, by omega, by go_num, e2, trivial⟩, by simp [intOf]; omega⟩
      · have b1 : ((s.size : Int) != 32) = true := by simp; omega
        have e2 := all_not l j (by omega) (by rw [← hs.out, data_length]; exact h32)
        have e3 := hid (show q = false by rw [← HQ.out]; exact e2)
        clear HA hall hs e2
        go_wp2
        go_ret
        exact ⟨by rw [e3.out]; rfl, rfl⟩
    · obtain rfl : j = k := by omega
      have b0 : ¬ (j : Int) < (j : Int) := by omega
      rw [← hn, List.take_length] at hall
      have e3 := hid (show q = true by rw [← HQ.out]; exact hall.out)
      clear HA hall
      go_wp2
      go_ret
      exact ⟨by rw [e3.out]; rfl, rfl⟩
set_option maxRecDepth 100000 in
set_option maxHeartbeats 2000000 in
theorem rcopied_any (l : List (List UInt8)) (a : Option Addr) (cap : Nat) (w : World) (hn : l.length ≤ 8000000000000) (hA : At w a l) :
    Calls Tryd.prog 48 #[.slice a l.length cap] w fun r w' => ∃ v, r = .returned v ∧ Own w' w.heap.size v (svs l) ∧ Below w.heap.size w w' := by
  obtain ⟨v, w1, hap, hO, hb⟩ := append_at w a cap l hA (by omega)
  have HO := hid hO
  have HB := hid hb
  obtain ⟨va, vn, vc, rfl⟩ := own_sl hO
  clear hO hb hA
  generalize l.length = n at *
  go_enter Tryd.func48, Tryd.ntmps48
  go_wp2_with (at_builtin; go_must (refine Lib.wpList_append_run _ rfl _ _ 24 24 rfl _ _ rfl rfl _ _ hap ?_))
  go_ret
  exact ⟨_, rfl, HO.out, HB.out⟩
set_option maxRecDepth 100000 in
set_option maxHeartbeats 4000000 in
theorem rroot_any (H : List (List UInt8)) (a : Option Addr) (cap : Nat) (w : World) (hn : H.length ≤ 8796093021952) (hA : At w a H) :
    Calls Tryd.prog 49 #[.slice a H.length cap] w fun e w' => e = .returned (sv (Cut.fold H)) ∧ Below w.heap.size w w' := by
  obtain ⟨F, hF⟩ : ∃ F, Hid (Cut.fold H = F) := ⟨_, rfl⟩
  rw [hF.out]
  by_cases h0 : H.length = 0
  · obtain rfl : H = [] := List.length_eq_zero_iff.1 h0
    have e0 : Hid (Sha.sha [] = F) := hF.out
    have he := rempty_any e0 w
    show Calls _ _ #[.slice a 0 cap] _ _
    go_enter Tryd.func49, Tryd.ntmps49
    go_wp2_with (go_at_call 63; refine he.mono ?_; rintro e w1 ⟨rfl, hw1⟩)
    go_ret
    exact ⟨rfl, hw1⟩
  · obtain ⟨m, hm⟩ : ∃ m, H.length = m + 1 := ⟨H.length - 1, by omega⟩
    obtain ⟨y, rfl⟩ := hA.pos (by omega)
    obtain ⟨s, hs, hcell⟩ := hA.cell m (by omega)
    have hfl := hid (fold_last (H := H) (j := m) hm.symm)
    have HA := hid hA
    have Hm := hid hm
    have b1 : (((m + 1 : Nat) : Int) == 0) = false := by simp; omega
    have b2 : ((m + 1 : Nat) : Int) - 1 = (m : Int) := by omega
    have b3 : (m : Int) < ((m + 1 : Nat) : Int) := by omega
    have b4 : ((m + 1 : Nat) : Int) - 2 = (m : Int) - 1 := by omega
    have es := hid (show (.string s : Value) = sv (Cut.fold (H.drop m)) by rw [hfl.out, ← hs.out]; cases s; rfl)
    rw [hm] at hn ⊢
    clear hA hs hm h0 hfl
    generalize hk : m + 1 = k at *
    go_enter Tryd.func49, Tryd.ntmps49
    go_wp2
    go_loopw [5, 4] (fun i r w' => ∃ j : Nat, j ≤ m ∧ i = .int .i64 ((j : Int) - 1) ∧ r = sv (Cut.fold (H.drop j)) ∧ Hid (Below w.heap.size w w')) (fun i _ _ => ((intOf i) + 1).toNat)
    case atStart => exact ⟨m, Nat.le_refl _, rfl, es.out, Below.refl _ _⟩
    case round =>
      clear es
      obtain ⟨j, hj, rfl, rfl, hB⟩ := hrel
      by_cases hj0 : 0 < j
      · obtain ⟨u, rfl⟩ : ∃ u, j = u + 1 := ⟨j - 1, by omega⟩
        have e1 : ((u + 1 : Nat) : Int) - 1 = (u : Int) := by omega
        rw [e1]
        have b0 : (0 : Int) ≤ (u : Int) := by omega
        have A1 := HA.out.below hB.out (Nat.le_refl _)
        obtain ⟨s, hs, hcell⟩ := A1.cell u (by have := Hm.out; omega)
        obtain ⟨N, hN⟩ : ∃ N, Hid (Cut.fold (H.drop u) = N) := ⟨_, rfl⟩
        have hnd : Tree.nd s.data.toList (Cut.fold (H.drop (u + 1))) = N := by
          have hd := fold_drop (H := H) (j := u) (j' := u + 1) rfl (by have := Hm.out; omega)
          rw [hs.out, ← hN.out, hd]
        obtain ⟨N', c, hNc⟩ : ∃ N' c, Hid (nodeOf s.data.toList (Cut.fold (H.drop (u + 1))) = (N', c)) := ⟨_, _, rfl⟩
        have eN : N' = N := by rw [← hnd, ← nodeOf_nd, hNc.out]
        subst eN
        have i1 := rnode_at hNc wr
        rw [show sv s.data.toList = .string s from by cases s; rfl] at i1
        have u2 : (u : Int) < (k : Int) := by omega
        generalize Cut.fold (H.drop (u + 1)) = R at *
        clear hs hnd A1 HA
        go_wp2_with (go_at_call 64; refine i1.mono ?_; rintro e w2 ⟨rfl, hw2⟩)
        exact ⟨⟨u, by omega, rfl, by rw [hN.out], hid (hB.out.trans (hw2.mono hB.out.size))⟩, by simp [intOf]⟩
      · obtain rfl : j = 0 := by omega
        rw [show ((0 : Nat) : Int) - 1 = -1 from rfl]
        rw [List.drop_zero]
        clear HA
        go_wp2
        go_ret
        exact ⟨by rw [← hF.out]; rfl, hB.out⟩
set_option maxRecDepth 100000 in
set_option maxHeartbeats 8000000 in
theorem rwrong_any (b e : Int) (a : Option Addr) (k c : Nat) (w : World) :
    Calls Tryd.prog 72 #[rng b e (.slice a k c)] w fun r w' => r = .returned (.bool (!rgt b e k)) ∧ Below w.heap.size w w' := by
  have B1 := hid ((Below.refl w.heap.size w).alloc (Nat.le_refl _) (.cells #[Value.int .i64 b, .int .i64 e, .slice a k c] 28))
  have R1 := hid (Rg.new w b e (.slice a k c))
  have c0 := R1.out.c0
  have c1 := R1.out.c1
  have c2 := R1.out.c2
  by_cases h1 : 0 ≤ b
  · have d1 : decide (b < 0) = false := by simp; omega
    by_cases h2 : b ≤ e
    · have d2 : decide (e < b) = false := by simp; omega
      by_cases h3 : e ≤ 1099511627776
      · have d3 : decide ((1099511627776 : Int) < e) = false := by simp; omega
        obtain ⟨b, rfl⟩ := Int.eq_ofNat_of_zero_le h1
        obtain ⟨e, rfl⟩ := Int.eq_ofNat_of_zero_le (show 0 ≤ e by omega)
        have i1 := fun w' => rCut_any b e (by omega) (by omega) w'
        have d2' : decide (e < b) = false := by simp only [decide_eq_false_iff_not]; omega
        have d3' : decide (1099511627776 < e) = false := by simp only [decide_eq_false_iff_not]; omega
        obtain ⟨N, hN⟩ : ∃ N, Hid ((Cut.cut b e).length = N) := ⟨_, rfl⟩
        obtain ⟨q, hq⟩ : ∃ q : Bool, Hid (((k : Int) != (N : Int)) = q) := ⟨_, rfl⟩
        have er := hid (show (!rgt (b : Int) (e : Int) k) = q by
          rw [← hq.out, ← hN.out]
          unfold rgt
          simp only [Int.toNat_natCast]
          rw [Bool.eq_iff_iff]
          simp
          omega)
        rw [er.out]
        have hq2 : ((k : Int) != (N : Int)) = q := hq.out
        clear h1 h2 h3 er
        go_enter Tryd.func72, Tryd.ntmps72
        go_wp2
        generalize w.alloc (.cells #[Value.int .i64 (b : Int), .int .i64 (e : Int), .slice a k c] 28) = w1 at *
        go_region_held3 (fun w' => w'.cell? ⟨w.heap.size, 0, none⟩ = some (.int .i64 (b : Int)) ∧ w'.cell? ⟨w.heap.size, 1, none⟩ = some (.int .i64 (e : Int)) ∧ w'.cell? ⟨w.heap.size, 2, none⟩ = some (.slice a k c)) (first | exact x3 | exact ⟨c0, c1, c2⟩) (first
          | (go_at_call 40; refine (i1 _).mono ?_; rintro r w3 ⟨v, rfl, S3, hw3⟩; obtain ⟨va, vc, rfl, _, _⟩ := S3.1.shape; rw [hN.out]; have B3 := hid (B1.out.trans ((drewBelow5 hw3).mono B1.out.size)); have R3 := R1.out.below (drewBelow5 hw3); have x3 := And.intro R3.c0 (And.intro R3.c1 R3.c2)))
        go_wp2
        go_ret
        exact ⟨rfl, B3.out⟩
      · have d3 : decide ((1099511627776 : Int) < e) = true := by simp; omega
        have er := hid (show (!rgt b e k) = true by unfold rgt; simp; omega)
        rw [er.out]
        clear er h1 h2 h3
        go_enter Tryd.func72, Tryd.ntmps72
        go_wp2
        generalize w.alloc (.cells #[Value.int .i64 b, .int .i64 e, .slice a k c] 28) = w1 at *
        go_quiet (fail)
        go_wp2
        go_ret
        exact ⟨rfl, by first | exact B1.out | exact B1.out.drew | exact below_drewN B1.out _⟩
    · have d2 : decide (e < b) = true := by simp; omega
      have er := hid (show (!rgt b e k) = true by unfold rgt; simp; omega)
      rw [er.out]
      clear er h1 h2
      go_enter Tryd.func72, Tryd.ntmps72
      go_wp2
      generalize w.alloc (.cells #[Value.int .i64 b, .int .i64 e, .slice a k c] 28) = w1 at *
      go_quiet (fail)
      go_wp2
      go_ret
      exact ⟨rfl, by first | exact B1.out | exact B1.out.drew | exact below_drewN B1.out _⟩
  · have d1 : decide (b < 0) = true := by simp; omega
    have er := hid (show (!rgt b e k) = true by unfold rgt; simp; omega)
    rw [er.out]
    clear er h1
    go_enter Tryd.func72, Tryd.ntmps72
    go_wp2
    generalize w.alloc (.cells #[Value.int .i64 b, .int .i64 e, .slice a k c] 28) = w1 at *
    go_quiet (fail)
    go_wp2
    go_ret
    exact ⟨rfl, by first | exact B1.out | exact B1.out.drew | exact below_drewN B1.out _⟩
end Go.Proofs.YtnnohacciikofaaDoor

namespace Go.Proofs.YtnnohacciikofaaDoor
open Go.RowKit
theorem spU : Tryd.prog.underlying 69 = some (.struct (Tryd.prog.fieldsOf 69)) := by kernel_rfl
theorem spP : Tryd.prog.stoodInHeld 69 = false := by kernel_rfl
theorem spF : (Tryd.prog.fieldsOf 69).toList.map (fun f => (f.name, f.type, f.offset)) = [("Begin", 3, 0), ("End", 3, 1)] := by kernel_rfl
theorem two_fields {fs : List Field} {a b : String × TypeId × Nat} (h : fs.map (fun f => (f.name, f.type, f.offset)) = [a, b]) : ∃ f g, fs = [f, g] ∧ f.name = a.1 ∧ f.type = a.2.1 ∧ f.offset = a.2.2 ∧ g.name = b.1 ∧ g.type = b.2.1 ∧ g.offset = b.2.2 := by
  match fs, h with
  | [f, g], h =>
    simp only [List.map_cons, List.map_nil, List.cons.injEq, and_true] at h
    obtain ⟨h1, h2⟩ := h
    exact ⟨f, g, rfl, by rw [← h1], by rw [← h1], by rw [← h1], by rw [← h2], by rw [← h2], by rw [← h2]⟩
theorem part0 (a b : Value) (w : World) : (part 3 #[a, b] 0).run Tryd.prog w = .ok a w := by kernel_rfl
theorem part1 (a b : Value) (w : World) : (part 3 #[a, b] 1).run Tryd.prog w = .ok b w := by kernel_rfl
theorem eq_sp (p f q e : Int) (w : World) : (binOp .eql 69 (.agg #[.int .i64 p, .int .i64 f]) (.agg #[.int .i64 q, .int .i64 e])).run Tryd.prog w = .ok (.bool (p == q && f == e)) w := by
  rw [run_eql_struct, run_equalIn_agg w 9999 _ _ _ spU spP]
  obtain ⟨f1, f2, hf, a1, a2, a3, b1, b2, b3⟩ := two_fields spF
  rw [hf]
  simp only [Op.eqFields, a1, a2, a3, b1, b2, b3]
  simp only [Sem.run_ite, Sem.run_bind, part0, part1, Result.andThen_ok, run_equalIn_int w 9998 3 .i64 .i64 _ _ Tryd.underlying3]
  generalize (p == q) = u
  generalize (f == e) = v
  cases u <;> cases v <;> simp
end Go.Proofs.YtnnohacciikofaaDoor

namespace Go.Proofs.YtnnohacciikofaaDoor
open Go.RowKit
namespace Cut
open Tree
theorem cov_nodup : ∀ {l : List (Nat × Nat)} {a c : Nat}, Cov a c l → l.Nodup
  | [], _, _, _ => List.nodup_nil
  | (p, n) :: l, a, c, h => by
    refine List.nodup_cons.2 ⟨fun hm => ?_, cov_nodup h.2.2.2⟩
    have := Cov.ge h.2.2.2 (p, n) hm
    have hp : 0 < n := cov_pos h (p, n) List.mem_cons_self
    have h1 : p = a := h.1
    have h2 : a + n ≤ p := this
    omega
theorem key_one {K : List ((Nat × Nat) × T)} {a c : Nat} (h : Cov a c (K.map Prod.fst)) {q : Nat × Nat} {x y : T} {j : Nat} (hx : (q, x) ∈ K) (hy : K[j]? = some (q, y)) : x = y := by
  obtain ⟨i, hi, hi'⟩ := List.mem_iff_getElem.1 hx
  obtain ⟨hj, hj'⟩ := List.getElem?_eq_some_iff.1 hy
  have hnd := cov_nodup h
  have e : i = j := by
    have ei : (K.map Prod.fst)[i]? = some q := by rw [List.getElem?_map, List.getElem?_eq_getElem hi, hi']; rfl
    have ej : (K.map Prod.fst)[j]? = some q := by rw [List.getElem?_map, hy]; rfl
    exact (List.getElem?_inj (by rw [List.length_map]; exact hi) hnd).1 (ei.trans ej.symm)
  subst e
  rw [hi'] at hj'
  exact congrArg Prod.snd hj'
end Cut
/-- what hash answers of a subtree -/
def HashAt (K : List ((Nat × Nat) × List UInt8)) (vs : Value) (a : Option Addr) (n cap : Nat) (q : Nat × Nat) (x : List UInt8) : Prop :=
  ∀ (w : World), OwnM 2 w vs n (spcs (K.map Prod.fst)) → At w a (K.map Prod.snd) → Calls Tryd.prog 73 #[spn q.1 (q.1 + q.2), vs, .slice a n cap] w fun r w' => r = .returned (sv x) ∧ Below w.heap.size w w'
set_option maxRecDepth 100000 in
set_option maxHeartbeats 8000000 in
theorem rhash_step {K : List ((Nat × Nat) × List UInt8)} {A C : Nat} (hK : Cut.Cov A C (K.map Prod.fst)) (vs : Value) (a : Option Addr) (n cap : Nat) (hm : Hid (K.length = n)) (hn : n ≤ 1000000) (q : Nat × Nat) (x : List UInt8) (hq : q.1 + q.2 ≤ 1099511627776)
    (hc : Hid ((q, x) ∈ K ∨ ((∀ z, (q, z) ∉ K) ∧ ∃ p m x1 y1, q = (p, 2 * m) ∧ x = Tree.nd x1 y1 ∧ HashAt K vs a n cap (p, m) x1 ∧ HashAt K vs a n cap (p + m, m) y1))) : HashAt K vs a n cap q x := by
  intro w hO hA
  have HA := hid hA
  have HO := hid hO
  have HK := hid hK
  obtain ⟨q1, q2⟩ := q
  obtain ⟨e, he⟩ : ∃ e : Nat, Hid (q1 + q2 = e) := ⟨_, rfl⟩
  show Calls _ _ #[spn q1 (q1 + q2), _, _] _ _
  have hq' : q1 + q2 ≤ 1099511627776 := hq
  rw [he.out] at hq' ⊢
  have S0 := hid (Sp.new w q1 e)
  have B0 := hid ((Below.refl w.heap.size w).alloc (Nat.le_refl _) (.cells #[Value.int .i64 (q1 : Int), Value.int .i64 (e : Int)] 69))
  obtain ⟨sa, sc, rfl, _, _⟩ := hO.shape
  clear hA hO hK hq
  go_enter Tryd.func73, Tryd.ntmps73
  go_wp2
  go_loopw [7] (fun i w' => ∃ j : Nat, i = .int .i64 (j : Int) ∧ j ≤ n ∧ Hid (∀ u, u < j → ∀ y, K[u]? ≠ some ((q1, q2), y)) ∧ Hid (Sp w' w.heap.size q1 e) ∧ Hid (Below w.heap.size w w')) (fun i _ => n - (intOf i).toNat)
  case atStart => exact ⟨0, rfl, by omega, fun u hu => by omega, S0, B0⟩
  case round =>
    obtain ⟨j, rfl, hj, hno, hS, hB⟩ := hrel
    clear S0 B0
    have s0 := hS.out.c0
    have s1 := hS.out.c1
    by_cases hjn : j < n
    · have c0 : (j : Int) < (n : Int) := by omega
      have hlt : j < K.length := by have := hm.out; omega
      obtain ⟨kq, hkq⟩ : ∃ kq, Hid (K[j]? = some kq) := ⟨_, List.getElem?_eq_getElem hlt⟩
      obtain ⟨⟨p, m⟩, y⟩ := kq
      have hkf : (K.map Prod.fst)[j]? = some (p, m) := by rw [List.getElem?_map, hkq.out]; rfl
      have hks : (K.map Prod.snd)[j]? = some y := by rw [List.getElem?_map, hkq.out]; rfl
      have O5 := HO.out.below hB.out
      obtain ⟨g1, g2⟩ := spcs_get hkf
      obtain ⟨g, gc, eg, t0, _⟩ := O5.cell g1
      obtain ⟨g', gc', eg', t1, _⟩ := O5.cell g2
      injection eg with eg1 eg2 eg3
      subst eg1 eg3
      injection eg' with eg1 eg2 eg3
      injection eg1 with eg1
      injection eg1 with eg1
      subst eg1
      obtain ⟨y1, rfl, _, hcell⟩ := (HA.out.below hB.out (Nat.le_refl _)) j y hks
      obtain ⟨f, hf⟩ : ∃ f : Nat, Hid (p + m = f) := ⟨_, rfl⟩
      have t1' : wr.cell? ⟨g, j * 2 + 1, none⟩ = some (.int .i64 (f : Int)) := by rw [← hf.out]; exact t1
      have t0' : wr.cell? ⟨g, j * 2, none⟩ = some (.int .i64 (p : Int)) := t0
      clear g1 g2 hkf hks O5 t0 t1 eg2 eg3
      have heq := fun w' => eq_sp (p : Int) (f : Int) (q1 : Int) (e : Int) w'
      by_cases hmt : p = q1 ∧ f = e
      · have hz : ((p : Int) == (q1 : Int) && (f : Int) == (e : Int)) = true := by simp [hmt]
        have ey := hid (show x = y by
          have e1 := hf.out
          have e2 := he.out
          obtain rfl : m = q2 := by omega
          obtain ⟨rfl, _⟩ := hmt
          rcases hc.out with h | ⟨h, _⟩
          · exact Cut.key_one HK.out h hkq.out
          · exact absurd (List.mem_of_getElem? hkq.out) (h y))
        rw [svS y] at hcell
        clear hmt
        go_wp2
        go_quiet (fail)
        go_wp2
        go_ret
        exact ⟨by rw [ey.out]; rfl, below_drewN hB.out _⟩
      · have hz : ((p : Int) == (q1 : Int) && (f : Int) == (e : Int)) = false := by
          rw [Bool.and_eq_false_iff, beq_eq_false_iff_ne, beq_eq_false_iff_ne]
          by_cases h : p = q1
          · exact .inr fun e' => hmt ⟨h, by omega⟩
          · exact .inl fun e' => h (by omega)
        have hno' : Hid (∀ u, u < j + 1 → ∀ y, K[u]? ≠ some ((q1, q2), y)) := fun u hu y' hy' => by
          by_cases hu' : u < j
          · exact hno.out u hu' y' hy'
          · obtain rfl : u = j := by omega
            rw [hkq.out] at hy'
            injection hy' with hy'
            injection hy' with h1 _
            injection h1 with h1 h2
            have e1 := hf.out
            have e2 := he.out
            exact hmt ⟨h1, by omega⟩
        clear hmt
        go_wp2
        go_quiet (fail)
        go_wp2
        exact ⟨⟨j + 1, by go_num, by omega, hno', hS, below_drewN hB.out _⟩, by simp [intOf]; omega⟩
    · obtain rfl : j = n := by omega
      have c0 : ¬ (j : Int) < (j : Int) := by omega
      rcases hc.out with h | ⟨_, p, m, x1, y1, hq3, rfl, h1, h2⟩
      · exfalso
        obtain ⟨i, hi, hi'⟩ := List.mem_iff_getElem.1 h
        exact hno.out i (by have := hm.out; omega) x (by rw [List.getElem?_eq_getElem hi, hi'])
      · injection hq3 with hq3 hq4
        subst hq3 hq4
        obtain ⟨M, hM⟩ : ∃ M : Nat, Hid (q1 + m = M) := ⟨_, rfl⟩
        have e1 := he.out
        have hMe : Hid (M + m = e) := by unfold Hid; have := hM.out; omega
        have d1 : ((q1 : Int) + (e : Int)).tdiv 2 = (M : Int) := by rw [Int.tdiv_eq_ediv_of_nonneg (by omega)]; have := hM.out; omega
        have d2 : IntKind.i64.wrap (M : Int) = (M : Int) := wrap_small _ (by omega) (by have := hM.out; omega)
        have i1 := h1 wr (HO.out.below hB.out) (HA.out.below hB.out (Nat.le_refl _))
        have i2 := fun w' (hb : Below w.heap.size w w') => h2 w' (HO.out.below hb) (HA.out.below hb (Nat.le_refl _))
        simp only at i1 i2
        rw [hM.out] at i1 i2
        rw [hMe.out] at i2
        obtain ⟨N', c, hNc⟩ : ∃ N' c, Hid (nodeOf x1 y1 = (N', c)) := ⟨_, _, rfl⟩
        have eN := hid (show Tree.nd x1 y1 = N' by rw [← nodeOf_nd, hNc.out])
        have i3 := fun w' => rnode_at hNc w'
        clear hno h1 h2 HO HA hc
        go_wp2_with (first
          | (go_at_call 73; (with_reducible refine i1.mono ?_); rintro r w2 ⟨rfl, hw2⟩; have S2 := hS.out.below hw2; have s0 := S2.c0; have s1 := S2.c1; have B2 := hid (hB.out.trans (hw2.mono hB.out.size)))
          | (go_at_call 73; (with_reducible refine (i2 _ B2.out).mono ?_); rintro r w3 ⟨rfl, hw3⟩)
          | (go_at_call 64; refine (i3 _).mono ?_; rintro r w4 ⟨rfl, hw4⟩))
        go_ret
        exact ⟨by rw [eN.out]; rfl, (B2.out.trans (hw3.mono B2.out.size)).trans (hw4.mono (Nat.le_trans B2.out.size hw3.size))⟩
theorem der_in {K : List ((Nat × Nat) × List UInt8)} {A C : Nat} (hK : Cut.Cov A C (K.map Prod.fst)) {q : Nat × Nat} {x : List UInt8} (hd : Cut.Der K q x) : q.1 + q.2 ≤ C := by
  induction hd with
  | known hm => exact Cut.Cov.within hK _ (List.mem_map_of_mem (f := Prod.fst) hm)
  | @node p n x y _ _ _ _ ih2 =>
    have : p + n + n ≤ C := ih2
    show p + 2 * n ≤ C
    omega
theorem rhash_any {K : List ((Nat × Nat) × List UInt8)} {A C : Nat} (hK : Cut.Cov A C (K.map Prod.fst)) (hC : C ≤ 1099511627776) (vs : Value) (a : Option Addr) (n cap : Nat) (hm : Hid (K.length = n)) (hn : n ≤ 1000000) {q : Nat × Nat} {x : List UInt8} (hd : Cut.Der K q x) : HashAt K vs a n cap q x := by
  have hin : ∀ {q : Nat × Nat} {x : List UInt8}, Cut.Der K q x → q.1 + q.2 ≤ 1099511627776 := fun h => Nat.le_trans (der_in hK h) hC
  induction hd with
  | known hmem => exact rhash_step hK vs a n cap hm hn _ _ (hin (.known hmem)) (.inl hmem)
  | node h1 h2 hno ih1 ih2 => exact rhash_step hK vs a n cap hm hn _ _ (hin (.node h1 h2 hno)) (.inr ⟨hno, _, _, _, _, rfl, rfl, ih1, ih2⟩)
end Go.Proofs.YtnnohacciikofaaDoor
