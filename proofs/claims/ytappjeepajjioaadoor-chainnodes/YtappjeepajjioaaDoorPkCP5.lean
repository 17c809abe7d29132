import Derived.Test.YtappjeepajjioaaDoorPkCP2
import Derived.Test.YtappjeepajjioaaDoorPkSP28
import Derived.Test.YtappjeepajjioaaDoorPkTL1
namespace Go.Proofs.YtappjeepajjioaaDoor
open Go.RowKit Go.Shelf
namespace Chn
/-- what was told, as a value: b its map, v its list -/
structure Tv (w : World) (b : Nat) (v : Value) (K : List (Nat × Nat)) : Prop where
  own : OwnP w v K
  mp : ∃ f, Mc w b f ∧ ∀ s j, f s = some j ↔ K[j]? = some s
  lo : ∀ s ∈ K, s.1 < s.2 ∧ s.2 ≤ 1099511627776
  vb : v.ownBlock ≠ some b
theorem Tv.below {w w' : World} {b : Nat} {v : Value} {K : List (Nat × Nat)} (h : Tv w b v K) (hk : Below w.heap.size w w') : Tv w' b v K := by
  obtain ⟨f, hf, hg⟩ := h.mp
  exact ⟨h.own.below hk, ⟨f, hf.below hk hf.lt, hg⟩, h.lo, h.vb⟩
theorem Tv.lt {w : World} {b : Nat} {v : Value} {K : List (Nat × Nat)} (h : Tv w b v K) : b < w.heap.size := by
  obtain ⟨f, hf, _⟩ := h.mp
  exact hf.lt
theorem Td.tv {w : World} {q b : Nat} {v : Value} {K : List (Nat × Nat)} (h : Td w q b v K) : Tv w b v K := ⟨h.own, h.mp, h.lo, h.vb⟩
/-- while a chain's spans are told -/
structure TI (w w' : World) (r q b : Nat) (v : Value) (K : List (Nat × Nat)) : Prop where
  td : Td w' q b v K
  res : w'.heap[r]? = some (.cells #[.slice none 0 0, .map none] 56 (0, 0))
  bel : Below w.heap.size w w'
  rq : r ≠ q
  rb : r ≠ b
  rv : v.ownBlock ≠ some r
  ge : ∀ k, Td.F q b v k → w.heap.size ≤ k
theorem TI.below {w w' w2 : World} {r q b : Nat} {v : Value} {K : List (Nat × Nat)} (h : TI w w' r q b v K) (hb : Below w'.heap.size w' w2) : TI w w2 r q b v K :=
  ⟨h.td.below hb, (hb.block r (lt_of_heap h.res)).trans h.res, h.bel.trans (hb.mono h.bel.size), h.rq, h.rb, h.rv, h.ge⟩
theorem TI.add {w w' w2 : World} {r q b : Nat} {v v' : Value} {K K' : List (Nat × Nat)} (h : TI w w' r q b v K) (hd : Td w2 q b v' K') (hk : Keep (Td.F q b v) w' w2) (ha : ∀ k, v'.ownBlock = some k → v.ownBlock = some k ∨ w'.heap.size ≤ k) : TI w w2 r q b v' K' := by
  have hr := lt_of_heap h.res
  refine ⟨hd, (hk.block r hr ?_).trans h.res, ?_, h.rq, h.rb, fun e => ?_, ?_⟩
  · rintro (e | e | e)
    · exact h.rq e
    · exact h.rb e
    · exact h.rv e
  · exact h.bel.trans (keep_belowC hk h.bel.size h.ge)
  · rcases ha r e with q | q
    · exact h.rv q
    · omega
  · rintro k (e | e | e)
    · exact h.ge k (.inl e)
    · exact h.ge k (.inr (.inl e))
    · rcases ha k e with q | q
      · exact h.ge k (.inr (.inr q))
      · have := h.bel.size; omega
/-- a list besides -/
structure Bes (w' : World) (q b : Nat) (v vL : Value) (L : List (Nat × Nat)) : Prop where
  own : OwnP w' vL L
  off : ∀ k, vL.ownBlock = some k → ¬ Td.F q b v k
theorem Bes.below {w' w2 : World} {q b : Nat} {v vL : Value} {L : List (Nat × Nat)} (h : Bes w' q b v vL L) (hb : Below w'.heap.size w' w2) : Bes w2 q b v vL L := ⟨h.own.below hb, h.off⟩
theorem Bes.add {w' w2 : World} {q b : Nat} {v v' vL : Value} {L : List (Nat × Nat)} (h : Bes w' q b v vL L) (hk : Keep (Td.F q b v) w' w2) (ha : ∀ k, v'.ownBlock = some k → v.ownBlock = some k ∨ w'.heap.size ≤ k) : Bes w2 q b v' vL L := by
  refine ⟨h.own.keep hk h.off, fun k hk' => ?_⟩
  have hl := h.own.lt k hk'
  rintro (e | e | e)
  · exact h.off k hk' (.inl e)
  · exact h.off k hk' (.inr (.inl e))
  · rcases ha k e with q | q
    · exact h.off k hk' (.inr (.inr q))
    · omega
theorem make_places (w : World) : (Instr.makeMap 54 none).run Tryd.prog w = .ok (.map (some w.heap.size)) (w.alloc (.map #[] 0)) := by
  simp [Instr.makeMap]
theorem sizeTd (a b : Value) : (Tryd.prog.info? 56).map (·.size) = some #[a, b].size := by kernel_rfl
/-- told of nothing -/
theorem TI.start (w : World) : TI w (((w.alloc (.cells #[.slice none 0 0, .map none] 56)).alloc (.map #[] 0)).alloc (.cells #[.slice none 0 0, .map (some (w.heap.size + 1))] 56)) w.heap.size (w.heap.size + 1 + 1) (w.heap.size + 1) (.slice none 0 0) [] := by
  obtain ⟨w1, h1⟩ : ∃ w1, w.alloc (.cells #[.slice none 0 0, .map none] 56) = w1 := ⟨_, rfl⟩
  have z1 : w1.heap.size = w.heap.size + 1 := by rw [← h1]; simp
  have r1 : w1.heap[w.heap.size]? = some (.cells #[.slice none 0 0, .map none] 56 (0, 0)) := by rw [← h1]; exact heap_alloc_new w _
  have b1 : Below w.heap.size w w1 := by rw [← h1]; exact (Below.refl _ _).alloc (Nat.le_refl _) _
  rw [h1]
  obtain ⟨w2, h2⟩ : ∃ w2, w1.alloc (.map #[] 0) = w2 := ⟨_, rfl⟩
  have z2 : w2.heap.size = w.heap.size + 1 + 1 := by rw [← h2]; simp [z1]
  have m2 : Mc w2 (w.heap.size + 1) (fun _ => none) := by rw [← h2, ← z1]; exact Mc.new w1
  have b2 : Below w1.heap.size w1 w2 := by rw [← h2]; exact (Below.refl _ _).alloc (Nat.le_refl _) _
  rw [h2]
  have b3 : Below w2.heap.size w2 (w2.alloc (.cells #[.slice none 0 0, .map (some (w.heap.size + 1))] 56)) := (Below.refl _ _).alloc (Nat.le_refl _) _
  have h3 := heap_alloc_at w2 (.cells #[.slice none 0 0, .map (some (w.heap.size + 1))] 56) (w.heap.size + 1 + 1) z2
  refine ⟨⟨?_, ?_, frozen_of_row _ _ _ _ _ h3, OwnM.nil 2 _, ⟨_, m2.below b3 (by omega), fun s j => ⟨(fun e => by cases e), (fun e => by simp at e)⟩⟩, (fun s hs => by cases hs), by omega, by simp [Value.ownBlock], by simp [Value.ownBlock], lt_of_heap h3⟩, ?_, ?_, by omega, by omega, by simp [Value.ownBlock], ?_⟩
  · rw [cell_of_row _ _ _ _ _ _ h3]; rfl
  · rw [cell_of_row _ _ _ _ _ _ h3]; rfl
  · exact (b3.block _ (by omega)).trans ((b2.block _ (by omega)).trans r1)
  · exact (b1.trans (b2.mono (by omega))).trans (b3.mono (by omega))
  · rintro k (e | e | e)
    · omega
    · omega
    · cases e
theorem ownP_atC {w : World} {a : Option Addr} {c n : Nat} {l : List (Nat × Nat)} (h : OwnP w (.slice a n c) l) {j : Nat} {s : Nat × Nat} (hj : l[j]? = some s) : ∃ g, a = some ⟨g, 0, none⟩ ∧ g < w.heap.size ∧ w.cell? ⟨g, j * 2, none⟩ = some (.int .i64 (s.1 : Int)) ∧ w.cell? ⟨g, j * 2 + 1, none⟩ = some (.int .i64 (s.2 : Int)) := by
  obtain ⟨g, cap, e, c0, hg⟩ := h.cell (prs_get hj).1
  obtain ⟨g', cap', e', c1, _⟩ := h.cell (prs_get hj).2
  injection e with e
  injection e' with e'
  rw [e] at e'
  injection e' with e'
  injection e' with e'
  subst e'
  exact ⟨g, e, hg, c0, c1⟩
theorem ix_at {hs : List Nat} {i : Nat} (h : i < hs.length) : (ix hs)[i]? = some (hs.getD i 0 : Int) := by
  unfold ix
  rw [List.getElem?_map, getD_at h]
  rfl
set_option maxRecDepth 100000 in
set_option maxHeartbeats 2000000 in
theorem toldOf_any (hs : List Nat) (H : Hds hs) (a : Option Addr) (cap : Nat) (w : World) (hA : AtI w a (ix hs)) :
    Calls Tryd.prog 25 #[.slice a hs.length cap] w fun r w' => ∃ v b, r = .returned (.agg #[v, .map (some b)]) ∧ Tv w' b v (told hs) ∧ w.heap.size ≤ b ∧ (∀ k, v.ownBlock = some k → w.heap.size ≤ k) ∧ Below w.heap.size w w' := by
  have hmk := make_places
  have t0 := hid (TI.start w)
  have l1 := H.ne
  have l2 := H.le
  obtain ⟨x, rfl⟩ := hA.pos (by simp [ix]; omega)
  have HA := hid hA
  have HH := hid H
  obtain ⟨m, hm⟩ : ∃ m, hs.length = m := ⟨_, rfl⟩
  have HM := hid hm
  rw [hm] at l1 l2 ⊢
  have w1 : IntKind.i64.wrap ((m : Int) - 1) = (m : Int) - 1 := by rw [IntKind.wrap_i64]; omega
  have i0 := fun (i : Nat) (hi : i + 1 < hs.length) w' => betweenC (hs.getD i 0) (hs.getD (i + 1) 0) (H.pair hi).1 (by have := H.pair hi; omega) (H.pair hi).2.2 w'
  have HI := hid i0
  clear hA H hm i0
  go_enter Tryd.func25, Tryd.ntmps25
  go_wp2
  generalize hw0 : (((w.alloc (.cells #[.slice none 0 0, .map none] 56)).alloc (.map #[] 0)).alloc (.cells #[.slice none 0 0, .map (some (w.heap.size + 1))] 56)) = w0 at *
  clear hw0
  go_loopw [4, 6, 12] (fun _ _ i w' => ∃ (j : Nat) (v : Value), j ≤ m - 1 ∧ i = .int .i64 (j : Int) ∧ Hid (TI w w' w.heap.size (w.heap.size + 1 + 1) (w.heap.size + 1) v (tol hs j))) (fun _ _ i _ => m - (intOf i).toNat)
  case atStart => exact ⟨0, _, by omega, rfl, t0⟩
  case round =>
    clear t0
    obtain ⟨j, v, hj, rfl, hT⟩ := hrel
    by_cases hjm : j < m - 1
    · have b0 : (j : Int) < (m : Int) - 1 := by omega
      have hj1 : j + 1 < hs.length := by rw [HM.out]; omega
      have hj0 : j < hs.length := by omega
      have i1 := HI.out j hj1
      have pr := HH.out.pair hj1
      have A1 := HA.out.below hT.out.bel (Nat.le_refl _)
      have HAW := hid (fun w' (h : Below wr.heap.size wr w') => A1.below h (Nat.le_refl _))
      have fact : ∀ w', AtI w' (some x) (ix hs) → w'.cell? (x.add j) = some (.int .i64 (hs.getD j 0 : Int)) ∧ w'.cell? ⟨x.block, x.off + (j + 1), none⟩ = some (.int .i64 (hs.getD (j + 1) 0 : Int)) := fun w' h => by
        obtain ⟨y, hy, _, h0⟩ := h j _ (ix_at hj0)
        obtain ⟨z, hz, _, h1⟩ := h (j + 1) _ (ix_at hj1)
        obtain rfl := Option.some.inj hy
        obtain rfl := Option.some.inj hz
        refine ⟨h0, ?_⟩
        rw [← h1]
        simp [Addr.add]
      have x0 := fact _ A1
      have HF := hid fact
      have hL : Hid (tol hs (j + 1) = tells (tol hs j) (prf (hs.getD j 0) (hs.getD (j + 1) 0))) := rfl
      have hlo := prf_lo pr.1 (Nat.le_of_lt pr.2.1)
      have hln := prf_len pr.1 (Nat.le_of_lt pr.2.1) pr.2.2
      have hKl := hid (tol_few HH.out (i := j) hj0)
      have p3 := pr.2.2
      unfold Hid at HF
      generalize hs.getD j 0 = A at *
      generalize hs.getD (j + 1) 0 = B at *
      have HF := hid HF
      generalize prf A B = L at *
      have HL := hid hlo
      have v1 : IntKind.i64.wrap ((j : Int) + 1) = (j : Int) + 1 := by rw [IntKind.wrap_i64]; omega
      have v2 : ((j : Int) + 1).toNat = j + 1 := by omega
      have v3 : (0 : Int) ≤ (j : Int) + 1 := by omega
      have v4 : (j : Int) + 1 < (m : Int) := by omega
      have v5 : (j : Int) < (m : Int) := by omega
      have v6 : (0 : Int) ≤ (j : Int) := by omega
      clear fact A1 pr hlo
      go_wp2
      go_region_held3 (fun w' => w'.cell? (x.add j) = some (.int .i64 (A : Int)) ∧ w'.cell? ⟨x.block, x.off + (j + 1), none⟩ = some (.int .i64 (B : Int))) (first | exact x1 | exact x0) (first | (go_at_call 33; refine (i1 _).mono ?_; rintro r w1 ⟨b1, vL, rfl, OL, hvL⟩; have b1 := drewBelow8 b1; have x1 := HF.out _ (HAW.out _ b1); have T1 := hid (hT.out.below b1); have BS1 : Hid (Bes w1 (w.heap.size + 1 + 1) (w.heap.size + 1) v vL L) := ⟨OL, fun k hk hf => by have h1 : wr.heap.size ≤ k := hvL k hk; have := hT.out.td.Flt k hf; omega⟩; obtain ⟨la, lc, rfl, _, _⟩ := OL.shape; clear OL hvL b1))
      clear x0 x1 hT HAW HF
      obtain ⟨nl, hnl⟩ : ∃ nl, L.length = nl := ⟨_, rfl⟩
      have HNL := hid hnl
      rw [hnl] at hln
      unfold Hid at BS1
      rw [hnl] at BS1 ⊢
      have BS1 := hid BS1
      clear hnl
      go_wp2
      go_loopw [6, 26] (fun _ i w' => ∃ (k : Nat) (v : Value), k ≤ nl ∧ i = .int .i64 (k : Int) ∧ Hid (TI w w' w.heap.size (w.heap.size + 1 + 1) (w.heap.size + 1) v (tells (tol hs j) (L.take k))) ∧ Hid (Bes w' (w.heap.size + 1 + 1) (w.heap.size + 1) v (.slice la nl lc) L)) (fun _ i _ => nl - (intOf i).toNat)
      case atStart => exact ⟨0, v, by omega, rfl, T1, BS1⟩
      case round =>
        clear T1 BS1
        obtain ⟨k, v, hk, rfl, hT, hBs⟩ := hrel
        by_cases hkl : k < nl
        · have e0 : (k : Int) < (nl : Int) := by omega
          have e1 : (0 : Int) ≤ (k : Int) := by omega
          have hkL : k < L.length := by rw [HNL.out]; exact hkl
          obtain ⟨⟨sx, sy⟩, hs'⟩ : ∃ s, L[k]? = some s := ⟨_, List.getElem?_eq_getElem hkL⟩
          obtain ⟨g, rfl, hg, c0, c1⟩ := ownP_atC hBs.out.own hs'
          have hss := HL.out _ (List.mem_of_getElem? hs')
          have hsx : sx < sy := hss.1
          have hsy : sy ≤ 1099511627776 := by have : sy ≤ B := hss.2; omega
          have bA := (Below.refl wr.heap.size wr).alloc (Nat.le_refl _) (.cells #[.int .i64 (sx : Int), .int .i64 (sy : Int)] 45)
          have TA := hid (hT.out.below bA)
          have BA := hid (hBs.out.below bA)
          have SA := hid (SpI.new wr (sx : Int) (sy : Int))
          have nx := hid (tells_next (K := tol hs j) hs')
          have hKn : Hid ((tells (tol hs j) (L.take k)).length ≤ 1000000) := by
            have a1 := tells_len (L.take k) (tol hs j)
            have a2 : (L.take k).length ≤ nl := by rw [List.length_take, HNL.out]; omega
            have := hKl.out
            unfold Hid
            omega
          unfold Hid at TA hKn nx
          generalize tells (tol hs j) (L.take k) = K at *
          have i3 := canFold_any _ sx sy (Nat.le_refl _) hsx hsy _ TA.td
          have TA := hid TA
          clear hT hBs bA hss hs'
          cases hc : can K (sx, sy) with
          | true =>
            have nx : Hid (tells (tol hs j) (L.take (k + 1)) = K) := by unfold Hid; rw [nx]; unfold tell; rw [if_pos hc]
            rw [hc] at i3
            clear hc
            go_wp2_with (go_at_call 34; refine i3.mono ?_; rintro r w2 ⟨rfl, b2⟩; have T2 := hid (TA.out.below b2); have B2 := hid (BA.out.below b2); clear b2)
            exact ⟨⟨k + 1, v, by omega, by go_num, (by rw [nx.out]; exact T2), B2⟩, by simp [intOf]; omega⟩
          | false =>
            have nx : Hid (tells (tol hs j) (L.take (k + 1)) = K ++ [(sx, sy)]) := by unfold Hid; rw [nx]; unfold tell; rw [if_neg (by rw [hc]; simp)]
            have hnk : ¬ (sx, sy) ∈ K := fun e => by rw [can_mem hsx e] at hc; cases hc
            rw [hc] at i3
            clear hc
            go_wp2_with (first
              | (go_at_call 34; refine i3.mono ?_; rintro r w2 ⟨rfl, b2⟩; have T2 := hid (TA.out.below b2); have B2 := hid (BA.out.below b2); have s2 := SA.out.below b2; have s20 := s2.c0; have s21 := s2.c1; have i4 := addC_any T2.out.td hsx hsy hnk hKn; clear b2 s2)
              | (go_at_call 35; refine i4.mono ?_; rintro r w3 ⟨rfl, v', D3, K3, a3, _, _⟩; have T3 := hid (T2.out.add D3 K3 a3); have B3 := hid (B2.out.add K3 a3); clear D3 K3 a3 i4))
            exact ⟨⟨k + 1, v', by omega, by go_num, (by rw [nx.out]; exact T3), B3⟩, by simp [intOf]; omega⟩
        · obtain rfl : k = nl := by omega
          have e0 : ¬ (k : Int) < (k : Int) := by omega
          have T9 : Hid (TI w wr w.heap.size (w.heap.size + 1 + 1) (w.heap.size + 1) v (tol hs (j + 1))) := by
            have := hT.out
            rw [← HNL.out, List.take_length, ← hL.out] at this
            exact this
          clear hT hBs
          go_wp2
          exact ⟨⟨j + 1, v, by omega, by go_num, T9⟩, by simp [intOf]; omega⟩
    · obtain rfl : j = m - 1 := by omega
      have b0 : ¬ ((m - 1 : Nat) : Int) < (m : Int) - 1 := by omega
      have TD := hT.out.td
      have d0 := TD.c0
      have d1 := TD.c1
      have f0 := frozen_of_row _ _ 0 _ _ hT.out.res
      have f1 := frozen_of_row _ _ 1 _ _ hT.out.res
      have r0 : wr.cell? ⟨w.heap.size, 0, none⟩ = some (.slice none 0 0) := by rw [cell_of_row _ _ _ _ _ _ hT.out.res]; rfl
      have r1 : wr.cell? ⟨w.heap.size, 1, none⟩ = some (.map none) := by rw [cell_of_row _ _ _ _ _ _ hT.out.res]; rfl
      obtain ⟨va, vn, vc, rfl⟩ := ownM_sl TD.own
      clear TD
      go_wp2
      have R1 := heap_setCell_same _ w.heap.size 1 _ _ (.map (some (w.heap.size + 1))) (heap_setCell_same wr w.heap.size 0 _ _ (.slice va vn vc) hT.out.res)
      refine bodyPost_ret (v := .agg #[.slice va vn vc, .map (some (w.heap.size + 1))]) (results_cell_row rfl _ _ w.heap.size 56 _ (0, 0) _ rfl R1 Tryd.underlying56 rfl (sizeTd _ _)) rfl ⟨_, _, rfl, ?_, by omega, ?_, ?_⟩
      · have k1 : Keep (fun k => k = w.heap.size) wr ((wr.setCell ⟨w.heap.size, 0, none⟩ (.slice va vn vc)).setCell ⟨w.heap.size, 1, none⟩ (.map (some (w.heap.size + 1)))) := (Keep.ofSet (S := fun k => k = w.heap.size) wr w.heap.size 0 (.slice va vn vc) rfl).trans (Keep.ofSet (S := fun k => k = w.heap.size) _ w.heap.size 1 (.map (some (w.heap.size + 1))) rfl) fun _ _ e => e
        have t1 := (hT.out.td.keep k1 (by
          rintro k (e | e | e) e2
          · omega
          · omega
          · rw [e2] at e; exact hT.out.rv e)).tv
        have e1 : told hs = tol hs (m - 1) := by unfold told; rw [HM.out]
        rw [e1]
        exact t1
      · intro k hk
        exact hT.out.ge k (.inr (.inr hk))
      · exact Below.setCell (p := ⟨w.heap.size, 1, none⟩) (Below.setCell (p := ⟨w.heap.size, 0, none⟩) hT.out.bel (Nat.le_refl _) _) (Nat.le_refl _) _
end Chn
end Go.Proofs.YtappjeepajjioaaDoor

namespace Go.Proofs.YtappjeepajjioaaDoor
open Go.RowKit Go.Shelf
/-- H5 as the document has it, over all that is known: is it one of known? -/
def fdF (K : List Sub) (b e : Int) : Option Sub := K.find? (fun q => decide (q.1 = (b, e)))
/-- can a span be folded? -/
def fdB : Nat → Nat → Nat → List Sub → Bool
  | 0, _, _, _ => false
  | f + 1, b, n, K => if (fdF K (b : Int) ((b + n : Nat) : Int)).isSome then true else
      if n < 2 ∨ (witS (b : Int) ((b + n : Nat) : Int) K).length = 0 then false else
      fdB f b (Tree.sp n) K && fdB f (b + Tree.sp n) (n - Tree.sp n) K
/-- its hash -/
def fdH : Nat → Nat → Nat → List Sub → ByteArray
  | 0, _, _, _ => ⟨#[]⟩
  | f + 1, b, n, K => match fdF K (b : Int) ((b + n : Nat) : Int) with
    | some q => q.2
    | none => ⟨(Tree.nd (fdH f b (Tree.sp n) K).data.toList (fdH f (b + Tree.sp n) (n - Tree.sp n) K).data.toList).toArray⟩
theorem hasI_mono {b e b' e' x y : Int} (h1 : b' ≤ b) (h2 : e ≤ e') (h : hasI b e x y = true) : hasI b' e' x y = true := by
  unfold hasI at h ⊢
  simp only [decide_eq_true_eq] at h ⊢
  omega
theorem witS_wit {b e b' e' : Int} (h1 : b' ≤ b) (h2 : e ≤ e') (K : List Sub) : witS b e (witS b' e' K) = witS b e K := by
  unfold witS
  rw [List.filter_filter]
  congr 1
  funext q
  cases h : hasI b e q.1.1 q.1.2 with
  | false => simp
  | true => rw [hasI_mono h1 h2 h]; rfl
theorem fdF_wit {b e : Int} (h : b < e) (K : List Sub) : fdF (witS b e K) b e = fdF K b e := by
  unfold fdF witS
  rw [List.find?_filter]
  congr 1
  funext q
  by_cases hq : q.1 = (b, e)
  · have : hasI b e q.1.1 q.1.2 = true := by
      rw [hq]; unfold hasI; simp; omega
    simp [this]
  · simp [hq]
theorem fdF_none {b e : Int} (h : b < e) {K : List Sub} (h0 : (witS b e K).length = 0) : fdF K b e = none := by
  rw [← fdF_wit h, List.length_eq_zero_iff.1 h0]; rfl
theorem fdB_none {f b n : Nat} {K : List Sub} (hn : 1 ≤ n) (h0 : (witS (b : Int) ((b + n : Nat) : Int) K).length = 0) : fdB f b n K = false := by
  cases f with
  | zero => rfl
  | succ f => rw [fdB, fdF_none (by omega) h0, if_neg (by simp), if_pos (.inr h0)]
/-- the program's way, which looks at what is within alone -/
theorem foS_fd : ∀ (f b n : Nat) (K : List Sub), n ≤ f → 1 ≤ n → foS f b n (witS (b : Int) ((b + n : Nat) : Int) K) = if fdB f b n K = true then some (fdH f b n K) else none
  | 0, b, n, K, h, h1 => by omega
  | f + 1, b, n, K, h, h1 => by
    have e1 := fdF_wit (b := (b : Int)) (e := ((b + n : Nat) : Int)) (by omega) K
    rw [foS, fdB, fdH]
    unfold fdF at e1 ⊢
    rw [e1]
    cases hc : K.find? (fun q => decide (q.1 = ((b : Int), ((b + n : Nat) : Int)))) with
    | some q => simp
    | none =>
      simp only [Option.isSome_none, Bool.false_eq_true, if_false]
      by_cases h2 : n < 2
      · simp [h2]
      · have s1 := Tree.sp_lt (n := n) (by omega)
        have s2 := Tree.sp_pos (n := n) (by omega)
        rw [if_neg h2, witS_wit (by omega) (by omega), witS_wit (by omega) (by omega)]
        have eR : b + Tree.sp n + (n - Tree.sp n) = b + n := by omega
        have iL := foS_fd f b (Tree.sp n) K (by omega) (by omega)
        have iR := foS_fd f (b + Tree.sp n) (n - Tree.sp n) K (by omega) (by omega)
        rw [eR] at iR
        by_cases hl : (witS (b : Int) ((b + Tree.sp n : Nat) : Int) K).length = 0
        · rw [if_pos (.inl hl), fdB_none (f := f) (b := b) (n := Tree.sp n) (by omega) hl, Bool.false_and]
          by_cases hw : n < 2 ∨ (witS (b : Int) ((b + n : Nat) : Int) K).length = 0
          · rw [if_pos hw]; simp
          · rw [if_neg hw]; simp
        · by_cases hr : (witS ((b + Tree.sp n : Nat) : Int) ((b + n : Nat) : Int) K).length = 0
          · rw [if_pos (.inr hr), fdB_none (f := f) (b := b + Tree.sp n) (n := n - Tree.sp n) (by omega) (by rw [eR]; exact hr), Bool.and_false]
            by_cases hw : n < 2 ∨ (witS (b : Int) ((b + n : Nat) : Int) K).length = 0
            · rw [if_pos hw]; simp
            · rw [if_neg hw]; simp
          · have hw : ¬ (n < 2 ∨ (witS (b : Int) ((b + n : Nat) : Int) K).length = 0) := by
              rintro (hw | hw)
              · exact h2 hw
              · apply hl
                have := witS_len (b : Int) ((b + Tree.sp n : Nat) : Int) (witS (b : Int) ((b + n : Nat) : Int) K)
                rw [witS_wit (by omega) (by omega)] at this
                omega
            rw [if_neg (by omega), if_neg hw, iL, iR]
            cases hA : fdB f b (Tree.sp n) K with
            | false => simp
            | true =>
              cases hB : fdB f (b + Tree.sp n) (n - Tree.sp n) K with
              | false => simp
              | true => simp
end Go.Proofs.YtappjeepajjioaaDoor

namespace Go.Proofs.YtappjeepajjioaaDoor
open Go.RowKit Go.Shelf
namespace Chn
abbrev pmC (L : List (Nat × Nat)) : List (Int × Int) := L.map fun s => ((s.1 : Int), (s.2 : Int))
theorem prd_find (b e : Nat) : ∀ (K : List (Nat × Nat)) (H : List (List UInt8)), K.length = H.length → fdF (prd (pmC K) (bas H)) (b : Int) (e : Int) = if (b, e) ∈ K then some (((b : Int), (e : Int)), ⟨(Tree.hashAt K H (b, e)).toArray⟩) else none
  | [], [], _ => by simp [fdF, prd, bas]
  | [], _ :: _, h => by cases h
  | _ :: _, [], h => by cases h
  | k :: K, x :: H, h => by
    have ih := prd_find b e K H (by simpa using h)
    have e1 : prd (pmC (k :: K)) (bas (x :: H)) = (((k.1 : Int), (k.2 : Int)), ⟨x.toArray⟩) :: prd (pmC K) (bas H) := rfl
    unfold fdF at ih ⊢
    rw [e1, List.find?_cons, Tree.hashAt]
    by_cases hk : k = (b, e)
    · subst hk
      simp
    · have hne : decide ((((k.1 : Int), (k.2 : Int)), (⟨x.toArray⟩ : ByteArray)).1 = ((b : Int), (e : Int))) = false := by
        rw [decide_eq_false_iff_not]
        intro q
        apply hk
        have q1 : (k.1 : Int) = (b : Int) := congrArg Prod.fst q
        have q2 : (k.2 : Int) = (e : Int) := congrArg Prod.snd q
        exact Prod.ext (by show k.1 = b; omega) (by show k.2 = e; omega)
      rw [hne, ih, if_neg hk]
      have hm : (b, e) ∈ k :: K ↔ (b, e) ∈ K := by
        rw [List.mem_cons]
        exact ⟨fun h => h.resolve_left fun q => hk q.symm, .inr⟩
      by_cases hK : (b, e) ∈ K
      · rw [if_pos hK, if_pos (hm.2 hK)]
      · rw [if_neg hK, if_neg (fun q => hK (hm.1 q))]
theorem prd_in {K : List (Nat × Nat)} {H : List (List UInt8)} (hl : K.length = H.length) {s : Nat × Nat} (hs : s ∈ K) : ∃ x, (((s.1 : Int), (s.2 : Int)), x) ∈ prd (pmC K) (bas H) := by
  have := prd_find s.1 s.2 K H hl
  rw [if_pos hs] at this
  exact ⟨_, List.mem_of_find?_eq_some this⟩
theorem fdB_can {K : List (Nat × Nat)} {H : List (List UInt8)} (hl : K.length = H.length) : ∀ (f b n : Nat), n ≤ f → 1 ≤ n → fdB f b n (prd (pmC K) (bas H)) = Tree.canF f b n K
  | 0, b, n, h, h1 => by omega
  | f + 1, b, n, h, h1 => by
    rw [fdB, Tree.canF, prd_find b (b + n) K H hl]
    by_cases hk : (b, b + n) ∈ K
    · rw [if_pos hk, if_pos hk]; simp
    · rw [if_neg hk, if_neg hk, if_neg (by simp)]
      by_cases h2 : n < 2
      · rw [if_pos (.inl h2), if_pos h2]
      · have s1 := Tree.sp_lt (n := n) (by omega)
        have s2 := Tree.sp_pos (n := n) (by omega)
        rw [if_neg h2, fdB_can hl f b (Tree.sp n) (by omega) (by omega), fdB_can hl f (b + Tree.sp n) (n - Tree.sp n) (by omega) (by omega)]
        split
        · rename_i hw
          have hw := hw.resolve_left h2
          cases hc : Tree.canF f b (Tree.sp n) K with
          | false => rfl
          | true =>
            obtain ⟨s, hs, a1, a2, a3⟩ := Tree.can_within K f b (Tree.sp n) (by omega) (by omega) hc
            obtain ⟨x, hx⟩ := prd_in hl hs
            have : (((s.1 : Int), (s.2 : Int)), x) ∈ witS (b : Int) ((b + n : Nat) : Int) (prd (pmC K) (bas H)) := by
              unfold witS
              rw [List.mem_filter]
              refine ⟨hx, ?_⟩
              unfold hasI
              rw [decide_eq_true_eq]
              show (b : Int) ≤ (s.1 : Int) ∧ (s.1 : Int) < (s.2 : Int) ∧ (s.2 : Int) ≤ ((b + n : Nat) : Int)
              omega
            rw [List.length_eq_zero_iff.1 hw] at this
            cases this
        · rfl
theorem fdH_fld {K : List (Nat × Nat)} {H : List (List UInt8)} (hl : K.length = H.length) : ∀ (f b n : Nat), n ≤ f → 1 ≤ n → Tree.canF f b n K = true → fdH f b n (prd (pmC K) (bas H)) = ⟨(Tree.fldF f b n K H).toArray⟩
  | 0, b, n, h, h1, _ => by omega
  | f + 1, b, n, h, h1, hc => by
    rw [Tree.canF] at hc
    rw [fdH, Tree.fldF, prd_find b (b + n) K H hl]
    by_cases hk : (b, b + n) ∈ K
    · rw [if_pos hk, if_pos hk]
    · rw [if_neg hk] at hc
      by_cases h2 : n < 2
      · rw [if_pos h2] at hc; cases hc
      · have s1 := Tree.sp_lt (n := n) (by omega)
        have s2 := Tree.sp_pos (n := n) (by omega)
        rw [if_neg h2, Bool.and_eq_true] at hc
        rw [if_neg hk, if_neg hk]
        simp only []
        rw [fdH_fld hl f b (Tree.sp n) (by omega) (by omega) hc.1, fdH_fld hl f (b + Tree.sp n) (n - Tree.sp n) (by omega) (by omega) hc.2]
theorem foS_can {K : List (Nat × Nat)} {H : List (List UInt8)} (hl : K.length = H.length) {x y : Nat} (hxy : x < y) : foS (y - x) x (y - x) (witS (x : Int) (y : Int) (prd (pmC K) (bas H))) = if can K (x, y) = true then some ⟨(fld K H (x, y)).toArray⟩ else none := by
  have e := foS_fd (y - x) x (y - x) (prd (pmC K) (bas H)) (Nat.le_refl _) (by omega)
  rw [show x + (y - x) = y by omega, fdB_can hl _ _ _ (Nat.le_refl _) (by omega)] at e
  rw [e]
  unfold can fld
  dsimp only
  by_cases hc : Tree.canF (y - x) x (y - x) K = true
  · rw [if_pos hc, if_pos hc, fdH_fld hl _ _ _ (Nat.le_refl _) (by omega) hc]
  · rw [if_neg hc, if_neg hc]
theorem insB_C {n b e : Nat} (hn : 1 ≤ n) (hn2 : n ≤ 1099511627776) (h : Tree.insF n 0 n b e = true) : insB n b e = true := by
  have := Tree.insF_in _ _ _ _ _ h hn
  unfold insB
  rw [Bool.and_eq_true]
  exact ⟨decide_eq_true (by omega), by simpa using h⟩
/-- H5 of what is told -/
theorem foldA_can {n : Nat} {K : List (Nat × Nat)} {H : List (List UInt8)} {x y : Nat} (hn : 1 ≤ n) (hn2 : n ≤ 1099511627776) (hi : Tree.insF n 0 n x y = true) (hl : K.length = H.length) (h4 : K.length ≤ 4096) (hh : hsB8 H = true) (hc : can K (x, y) = true) :
    foldA (n : Int) (pmC K) H (x : Int) (y : Int) = (⟨(fld K H (x, y)).toArray⟩, 0) := by
  have hin := Tree.insF_in _ _ _ _ _ hi hn
  have e := foS_can hl (x := x) (y := y) (by omega)
  rw [if_pos hc] at e
  unfold foldA
  rw [if_pos (by omega), if_pos (by simp [pmC]; omega), if_pos hh, if_pos (insB_C hn hn2 hi), Int.toNat_natCast, Int.toNat_natCast, e]
theorem foldA_not {n : Int} {K : List (Nat × Nat)} {H : List (List UInt8)} {x y : Nat} (hxy : x < y) (hl : K.length = H.length) (hc : can K (x, y) = false) :
    (foldA n (pmC K) H (x : Int) (y : Int)).2 ≠ 0 := by
  have e := foS_can hl (x := x) (y := y) hxy
  rw [if_neg (by rw [hc]; simp)] at e
  unfold foldA
  rw [Int.toNat_natCast, Int.toNat_natCast, e]
  dsimp only
  repeat' split
  all_goals simp
end Chn
end Go.Proofs.YtappjeepajjioaaDoor

namespace Go.Proofs.YtappjeepajjioaaDoor
open Go.RowKit Go.Shelf
namespace Chn
theorem OwnM.atC {w : World} {a : Option Addr} {n c : Nat} {l : List (List UInt8)} (h : OwnM 1 w (.slice a n c) n (svs l)) : At w a l := fun j p hp => by
  obtain ⟨g, cap, e, h1, h2⟩ := h.cell (j := j) (u := sv p) (by unfold svs; rw [List.getElem?_map, hp]; rfl)
  injection e with e
  refine ⟨⟨g, 0, none⟩, e, h2, ?_⟩
  rw [Addr.add_mid, Nat.zero_add]
  exact h1
theorem infoTx : (Tryd.prog.info? 9).map (fun i => (i.zero, i.size, i.bytes)) = some (some (.string ⟨#[]⟩), 1, 16) := by kernel_rfl
theorem append_txC (w : World) (v : Value) (l : List (List UInt8)) (x : ByteArray) (h : OwnM 1 w v l.length (svs l)) (hl : l.length ≤ 1000000) :
    ∃ v' w', (Builtin.append_ #[40, 40] 40 #[v, .slice (some ⟨w.heap.size, 0, none⟩) 1 1]).run Tryd.prog (w.alloc (.cells #[.string x] 9)) = .ok v' w' ∧ OwnM 1 w' v' (l ++ [x.data.toList]).length (svs (l ++ [x.data.toList])) ∧ Grow w w' v v' := by
  obtain ⟨v', w', h1, h2, h3⟩ := append_oneL 40 9 (.string ⟨#[]⟩) 16 Tryd.underlying40 infoTx rfl w v l.length (svs l) [.string x] rfl (fun u hu => by
    rw [List.mem_singleton] at hu; rw [hu]; rfl) h (by omega) (by rw [maxLen]; omega)
  refine ⟨v', w', h1, ?_, h3⟩
  have e : svs (l ++ [x.data.toList]) = svs l ++ [.string x] := by unfold svs; rw [List.map_append]; rfl
  rw [e, List.length_append]
  exact h2
/-- what is known, in memory -/
structure Kd (w : World) (q b : Nat) (v h : Value) (K : List (Nat × Nat)) (H : List (List UInt8)) : Prop where
  td : Td w q b v K
  c2 : w.cell? ⟨q, 2, none⟩ = some h
  f2 : w.frozen? ⟨q, 2, none⟩ = false
  oh : OwnM 1 w h H.length (svs H)
  hF : ∀ k, h.ownBlock = some k → ¬ Td.F q b v k
def Kd.F (q b : Nat) (v h : Value) : Nat → Prop := fun k => Td.F q b v k ∨ h.ownBlock = some k
theorem Kd.keep {w w' : World} {q b : Nat} {v h : Value} {K : List (Nat × Nat)} {H : List (List UInt8)} {S : Nat → Prop} (k : Kd w q b v h K H) (hk : Keep S w w') (hs : ∀ i, Kd.F q b v h i → ¬ S i) : Kd w' q b v h K H := by
  have eq := hk.block q k.td.lt (hs q (.inl (.inl rfl)))
  exact ⟨k.td.keep hk fun i e => hs i (.inl e), (World.cell?_of_block (w := w) eq).trans k.c2, (World.frozen?_of_block (w := w) eq).trans k.f2, k.oh.keep hk fun i e => hs i (.inr e), k.hF⟩
theorem Kd.below {w w' : World} {q b : Nat} {v h : Value} {K : List (Nat × Nat)} {H : List (List UInt8)} (k : Kd w q b v h K H) (hk : Below w.heap.size w w') : Kd w' q b v h K H := k.keep (Keep.ofBelow (S := fun _ => False) hk) fun _ _ e => e
theorem Kd.Flt {w : World} {q b : Nat} {v h : Value} {K : List (Nat × Nat)} {H : List (List UInt8)} (k : Kd w q b v h K H) : ∀ i, Kd.F q b v h i → i < w.heap.size := by
  rintro i (e | e)
  · exact k.td.Flt i e
  · exact k.oh.lt i e
/-- its blocks afterwards: the same, or new ones -/
def Nw (w : World) (q b : Nat) (v h v' h' : Value) : Prop := ∀ k, Kd.F q b v' h' k → Kd.F q b v h k ∨ w.heap.size ≤ k
theorem Nw.refl (w : World) (q b : Nat) (v h : Value) : Nw w q b v h v h := fun _ e => .inl e
set_option maxRecDepth 100000 in
set_option maxHeartbeats 4000000 in
theorem hashC_any {w : World} {q b : Nat} {v h : Value} {A K0 K : List (Nat × Nat)} {H0 H : List (List UInt8)} (k : Kd w q b v h K H) (kw : Kw A K0 H0 K H) (T : Tabs w) (hT : ∀ i, Kd.F q b v h i → 2 ≤ i) {x y n : Nat} (hn : 1 ≤ n) (hn2 : n ≤ 1099511627776) (hi : Tree.insF n 0 n x y = true) (hA : (x, y) ∈ A) (hc : can K0 (x, y) = true) (h4 : A.length ≤ 4096) :
    Calls Tryd.prog 37 #[.pointer (some ⟨q, 0, none⟩), .int .i64 (n : Int), sg x y] w fun r w' => r = .returned (sv (fld K0 H0 (x, y))) ∧ ∃ v' h' K' H', Kd w' q b v' h' K' H' ∧ Kw A K0 H0 K' H' ∧ Keep (Kd.F q b v h) w w' ∧ Nw w q b v h v' h' := by
  have hin := Tree.insF_in _ _ _ _ _ hi hn
  have hxy : x < y := by omega
  have hy : y ≤ 1099511627776 := by omega
  have S0 := SpI.new w x y
  have b0 := (Below.refl w.heap.size w).alloc (Nat.le_refl _) (.cells #[.int .i64 (x : Int), .int .i64 (y : Int)] 45)
  have k0 := k.below b0
  have D0 := k.below b0.drew
  have HK0 := hid k0
  have B0 := hid b0
  have i1 := fun w' => ends_any (x : Int) (y : Int) w'
  have HS := hid S0
  have KL := hid (Nat.le_trans (nodup_len K A kw.nd kw.sub) h4)
  have HKW := hid kw
  have HK := hid k
  by_cases hk : (x, y) ∈ K
  · obtain ⟨j, hj⟩ := List.getElem?_of_mem hk
    have hjl : j < K.length := (List.getElem?_eq_some_iff.1 hj).1
    have hjH : j < H.length := by rw [← kw.len]; exact hjl
    have hfl := kw.at (s := (x, y)) hxy hj (List.getElem?_eq_getElem hjH)
    have HFL := hid hfl
    obtain ⟨g, cap, e, h1, h2⟩ := k0.oh.cell (j := j) (u := sv H[j]) (by unfold svs; rw [List.getElem?_map, List.getElem?_eq_getElem hjH]; rfl)
    subst e
    obtain ⟨n', hn'⟩ : ∃ n', H.length = n' := ⟨_, rfl⟩
    have HN := hid hn'
    have x0 := And.intro k0.td.c1 (And.intro S0.c0 (And.intro S0.c1 (D0.td.yes hj)))
    have HJ := hid hj
    rw [hn'] at hjH
    have e1 : (j : Int) < (n' : Int) := by omega
    have e2 : (0 : Int) ≤ (j : Int) := by omega
    obtain ⟨R, hR⟩ : ∃ R, sv H[j] = .string R := ⟨_, rfl⟩
    have HR := hid hR
    rw [hR] at h1
    have HC := hid h1
    unfold Hid at HK0 HK
    rw [hn'] at HK0 HK
    have HK0 := hid HK0
    have HK := hid HK
    clear k b0 k0 D0 hk hj S0 hfl h1 hn' kw hR hi hin
    go_enter Tryd.func37, Tryd.ntmps37
    go_wp2
    go_region_held3 (fun w' => w'.cell? ⟨q, 1, none⟩ = some (.map (some b)) ∧ w'.cell? ⟨w.heap.size, 0, none⟩ = some (.int .i64 (x : Int)) ∧ w'.cell? ⟨w.heap.size, 1, none⟩ = some (.int .i64 (y : Int)) ∧ (Instr.lookup 54 (.map (some b)) (.agg #[.int .i64 (x : Int), .int .i64 (y : Int)]) true).run Tryd.prog w' = .ok (.tuple #[.int .i64 (j : Int), .bool true]) w') (first | exact x1 | exact x0) (first | (go_at_call 47; refine (i1 _).mono ?_; rintro r w1 ⟨rfl, b1⟩; have b1 := drewBelow8 b1; have B1 := hid (B0.out.trans (b1.mono B0.out.size)); have K1 := hid (HK0.out.below b1); have x1 := And.intro K1.out.td.c1 (And.intro (HS.out.below b1).c0 (And.intro (HS.out.below b1).c1 (K1.out.td.yes HJ.out))); have cc : w1.cell? ⟨g, j, none⟩ = some (.string R) := (b1.cell (p := ⟨g, j, none⟩) h2).trans HC.out; clear b1))
    have d2 := K1.out.c2
    clear x0 x1
    go_wp2
    go_ret
    exact ⟨by rw [← HFL.out]; exact congrArg Ending.returned HR.out.symm, _, _, _, _, K1.out, HKW.out, Keep.ofBelow B1.out, Nw.refl _ _ _ _ _⟩
  · have HKn := hid hk
    have x0 := And.intro k0.td.c1 (And.intro S0.c0 (And.intro S0.c1 (D0.td.no hxy hy hk)))
    have hcK : can K (x, y) = true := (kw.can x y hxy).trans hc
    have hh : hsB8 H = true := by unfold hsB8; rw [List.all_eq_true]; intro z hz; simp [kw.h32 z hz]
    have hfo := foldA_can hn hn2 hi kw.len KL.out hh hcK
    rw [kw.fld x y hxy hc] at hfo
    have hkw' := hid (kw.next (s := (x, y)) hxy hA hk hc)
    obtain ⟨R, hR⟩ : ∃ R : List UInt8, fld K0 H0 (x, y) = R := ⟨_, rfl⟩
    have HR := hid hR
    rw [hR] at hfo
    unfold Hid at hkw'
    rw [hR] at hkw' ⊢
    have hkw' := hid hkw'
    have lK : Hid (K.length ≤ 9223372036854775807) := by have := KL.out; unfold Hid; omega
    have lH : Hid (H.length ≤ 9223372036854775807) := by have := KL.out; rw [kw.len] at this; unfold Hid; omega
    obtain ⟨va, vc, hv, _, _⟩ := k0.td.own.shape
    obtain ⟨ha, hcap, hh', _, _⟩ := k0.oh.shape
    have i2 := fun w' (t : Td w' q b v K) (o : OwnM 1 w' h H.length (svs H)) (tt : Tabs w') => foldF_any (n : Int) (pmC K) H (x : Int) (y : Int) va ha vc hcap w' (by rw [List.length_map]; exact lK.out) lH.out (by have := t.own; rw [hv] at this; exact this.atP) (by rw [hh'] at o; exact OwnM.atC o) tt
    rw [hfo, List.length_map] at i2
    have HV := hid hv
    have HH := hid hh'
    have TT := hid (fun w' (bb : Below w.heap.size w w') => T.below bb T.lt)
    have hT' := hid hT
    rw [← kw.len] at i2
    have HLN := hid kw.len
    have HHL := KL.out
    obtain ⟨m, hm⟩ : ∃ m, K.length = m := ⟨_, rfl⟩
    have HM := hid hm
    rw [hm] at i2 HHL
    have I2 := hid i2
    have fact : ∀ w', Kd w' q b v h K H → w'.cell? ⟨q, 0, none⟩ = some (.slice va m vc) ∧ w'.cell? ⟨q, 2, none⟩ = some (.slice ha m hcap) := fun w' t => by
      have a1 := t.td.c0
      have a2 := t.c2
      rw [HV.out, HM.out] at a1
      rw [HH.out, ← HLN.out, HM.out] at a2
      exact ⟨a1, a2⟩
    have HFa := hid fact
    clear k b0 k0 D0 hk S0 kw hR hi hin hfo i2 hT T lK lH hv hh' hcK hh hm fact
    go_enter Tryd.func37, Tryd.ntmps37
    go_wp2
    go_region_held3 (fun w' => w'.cell? ⟨q, 1, none⟩ = some (.map (some b)) ∧ w'.cell? ⟨w.heap.size, 0, none⟩ = some (.int .i64 (x : Int)) ∧ w'.cell? ⟨w.heap.size, 1, none⟩ = some (.int .i64 (y : Int)) ∧ (Instr.lookup 54 (.map (some b)) (.agg #[.int .i64 (x : Int), .int .i64 (y : Int)]) true).run Tryd.prog w' = .ok (.tuple #[.int .i64 0, .bool false]) w') (first | exact x1 | exact x0) (first | (go_at_call 47; refine (i1 _).mono ?_; rintro r w1 ⟨rfl, b1⟩; have b1 := drewBelow8 b1; have B1 := hid (B0.out.trans (b1.mono B0.out.size)); have K1 := hid (HK0.out.below b1); have S1 := hid (HS.out.below b1); have x1 := And.intro K1.out.td.c1 (And.intro S1.out.c0 (And.intro S1.out.c1 (K1.out.td.no hxy hy HKn.out))); clear b1))
    clear x0 x1 i1
    have y0 := And.intro (HFa.out _ K1.out).1 (And.intro (HFa.out _ K1.out).2 (And.intro S1.out.c0 S1.out.c1))
    have z2 := I2.out w1.drew (K1.out.td.below (Below.refl _ _).drew) (show OwnM 1 w1.drew h m (svs H) by rw [← HM.out, HLN.out]; exact K1.out.oh.drew) (TT.out _ B1.out.drew)
    go_wp2
    go_region_held3 (fun w' => w'.cell? ⟨q, 0, none⟩ = some (.slice va m vc) ∧ w'.cell? ⟨q, 2, none⟩ = some (.slice ha m hcap) ∧ w'.cell? ⟨w.heap.size, 0, none⟩ = some (.int .i64 (x : Int)) ∧ w'.cell? ⟨w.heap.size, 1, none⟩ = some (.int .i64 (y : Int))) (first | exact y1 | exact y0) (first | (go_at_call 49; refine z2.mono ?_; rintro r w2 ⟨rfl, b2⟩; have b2 := drewBelow8 b2; have B2 := hid (B1.out.trans (b2.mono B1.out.size)); have K2 := hid (K1.out.below b2); have S2 := hid (S1.out.below b2); have y1 := And.intro (HFa.out _ K2.out).1 (And.intro (HFa.out _ K2.out).2 (And.intro S2.out.c0 S2.out.c1)); clear b2))
    have u0 := And.intro S2.out.c0 S2.out.c1
    have z3 := addC_any (K2.out.td.below (Below.refl _ _).drew) hxy hy HKn.out (by rw [HM.out]; omega)
    clear y0 y1 z2
    have K2c := K2.out
    go_wp2
    go_region_held3 (fun w' => w'.cell? ⟨w.heap.size, 0, none⟩ = some (.int .i64 (x : Int)) ∧ w'.cell? ⟨w.heap.size, 1, none⟩ = some (.int .i64 (y : Int))) (first | exact u1 | exact u0) (first | (go_at_call 35; refine z3.mono ?_; rintro r w3 ⟨rfl, v', D3, K3, a3, c3, f3⟩; have K3' : Keep (Td.F q b v) w2 w3 := ⟨K3.os, K3.tape, K3.output, K3.size, K3.block⟩; have S3 := hid (S2.out.keep K3' (fun e => by have := HK.out.td.Flt _ e; omega)); have u1 := And.intro S3.out.c0 S3.out.c1))
    have d2 : w3.cell? ⟨q, 2, none⟩ = some h := (c3 2 (by decide)).trans K2c.c2
    have e2 : w3.frozen? ⟨q, 2, none⟩ = false := (f3 2).trans K2c.f2
    have o3 := K2c.oh.keep K3' K2c.hF
    obtain ⟨h', w4, hap, O4, G4⟩ := append_txC w3 h H ⟨R.toArray⟩ o3 (by rw [← HLN.out, HM.out]; omega)
    have hq3 : q < w3.heap.size := D3.lt
    have e4 := G4.keep.block q hq3 (fun e => K2c.hF q e (.inl rfl))
    have d4 : w4.cell? ⟨q, 2, none⟩ = some h := (World.cell?_of_block (w := w3) e4).trans d2
    have g4 : w4.frozen? ⟨q, 2, none⟩ = false := (World.frozen?_of_block (w := w3) e4).trans e2
    have hsz := K3'.size
    have nv' : ∀ k, h'.ownBlock = some k → h.ownBlock = some k ∨ w3.heap.size ≤ k := Grow.alt' G4
    have hF' : ∀ k, h'.ownBlock = some k → ¬ Td.F q b v' k := fun k hk hf => by
      have hft := D3.Flt k hf
      rcases nv' k hk with h1 | h1
      · rcases hf with hf | hf | hf
        · exact K2c.hF k h1 (.inl hf)
        · exact K2c.hF k h1 (.inr (.inl hf))
        · rcases a3 k hf with h2 | h2
          · exact K2c.hF k h1 (.inr (.inr h2))
          · have h3 := K2c.oh.lt k h1
            have h4 : w2.heap.size ≤ k := h2
            omega
      · omega
    have hoff : ∀ k, Td.F q b v' k → ¬ h.ownBlock = some k := fun k hf h1 => by
      rcases hf with hf | hf | hf
      · exact K2c.hF k h1 (.inl hf)
      · exact K2c.hF k h1 (.inr (.inl hf))
      · rcases a3 k hf with h2 | h2
        · exact K2c.hF k h1 (.inr (.inr h2))
        · have h3 := K2c.oh.lt k h1
          have h4 : w2.heap.size ≤ k := h2
          omega
    have D4 := D3.keep G4.keep hoff
    obtain ⟨ha', hn', hc', rfl⟩ := ownM_sl O4
    have fin : Hid (Kd (w4.setCell ⟨q, 2, none⟩ (.slice ha' hn' hc')) q b v' (.slice ha' hn' hc') (K ++ [(x, y)]) (H ++ [R])) := by
      have k1 : Keep (fun k => k = q) w4 (w4.setCell ⟨q, 2, none⟩ (.slice ha' hn' hc')) := Keep.ofSet (S := fun k => k = q) w4 q 2 _ rfl
      obtain ⟨f, hf, hg⟩ := D4.mp
      refine ⟨⟨?_, ?_, ?_, D4.own.keep k1 (fun k hk e => D4.vq (e ▸ hk)), ⟨f, hf.keep k1 (fun e => D4.qb e.symm), hg⟩, D4.lo, D4.qb, D4.vq, D4.vb, ?_⟩, World.cell?_setCell_same' _ _ _ (by rw [d4]; rfl), ?_, O4.keep k1 (fun k hk e => hF' k hk (.inl e)), hF'⟩
      · exact (World.cell?_setCell_other _ _ _ _ (by simp)).trans D4.c0
      · exact (World.cell?_setCell_other _ _ _ _ (by simp)).trans D4.c1
      · rw [World.frozen?_setCell]; exact D4.f0
      · exact Nat.lt_of_lt_of_le D4.lt k1.size
      · rw [World.frozen?_setCell]; exact g4
    have kp : Hid (Keep (Kd.F q b v h) w (w4.setCell ⟨q, 2, none⟩ (.slice ha' hn' hc'))) :=
      (((Keep.ofBelow (S := Kd.F q b v h) B2.out).trans (K3'.mono (T := Kd.F q b v h) fun k _ e => .inl e) fun _ _ e => e).trans (G4.keep.mono (T := Kd.F q b v h) fun k _ e => .inr e) fun _ _ e => e).trans (Keep.ofSet (S := fun k => k = q) w4 q 2 _ rfl) fun k _ e => .inl (.inl e)
    have nwf : Hid (Nw w q b v h v' (.slice ha' hn' hc')) := by
      have z1 := B2.out.size
      rintro k ((e | e | e) | e)
      · exact .inl (.inl (.inl e))
      · exact .inl (.inl (.inr (.inl e)))
      · rcases a3 k e with h1 | h1
        · exact .inl (.inl (.inr (.inr h1)))
        · have h2 : w2.heap.size ≤ k := h1
          exact .inr (by omega)
      · rcases nv' k e with h1 | h1
        · exact .inl (.inr h1)
        · exact .inr (by omega)
    clear u0 u1 z3 K2c K3 K3' a3 c3 f3 D3 D4 o3 O4 G4 hF' hoff nv' e4
    go_wp2_with (at_builtin; go_must (refine Lib.wpList_append_run _ rfl _ _ 40 40 rfl _ _ rfl rfl _ _ hap ?_))
    go_ret
    exact ⟨rfl, _, _, _, _, fin.out, hkw'.out, kp.out, nwf.out⟩
end Chn
end Go.Proofs.YtappjeepajjioaaDoor
