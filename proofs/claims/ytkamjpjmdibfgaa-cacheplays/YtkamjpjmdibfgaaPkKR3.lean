import Derived.Test.YtkamjpjmdibfgaaPkKR2
/- Layer 15, the document's cache: first, counts -/
namespace Go.Proofs.Ytkamjpjmdibfgaa
open Go.RowKit Go.Maps
namespace Kc
theorem thc_one {L : List En} : ∀ u ∈ thc L, u.oneCell' = true := by
  induction L with
  | nil => intro u hu; cases hu
  | cons e r ih =>
    intro u hu
    rcases List.mem_append.1 hu with h | h
    · simp only [th, List.mem_cons, List.not_mem_nil, or_false] at h
      rcases h with rfl | rfl | rfl <;> rfl
    · exact ih u h
theorem append_thl (w : World) (v1 v2 : Value) (L M : List En) (h1 : OwnM 3 w v1 L.length (thc L)) (h2 : OwnM 3 w v2 M.length (thc M)) (hl : L.length ≤ 1000000) (hm : M.length ≤ 1000000) (hp : 0 < L.length) :
    ∃ v' w', (Builtin.append_ #[52, 52] 52 #[v1, v2]).run Try.prog w = .ok v' w' ∧ OwnM 3 w' v' (L ++ M).length (thc (L ++ M)) ∧ Grow w w' v1 v' := by
  obtain ⟨i0, hi, hz0, hz1, hz2⟩ := info_parts infoT
  have hsrc : Src Try.prog 3 52 v2 M.length (thc M) w := by
    rcases h2 with ⟨rfl, h, h'⟩ | ⟨g, cap, rfl, _, _, h0, h4, _, _⟩
    · rw [h, h']; exact Src.ofNil w Try.underlying52 0
    · exact Src.ofSlice w Try.underlying52 ⟨g, 0, none⟩ M.length cap (thc M) h0 (fun j u hj => by rw [Addr.add_mid]; exact h4 j u hj) thc_one
  obtain ⟨v', w', a1, a2, a3⟩ := run_append_M (P := Try.prog) w 52 52 52 79 i0 _ Try.underlying52 hi hz0 hz1 rfl v1 L.length (thc L) h1 v2 M.length (thc M) hsrc
    (by rw [hz2]; omega) (by rw [maxLen]; omega) (fun e => by
      rcases h1 with ⟨_, h, _⟩ | ⟨g, cap, h, _⟩
      · omega
      · rw [h] at e; cases e)
  refine ⟨v', w', a1, ?_, a3⟩
  rw [thc_append, List.length_append]
  exact a2
/-- the row alone -/
def Rr (w : World) (a B : Nat) (v : Value) (f m o : Nat) : Prop := w.heap[a]? = some (.cells #[.int .i64 (B : Int), v, .int .i64 (f : Int), .int .i64 (m : Int), .int .i64 (o : Int)] 54 (0, 0))
set_option maxRecDepth 100000 in
set_option maxHeartbeats 4000000 in
theorem rfirst_any {w : World} {a B : Nat} {v v2 : Value} {M : List En} {f m o : Nat} (h : Rr w a B v f m o) (e : En) (h2 : OwnM 3 w v2 M.length (thc M)) (hm : M.length ≤ 1000000) :
    Calls Try.prog 40 #[.pointer (some ⟨a, 0, none⟩), .agg #[.string ⟨e.k.toArray⟩, .string ⟨e.v.toArray⟩, .int .i64 (e.p : Int)], v2] w fun r w' => r = .returned (.tuple #[]) ∧ ∃ v', Rf w' a B v' (e :: M) f m o ∧ (∀ k, v'.ownBlock = some k → w.heap.size ≤ k) ∧ Keep (fun k => k = a) w w' := by
  have al : a < w.heap.size := lt_of_heap h
  obtain ⟨w1, hw1⟩ : ∃ w1, w.alloc (.cells #[.string ⟨e.k.toArray⟩, .string ⟨e.v.toArray⟩, .int .i64 (e.p : Int)] 79) = w1 := ⟨_, rfl⟩
  have b1 : Below w.heap.size w w1 := by rw [← hw1]; exact (Below.refl _ _).alloc (Nat.le_refl _) _
  have r1 : w1.heap[w.heap.size]? = some (.cells #[.string ⟨e.k.toArray⟩, .string ⟨e.v.toArray⟩, .int .i64 (e.p : Int)] 79 (0, 0)) := by rw [← hw1]; exact heap_alloc_new w _
  have s1 : w1.heap.size = w.heap.size + 1 := by rw [← hw1]; exact size_alloc w _
  obtain ⟨va, wa, ha, oa, ga⟩ := append_th w1 (.slice none 0 0) [] e (OwnM.nil 3 w1) (by simp)
  obtain ⟨fa, ba⟩ := grow_fr ga (B := w1.heap.size) (Nat.le_refl _) (fun k hk => by cases hk)
  have o2 := h2.below b1
  have o2 := (o2.kept ba.size fun g hg => ba.block g (o2.lt g hg) : OwnM 3 wa v2 M.length (thc M))
  obtain ⟨vb, wb, hb, ob, gb⟩ := append_thl wa va v2 [e] M oa o2 (by simp) hm (by simp)
  obtain ⟨fb, bb⟩ := grow_fr gb (B := w1.heap.size) (by have := ba.size; omega) fa
  have bw : Below w.heap.size w wb := b1.trans ((ba.mono (by omega)).trans (bb.mono (by omega)))
  have rw_ : Rr wb a B v f m o := (bw.block a al).trans h
  have c0 : w1.cell? ⟨w.heap.size, 0, none⟩ = some (.string ⟨e.k.toArray⟩) := by rw [cell_of_row _ _ _ _ _ _ r1]; rfl
  have c1 : w1.cell? ⟨w.heap.size, 1, none⟩ = some (.string ⟨e.v.toArray⟩) := by rw [cell_of_row _ _ _ _ _ _ r1]; rfl
  have c2 : w1.cell? ⟨w.heap.size, 2, none⟩ = some (.int .i64 (e.p : Int)) := by rw [cell_of_row _ _ _ _ _ _ r1]; rfl
  have x1 : wb.cell? ⟨a, 1, none⟩ = some v := by rw [cell_of_row _ _ _ _ _ _ rw_]; rfl
  have f1 : wb.frozen? ⟨a, 1, none⟩ = false := frozen_of_row _ _ _ _ _ rw_
  have FIN : Hid (∃ v', Rf (wb.setCell ⟨a, 1, none⟩ vb) a B v' (e :: M) f m o ∧ (∀ k, v'.ownBlock = some k → w.heap.size ≤ k) ∧ Keep (fun k => k = a) w (wb.setCell ⟨a, 1, none⟩ vb)) := by
    have hne : ∀ k, vb.ownBlock = some k → k ≠ a := fun k hk e => by have := fb k hk; omega
    refine ⟨vb, ⟨by rw [heap_setCell_same _ _ _ _ _ _ rw_]; rfl, ?_, fun e => hne a e rfl⟩, fun k hk => by have := fb k hk; omega, keep_set (S := fun k => k = a) (keep_below bw) rfl _ _⟩
    have : OwnM 3 wb vb (e :: M).length (thc (e :: M)) := ob
    exact this.kept (by simp [World.setCell]) fun g hg => heap_setCell_other _ _ _ _ (hne g hg)
  obtain ⟨xb, cb, hvb, _, _⟩ := ob.shape
  subst hvb
  clear b1 r1 oa ga fa ba o2 gb fb bb bw rw_ h h2 ob s1
  generalize (ByteArray.mk e.k.toArray) = E1 at *
  generalize (ByteArray.mk e.v.toArray) = E2 at *
  go_enter Try.func40, Try.ntmps40
  go_upto_region 3 with (at_builtin; go_must (refine Lib.wpList_append_run _ rfl _ _ 52 52 rfl _ _ rfl rfl _ _ ha ?_))
  go_wp2_with (at_builtin; go_must (refine Lib.wpList_append_run _ rfl _ _ 52 52 rfl _ _ rfl rfl _ _ hb ?_))
  go_end0
  exact ⟨rfl, FIN.out⟩
theorem tot_take {L : List En} {j : Nat} (hj : j < L.length) : tot (L.take (j + 1)) = tot (L.take j) + L[j].n := by
  rw [List.take_succ_eq_append_getElem hj, tot_append]; simp
theorem pnd_take {L : List En} {j : Nat} (hj : j < L.length) : pnd (L.take (j + 1)) = pnd (L.take j) + L[j].q := by
  rw [List.take_succ_eq_append_getElem hj, pnd_append]; simp
theorem tot_le {L : List En} (j : Nat) : tot (L.take j) ≤ tot L := by
  have : tot L = tot (L.take j) + tot (L.drop j) := by rw [← tot_append, List.take_append_drop]
  omega
set_option maxRecDepth 100000 in
set_option maxHeartbeats 4000000 in
theorem rcounts_any {w : World} {v : Value} {L : List En} (h : OwnM 3 w v L.length (thc L)) (hl : L.length ≤ 1000000) (ht : tot L ≤ 1000000000000) :
    Calls Try.prog 42 #[v] w fun r w' => r = .returned (.tuple #[.int .i64 (tot L : Int), .int .i64 (pnd L : Int)]) ∧ Below w.heap.size w w' := by
  have HO := hid h
  obtain ⟨xa, cap, hv, hcp, hcm⟩ := h.shape
  subst hv
  obtain ⟨n, hn⟩ : ∃ n, L.length = n := ⟨_, rfl⟩
  rw [hn] at hl ⊢
  have HN := hid hn
  have HT := hid ht
  clear h hn hcp hcm ht
  go_enter Try.func42, Try.ntmps42
  go_wp2
  go_loopw [4, 5, 6] (fun x y i w' => ∃ j : Nat, j ≤ n ∧ i = .int .i64 (j : Int) ∧ x = .int .i64 (tot (L.take j) : Int) ∧ y = .int .i64 (pnd (L.take j) : Int) ∧ Hid (Below w.heap.size w w')) (fun _ _ i _ => n - (intOf i).toNat)
  case atStart => exact ⟨0, Nat.zero_le _, rfl, rfl, rfl, Below.refl _ _⟩
  case round =>
    obtain ⟨j, hj, rfl, rfl, rfl, Bw⟩ := hrel
    by_cases hjn : j < n
    · have hjL : j < L.length := by rw [HN.out]; exact hjn
      obtain ⟨e, he⟩ : ∃ e, L[j] = e := ⟨_, rfl⟩
      have hsp : L = L.take j ++ e :: L.drop (j + 1) := by rw [← he, ← List.drop_eq_getElem_cons hjL, List.take_append_drop]
      have hjt : (L.take j).length = j := by rw [List.length_take]; omega
      have HO' : OwnM 3 w (.slice xa L.length cap) (L.take j ++ e :: L.drop (j + 1)).length (thc (L.take j ++ e :: L.drop (j + 1))) := by rw [← hsp]; exact HO.out
      obtain ⟨g, cap', hg, k0, k1, k2, hgl⟩ := ownM_e HO'
      rw [hjt] at k0 k1 k2
      injection hg with hg _ _
      subst hg
      have k0 := (Bw.out.cell (p := ⟨g, j * 3, none⟩) hgl).trans k0
      have k1 := (Bw.out.cell (p := ⟨g, j * 3 + 1, none⟩) hgl).trans k1
      have k2 := (Bw.out.cell (p := ⟨g, j * 3 + 2, none⟩) hgl).trans k2
      have y1 : (j : Int) < (n : Int) := by omega
      have y3 : (0 : Int) ≤ (j : Int) := by omega
      have hjn' := hid hjn
      have ht1 := tot_take hjL
      have hp1 := pnd_take hjL
      have hle := tot_le (L := L) (j + 1)
      have hTT := HT.out
      rw [he] at ht1 hp1
      have hpq := pnd_le (L.take (j + 1))
      have hen : (ByteArray.mk e.k.toArray).size + (ByteArray.mk e.v.toArray).size = e.n := by rw [sv_size, sv_size]; rfl
      obtain ⟨t0, ht0⟩ : ∃ t0, tot (L.take j) = t0 := ⟨_, rfl⟩
      obtain ⟨p0, hp0⟩ : ∃ p0, pnd (L.take j) = p0 := ⟨_, rfl⟩
      obtain ⟨t2, ht2⟩ : ∃ t2, tot (L.take (j + 1)) = t2 := ⟨_, rfl⟩
      obtain ⟨p2, hp2⟩ : ∃ p2, pnd (L.take (j + 1)) = p2 := ⟨_, rfl⟩
      rw [ht0] at ht1 ⊢
      rw [hp0] at hp1 ⊢
      rw [ht2] at ht1 hle hpq
      rw [hp2] at hp1 hpq
      have HT2 := hid ht2
      have HP2 := hid hp2
      have e1 : IntKind.i64.wrap (((ByteArray.mk e.k.toArray).size : Int) + ((ByteArray.mk e.v.toArray).size : Int)) = (e.n : Int) := by rw [IntKind.wrap_i64]; omega
      have e2 : IntKind.i64.wrap ((t0 : Int) + (e.n : Int)) = (t2 : Int) := by rw [IntKind.wrap_i64]; omega
      obtain ⟨E1, hE1⟩ : ∃ E1, ByteArray.mk e.k.toArray = E1 := ⟨_, rfl⟩
      obtain ⟨E2, hE2⟩ : ∃ E2, ByteArray.mk e.v.toArray = E2 := ⟨_, rfl⟩
      rw [hE1] at k0 e1
      rw [hE2] at k1 e1
      by_cases hp : e.p = 0
      · have hpp : p2 = p0 := by rw [hp1, En.q, if_pos hp, Nat.add_zero]
        have z1 : (e.p : Int) = 0 := by omega
        rw [z1] at k2
        subst hpp
        clear hsp hjt HO' he hjL ht1 hp1 hle hTT hpq hen ht0 hp0 ht2 hp2 hE1 hE2 hp z1
        go_wp2
        go_region
        go_wp2
        exact ⟨⟨j + 1, hjn'.out, by go_num, by rw [HT2.out], by rw [HP2.out], Bw.out.drew⟩, by have := hjn'.out; simp [RowKit.intOf]; omega⟩
      · have hpp : p2 = p0 + e.n := by rw [hp1, En.q, if_neg hp]
        have e3 : IntKind.i64.wrap ((p0 : Int) + (e.n : Int)) = (p2 : Int) := by rw [IntKind.wrap_i64]; omega
        obtain ⟨pe, hpe⟩ : ∃ pe, e.p = pe := ⟨_, rfl⟩
        rw [hpe] at k2
        have z1 : 0 < (pe : Int) := by omega
        have z3 : 0 < pe := by omega
        clear hsp hjt HO' he hjL ht1 hp1 hle hTT hpq hen ht0 hp0 ht2 hp2 hE1 hE2 hp hpp hpe
        go_wp2
        go_region
        go_wp2
        exact ⟨⟨j + 1, hjn'.out, by go_num, by rw [HT2.out], by rw [HP2.out], Bw.out.drew⟩, by have := hjn'.out; simp [RowKit.intOf]; omega⟩
    · obtain rfl : j = n := by omega
      have y1 : ¬ (j : Int) < (j : Int) := by omega
      go_wp2
      go_ret2
      have := HN.out
      rw [List.take_of_length_le (by omega)]
      exact ⟨rfl, Bw.out⟩
end Kc
end Go.Proofs.Ytkamjpjmdibfgaa
