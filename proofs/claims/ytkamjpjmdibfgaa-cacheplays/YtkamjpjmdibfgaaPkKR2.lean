import Derived.Test.YtkamjpjmdibfgaaPkKB5
/- Layer 15, the document's cache: without, first -/
namespace Go.Proofs.Ytkamjpjmdibfgaa
open Go.RowKit Go.Maps
namespace Kc
theorem grow_fr {B : Nat} {w w' : World} {v v' : Value} (h : Grow w w' v v') (hB : B ≤ w.heap.size) (hv : ∀ k, v.ownBlock = some k → B ≤ k) : (∀ k, v'.ownBlock = some k → B ≤ k) ∧ Below B w w' := by
  refine ⟨fun k hk => ?_, ⟨h.os, h.tape, h.output, h.size, fun k hk => h.old k (by omega) fun e => by have := hv k e; omega⟩⟩
  rcases h.alt with e | ⟨e, _⟩
  · exact hv k (e ▸ hk)
  · have := e k hk; omega
theorem infoT : (Try.prog.info? 79).map (fun i => (i.zero, i.size, i.bytes)) = some (some (.agg #[.string ⟨#[]⟩, .string ⟨#[]⟩, .int .i64 0]), 3, 40) := by kernel_rfl
theorem append_th (w : World) (v : Value) (L : List En) (e : En) (hown : OwnM 3 w v L.length (thc L)) (hlen : L.length ≤ 2000000) :
    ∃ v' w', (Builtin.append_ #[52, 52] 52 #[v, .slice (some ⟨w.heap.size, 0, none⟩) 1 1]).run Try.prog (w.alloc (.cells #[.string ⟨e.k.toArray⟩, .string ⟨e.v.toArray⟩, .int .i64 (e.p : Int)] 79)) = .ok v' w' ∧ OwnM 3 w' v' (L ++ [e]).length (thc (L ++ [e])) ∧ Grow w w' v v' := by
  obtain ⟨v', w', h1, h2, h3⟩ := append_oneM 52 79 _ 40 (by decide) Try.underlying52 infoT rfl w v L.length (thc L) (th e) rfl (fun u hu => by
    simp only [th, List.mem_cons, List.not_mem_nil, or_false] at hu
    rcases hu with rfl | rfl | rfl <;> rfl) hown hlen
  refine ⟨v', w', h1, ?_, h3⟩
  rw [thc_append, List.length_append]
  simpa [thc] using h2
/-- all but the one at t -/
def er (t j : Nat) (L : List En) : List En := (L.take j).eraseIdx t
theorem er_succ {t j : Nat} {L : List En} (hj : j < L.length) (hne : j ≠ t) : er t (j + 1) L = er t j L ++ [L[j]] := by
  unfold er
  rw [List.take_succ_eq_append_getElem hj]
  have hl : (L.take j).length = j := by rw [List.length_take]; omega
  by_cases c : t < j
  · rw [List.eraseIdx_append_of_lt_length (by omega)]
  · rw [List.eraseIdx_of_length_le (by simp; omega), List.eraseIdx_of_length_le (by omega)]
theorem er_skip {j : Nat} {L : List En} (hj : j < L.length) : er j (j + 1) L = er j j L := by
  unfold er
  rw [List.take_succ_eq_append_getElem hj]
  have hl : (L.take j).length = j := by rw [List.length_take]; omega
  rw [List.eraseIdx_append_of_length_le (by omega), hl, Nat.sub_self]
  simp
  rw [List.eraseIdx_of_length_le (by omega)]
theorem er_len (t j : Nat) (L : List En) : (er t j L).length ≤ L.length := by
  unfold er
  have := List.length_eraseIdx_le (L.take j) t
  have := List.length_take_le j L
  have h2 : (L.take j).length ≤ L.length := by rw [List.length_take]; omega
  omega
set_option maxRecDepth 100000 in
set_option maxHeartbeats 4000000 in
theorem rwithout_any {w : World} {a B : Nat} {v : Value} {L : List En} {f m o : Nat} (h : Rf w a B v L f m o) (hl : L.length ≤ 1000000) (at' : Int) (t : Nat) (hat : at' = (t : Int) ∨ (at' = -1 ∧ L.length ≤ t)) :
    Calls Try.prog 41 #[.pointer (some ⟨a, 0, none⟩), .int .i64 at'] w fun r w' => ∃ v', r = .returned v' ∧ OwnM 3 w' v' (er t L.length L).length (thc (er t L.length L)) ∧ (∀ k, v'.ownBlock = some k → w.heap.size ≤ k) ∧ Below w.heap.size w w' := by
  have c1 := h.cs.2.1
  have HO := hid h.own
  have HR := hid h
  obtain ⟨xa, cap, hv, hcp, hcm⟩ := h.own.shape
  subst hv
  obtain ⟨n, hn⟩ : ∃ n, L.length = n := ⟨_, rfl⟩
  have al : a < w.heap.size := lt_of_heap h.row
  rw [hn] at c1 hl hat
  rw [hn]
  have HN := hid hn
  have hlv := hid h.own.lt
  clear h hn hcp hcm
  obtain ⟨q, hq⟩ : ∃ q, w.heap.size = q := ⟨_, rfl⟩
  have HQ := hid hq
  rw [hq] at al ⊢
  clear hq
  go_enter Try.func41, Try.ntmps41
  go_wp2
  go_loopw [5, 6] (fun u i w' => ∃ j : Nat, j ≤ n ∧ i = .int .i64 (j : Int) ∧ Hid (OwnM 3 w' u (er t j L).length (thc (er t j L))) ∧ Hid (∀ k, u.ownBlock = some k → q ≤ k) ∧ Hid (Below q w w')) (fun _ i _ => n - (intOf i).toNat)
  case atStart => exact ⟨0, Nat.zero_le _, rfl, OwnM.nil 3 _, (fun k hk => by cases hk), Below.refl _ _⟩
  case round =>
    obtain ⟨j, hj, rfl, O, Fr, Bw⟩ := hrel
    have c1' : wr.cell? ⟨a, 1, none⟩ = some (.slice xa n cap) := (Bw.out.cell (p := ⟨a, 1, none⟩) al).trans c1
    by_cases hjn : j < n
    · have hjL : j < L.length := by rw [HN.out]; exact hjn
      obtain ⟨e, he⟩ : ∃ e, L[j] = e := ⟨_, rfl⟩
      have hsp : L = L.take j ++ e :: L.drop (j + 1) := by rw [← he, ← List.drop_eq_getElem_cons hjL, List.take_append_drop]
      have hjt : (L.take j).length = j := by rw [List.length_take]; omega
      have HO' : OwnM 3 w (.slice xa L.length cap) (L.take j ++ e :: L.drop (j + 1)).length (thc (L.take j ++ e :: L.drop (j + 1))) := by rw [← hsp]; exact HO.out
      obtain ⟨g, cap', hg, k0, k1, k2, hgl⟩ := ownM_e HO'
      rw [hjt] at k0 k1 k2
      injection hg with hg _ _
      subst hg
      have hgq : g < q := by rw [← HQ.out]; exact hgl
      have k0 := (Bw.out.cell (p := ⟨g, j * 3, none⟩) hgq).trans k0
      have k1 := (Bw.out.cell (p := ⟨g, j * 3 + 1, none⟩) hgq).trans k1
      have k2 := (Bw.out.cell (p := ⟨g, j * 3 + 2, none⟩) hgq).trans k2
      have y1 : (j : Int) < (n : Int) := by omega
      have y3 : (0 : Int) ≤ (j : Int) := by omega
      have hjn' := hid hjn
      by_cases hne : j = t
      · have z1 : at' = (j : Int) := by
          rcases hat with h | ⟨_, h⟩
          · rw [h, hne]
          · omega
        subst z1
        have O' : Hid (OwnM 3 wr u5 (er t (j + 1) L).length (thc (er t (j + 1) L))) := by
          show OwnM _ _ _ _ _
          have := O.out
          rw [← hne] at this ⊢
          rw [er_skip hjL]; exact this
        clear hsp hjt HO' he hjL k0 k1 k2 hne hat
        go_wp2
        exact ⟨⟨j + 1, hjn'.out, by go_num, O', Fr, Bw⟩, by have := hjn'.out; simp [RowKit.intOf]; omega⟩
      · have z1 : ¬ (j : Int) = at' := by
          rcases hat with h | ⟨h, _⟩
          · rw [h]; omega
          · omega
        have z2 : ((j : Int) == at') = false := by rw [beq_eq_false_iff_ne]; exact z1
        have z3 : ((j : Int) != at') = true := by simp [z1]
        obtain ⟨v', w2, hap, O2, G2⟩ := append_th wr u5 (er t j L) e O.out (Nat.le_trans (er_len t j L) (by rw [HN.out]; omega))
        have hqw : q ≤ wr.heap.size := by rw [← HQ.out]; exact Bw.out.size
        obtain ⟨F2, B2⟩ := grow_fr G2 hqw Fr.out
        have O' : Hid (OwnM 3 w2 v' (er t (j + 1) L).length (thc (er t (j + 1) L))) := by
          show OwnM _ _ _ _ _
          rw [er_succ hjL hne, he]; exact O2
        have F2 := hid F2
        have B2 := hid (Bw.out.trans B2)
        clear hsp hjt HO' he hjL hne hat O2 G2 O Fr Bw
        generalize (ByteArray.mk e.k.toArray) = E1 at *
        generalize (ByteArray.mk e.v.toArray) = E2 at *
        go_wp2_with (at_builtin; go_must (refine Lib.wpList_append_run _ rfl _ _ 52 52 rfl _ _ rfl rfl _ _ hap ?_))
        exact ⟨⟨j + 1, hjn'.out, by go_num, O', F2, B2⟩, by have := hjn'.out; simp [RowKit.intOf]; omega⟩
    · obtain rfl : j = n := by omega
      have y1 : ¬ (j : Int) < (j : Int) := by omega
      go_wp2
      go_ret
      exact ⟨_, rfl, O.out, Fr.out, Bw.out⟩
end Kc
end Go.Proofs.Ytkamjpjmdibfgaa
