import Derived.Test.YtkamjpjmdibfgaaPkKF1
/- Layer 15, the law: lists that are their owner's: same, marks, reads -/
namespace Go.Proofs.Ytkamjpjmdibfgaa
open Go.RowKit Go.Maps
namespace Kc
theorem own_m {w : World} {b : Nat} {v : Value} {cs : List Value} (h : Own w b v cs) : OwnM 1 w v cs.length cs ∧ ∀ k, v.ownBlock = some k → b ≤ k := by
  rcases h with ⟨rfl, rfl⟩ | ⟨g, cap, rfl, h1, h2, h3, h4, h5, h6⟩
  · exact ⟨.inl ⟨rfl, rfl, rfl⟩, fun k hk => by cases hk⟩
  · refine ⟨.inr ⟨g, cap, rfl, h2, h3, (Nat.mul_one _).symm, h4, by rw [Nat.mul_one]; exact h5, h6⟩, fun k hk => ?_⟩
    have : some g = some k := hk
    injection this with this
    omega
/-- one cell of it is written -/
theorem ownM_put {w : World} {g n cap : Nat} {cs : List Value} (h : OwnM 1 w (.slice (some ⟨g, 0, none⟩) n cap) n cs) {j : Nat} (hj : j < n) (u : Value) :
    OwnM 1 (w.setCell ⟨g, j, none⟩ u) (.slice (some ⟨g, 0, none⟩) n cap) n (cs.set j u) ∧ (∃ y, w.cell? ⟨g, j, none⟩ = some y) ∧ w.frozen? ⟨g, j, none⟩ = false := by
  have hcl := h.len
  rw [Nat.mul_one] at hcl
  rcases h with ⟨e0, _⟩ | ⟨g', cap', e0, h1, h2, h3, h4, h5, h6⟩
  · cases e0
  · injection e0 with e1 e2 e3
    injection e1 with e1
    injection e1 with e1
    subst e1 e3
    have hc := h4 j _ (List.getElem?_eq_getElem (by omega : j < cs.length))
    rw [Nat.zero_add] at hc
    refine ⟨.inr ⟨g, cap, rfl, h1, h2, by rw [List.length_set]; exact h3, fun i v hv => ?_, fun i hi => ?_, by simpa [World.setCell] using h6⟩, ⟨_, hc⟩, ?_⟩
    · rw [Nat.zero_add]
      by_cases c : i = j
      · subst c
        rw [List.getElem?_set_self (by omega)] at hv
        obtain rfl := Option.some.inj hv
        exact World.cell?_setCell_same _ _ _ (by rw [hc])
      · rw [List.getElem?_set_ne (Ne.symm c)] at hv
        have := h4 i v hv
        rw [Nat.zero_add] at this
        rw [World.cell?_setCell_other _ _ _ _ (by simp; try exact fun e => c e.symm)]
        exact this
    · have := h5 i hi
      refine ⟨?_, by rw [World.frozen?_setCell]; exact this.2⟩
      by_cases c : 0 + i = j
      · rw [c]
        rw [World.cell?_setCell_same _ _ _ (by rw [hc])]; rfl
      · rw [World.cell?_setCell_other _ _ _ _ (by simp; try exact fun e => c (by omega))]; exact this.1
    · have := (h5 j (by omega)).2
      rwa [Nat.zero_add] at this
/-- a list that reads as marks -/
def MkV (w : World) (v u : Value) : Prop := ∃ a n c, v = .slice a n c ∧ n ≤ 9223372036854775807 ∧ ∀ j, j < n → ∃ g, a = some ⟨g, 0, none⟩ ∧ g < w.heap.size ∧ w.cell? ⟨g, j, none⟩ = some u
theorem MkV.kept {w w' : World} {v u : Value} (h : MkV w v u) (hs : w.heap.size ≤ w'.heap.size) (hb : ∀ k, v.ownBlock = some k → k < w.heap.size → w'.heap[k]? = w.heap[k]?) : MkV w' v u := by
  obtain ⟨a, n, c, rfl, h1, h2⟩ := h
  refine ⟨a, n, c, rfl, h1, fun j hj => ?_⟩
  obtain ⟨g, rfl, h3, h4⟩ := h2 j hj
  exact ⟨g, rfl, by omega, (World.cell?_of_block (a := ⟨g, j, none⟩) (hb g rfl h3)).trans h4⟩
theorem ownM_mkV {w : World} {v : Value} {n : Nat} {u : Value} (h : OwnM 1 w v n (List.replicate n u)) : MkV w v u := by
  obtain ⟨a, c, e, h1, h2⟩ := h.shape
  refine ⟨a, n, c, e, by omega, fun j hj => ?_⟩
  obtain ⟨g, c', e1, h3, h4⟩ := h.cell (show (List.replicate n u)[j]? = some u by rw [List.getElem?_replicate, if_pos hj])
  rw [e1] at e
  injection e with e3
  exact ⟨g, e3.symm, h4, h3⟩
set_option maxRecDepth 100000 in
set_option maxHeartbeats 2000000 in
theorem same_yes {w : World} {va vb : Value} {K : List (List UInt8)} (ha : OwnM 1 w va (svs K).length (svs K)) (hb : OwnM 1 w vb (svs K).length (svs K)) (hl : K.length ≤ 1000000) :
    Calls Try.prog 26 #[va, vb] w fun r w' => r = .returned (.bool true) ∧ Below w.heap.size w w' := by
  obtain ⟨xa, ca, hva, _, _⟩ := ha.shape
  obtain ⟨xb, cb, hvb, _, _⟩ := hb.shape
  subst hva hvb
  rw [svs_length] at ha hb ⊢
  have HA := hid ha
  have HB := hid hb
  obtain ⟨n, hn⟩ : ∃ n, K.length = n := ⟨_, rfl⟩
  rw [hn] at hl ⊢
  have HN := hid hn
  clear ha hb hn
  go_enter Try.func26, Try.ntmps26
  go_wp2
  go_loopw [5] (fun i w' => ∃ j : Nat, j ≤ n ∧ i = .int .i64 (j : Int) ∧ Hid (Below w.heap.size w w')) (fun i _ => n - (intOf i).toNat)
  case atStart => exact ⟨0, Nat.zero_le _, rfl, Below.refl _ _⟩
  case round =>
    obtain ⟨j, hj, rfl, Bw⟩ := hrel
    by_cases hjn : j < n
    · have hjK : j < K.length := by rw [HN.out]; exact hjn
      have e0 : (svs K)[j]? = some (.string ⟨K[j].toArray⟩) := by simp [svs, List.getElem?_eq_getElem hjK, sv]
      obtain ⟨g1, c1, e1, s1, _⟩ := (HA.out.below Bw.out).cell e0
      obtain ⟨g2, c2, e2, s2, _⟩ := (HB.out.below Bw.out).cell e0
      obtain ⟨rfl, rfl⟩ : xa = some ⟨g1, 0, none⟩ ∧ ca = c1 := by injection e1 with a b c; exact ⟨a, c⟩
      obtain ⟨rfl, rfl⟩ : xb = some ⟨g2, 0, none⟩ ∧ cb = c2 := by injection e2 with a b c; exact ⟨a, c⟩
      clear e1 e2
      have y1 : (j : Int) < (n : Int) := by omega
      have y3 : (0 : Int) ≤ (j : Int) := by omega
      have hjn' := hid hjn
      obtain ⟨S, hS⟩ : ∃ S, ByteArray.mk K[j].toArray = S := ⟨_, rfl⟩
      rw [hS] at s1 s2
      have vv : (S.toList == S.toList) = true := by simp
      clear e0 hS hjK
      go_wp2
      go_quiet (fail)
      go_wp2
      exact ⟨⟨j + 1, hjn'.out, by go_num, ⟨Bw.out.os, Bw.out.tape, Bw.out.output, Bw.out.size, Bw.out.block⟩⟩, by have := hjn'.out; simp [RowKit.intOf]; omega⟩
    · obtain rfl : j = n := by omega
      have y1 : ¬ (j : Int) < (j : Int) := by omega
      go_wp2
      go_ret
      exact ⟨rfl, Bw.out⟩
set_option maxRecDepth 100000 in
set_option maxHeartbeats 2000000 in
theorem marks_any {w : World} {v : Value} {n : Nat} {cs : List Value} (h : OwnM 1 w v n cs) (hl : n ≤ 1000000) (M : ByteArray) :
    Calls Try.prog 27 #[v, .string M] w fun r w' => r = .returned (.tuple #[]) ∧ OwnM 1 w' v n (List.replicate n (.string M)) ∧ Keep (fun k => v.ownBlock = some k) w w' := by
  obtain ⟨xa, ca, hv, _, _⟩ := h.shape
  subst hv
  have hcl := h.len
  rw [Nat.mul_one] at hcl
  have H := hid h
  have HC := hid hcl
  clear h hcl
  go_enter Try.func27, Try.ntmps27
  go_wp2
  go_loopw [4] (fun i w' => ∃ j : Nat, j ≤ n ∧ i = .int .i64 (j : Int) ∧ Hid (OwnM 1 w' (.slice xa n ca) n (List.replicate j (.string M) ++ cs.drop j)) ∧ Hid (Keep (fun k => (Value.slice xa n ca).ownBlock = some k) w w')) (fun i _ => n - (intOf i).toNat)
  case atStart => exact ⟨0, Nat.zero_le _, rfl, H, keep_refl _ _⟩
  case round =>
    obtain ⟨j, hj, rfl, O, Kp⟩ := hrel
    by_cases hjn : j < n
    · obtain ⟨g, rfl⟩ : ∃ g, xa = some ⟨g, 0, none⟩ := by
        rcases O.out with ⟨_, h0, _⟩ | ⟨g, cap, e0, _⟩
        · omega
        · injection e0 with e0
          exact ⟨g, e0⟩
      obtain ⟨O2, ⟨y, hy⟩, hz⟩ := ownM_put O.out hjn (.string M)
      have y1 : (j : Int) < (n : Int) := by omega
      have y3 : (0 : Int) ≤ (j : Int) := by omega
      have hjn' := hid hjn
      have O2 : Hid (OwnM 1 (wr.setCell ⟨g, j, none⟩ (.string M)) (.slice (some ⟨g, 0, none⟩) n ca) n (List.replicate (j + 1) (.string M) ++ cs.drop (j + 1))) := by
        have hjc : j < cs.length := by rw [HC.out]; exact hjn
        have e : (List.replicate j (Value.string M) ++ cs.drop j).set j (.string M) = List.replicate (j + 1) (.string M) ++ cs.drop (j + 1) := by
          rw [List.set_append_right _ _ (by simp), List.length_replicate, Nat.sub_self, List.drop_eq_getElem_cons hjc, List.set_cons_zero, List.replicate_succ', List.append_assoc]
          rfl
        rw [← e]; exact O2
      have K2 : Hid (Keep (fun k => (Value.slice (some ⟨g, 0, none⟩) n ca).ownBlock = some k) w (wr.setCell ⟨g, j, none⟩ (.string M))) := keep_set Kp.out rfl _ _
      clear O Kp
      go_wp2
      exact ⟨⟨j + 1, hjn'.out, by go_num, O2, K2⟩, by have := hjn'.out; simp [RowKit.intOf]; omega⟩
    · obtain rfl : j = n := by omega
      have y1 : ¬ (j : Int) < (j : Int) := by omega
      go_wp2
      go_end0
      have := O.out
      rw [List.drop_of_length_le (by rw [HC.out]; exact Nat.le_refl _), List.append_nil] at this
      exact ⟨rfl, this, Kp.out⟩
end Kc
end Go.Proofs.Ytkamjpjmdibfgaa
