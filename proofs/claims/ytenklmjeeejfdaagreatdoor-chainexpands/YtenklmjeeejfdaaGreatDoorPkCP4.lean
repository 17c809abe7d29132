import Derived.Test.YtenklmjeeejfdaaGreatDoorPkCM2
namespace Go.Proofs.YtenklmjeeejfdaaGreatDoor
open Go.RowKit Go.Shelf
namespace Chn
theorem Grow.alt' {w w' : World} {v v' : Value} (g : Grow w w' v v') : ∀ k, v'.ownBlock = some k → v.ownBlock = some k ∨ w.heap.size ≤ k := fun k hk => by
  rcases g.alt with q | ⟨q, _⟩
  · exact .inl (by rw [← q]; exact hk)
  · exact .inr (q k hk)
set_option maxRecDepth 100000 in
set_option maxHeartbeats 1000000 in
theorem addC_any {w : World} {q b : Nat} {v : Value} {K : List (Nat × Nat)} (h : Td w q b v K) {x y : Nat} (hxy : x < y) (hy : y ≤ 1099511627776) (hK : ¬ (x, y) ∈ K) (hl : K.length ≤ 1000000) :
    Calls Tryz.prog 64 #[.pointer (some ⟨q, 0, none⟩), sg x y] w fun r w' => r = .returned (.tuple #[]) ∧ ∃ v', Td w' q b v' (K ++ [(x, y)]) ∧ Keep (Td.F q b v) w w' ∧ (∀ k, v'.ownBlock = some k → v.ownBlock = some k ∨ w.heap.size ≤ k) ∧ (∀ o, o ≠ 0 → w'.cell? ⟨q, o, none⟩ = w.cell? ⟨q, o, none⟩) ∧ ∀ o, w'.frozen? ⟨q, o, none⟩ = w.frozen? ⟨q, o, none⟩ := by
  have S0 := SpI.new w x y
  have b0 := (Below.refl w.heap.size w).alloc (Nat.le_refl _) (.cells #[.int .i64 (x : Int), .int .i64 (y : Int)] 56)
  have T0 := hid (h.below b0)
  have B0 := hid b0
  have i1 := fun w' => ends_any (x : Int) (y : Int) w'
  have HT := hid h
  have HS := hid S0
  obtain ⟨va, vc, hv, hvc1, hvc2⟩ := h.own.shape
  obtain ⟨n, hn⟩ : ∃ n, K.length = n := ⟨_, rfl⟩
  have HN := hid hn
  rw [hn] at hv
  have x0 := And.intro T0.out.c0 (And.intro T0.out.c1 (And.intro S0.c0 S0.c1))
  subst hv
  clear h b0 S0 hn hvc1 hvc2
  go_enter Tryz.func64, Tryz.ntmps64
  go_wp2
  go_region_held3 (fun w' => w'.cell? ⟨q, 0, none⟩ = some (.slice va n vc) ∧ w'.cell? ⟨q, 1, none⟩ = some (.map (some b)) ∧ w'.cell? ⟨w.heap.size, 0, none⟩ = some (.int .i64 (x : Int)) ∧ w'.cell? ⟨w.heap.size, 1, none⟩ = some (.int .i64 (y : Int))) (first | exact x2 | exact x1 | exact x0) (first | (go_at_call 87; refine (i1 _).mono ?_; rintro r w1 ⟨rfl, b1⟩; have b1 := drewBelow8 b1; have B1 := hid (B0.out.trans (b1.mono B0.out.size)); have T1 := hid (T0.out.below b1); have S1 := hid (HS.out.below b1); have x1 := And.intro T1.out.c0 (And.intro T1.out.c1 (And.intro S1.out.c0 S1.out.c1)); obtain ⟨f, hf, hg⟩ := T1.out.mp; obtain ⟨w2, hup, M2, bt2, z2⟩ := hf.put (s := (x, y)) ⟨by show x ≤ _; omega, by show y ≤ _; omega⟩ n; have HG := hid hg; have HM2 := hid M2; have K2 := hid (But.keepC bt2); have q2 := HT.out.lt; have x2 := And.intro ((World.cell?_of_block (w := w1) (K2.out.block q T1.out.lt T1.out.qb)).trans T1.out.c0) (And.intro ((World.cell?_of_block (w := w1) (K2.out.block q T1.out.lt T1.out.qb)).trans T1.out.c1) (And.intro (S1.out.keep K2.out (fun e => by have := HT.out.Flt b (.inr (.inl rfl)); omega)).c0 (S1.out.keep K2.out (fun e => by have := HT.out.Flt b (.inr (.inl rfl)); omega)).c1)); clear b1 hf hg M2 bt2 z2))
  have T2c0 := x2.1
  have O2 := hid (T1.out.own.keep K2.out fun k hk e => T1.out.vb (by rw [hk, e]))
  have f2 := (World.frozen?_of_block (w := w1) (K2.out.block q T1.out.lt T1.out.qb)).trans T1.out.f0
  have s0 := x2.2.2.1
  have s1 := x2.2.2.2
  have KW : Hid (Keep (Td.F q b (.slice va n vc)) w w2) := (Keep.ofBelow (S := Td.F q b (.slice va n vc)) B1.out).trans (K2.out.mono (T := Td.F q b (.slice va n vc)) fun k _ e => .inr (.inl e)) fun _ _ e => e
  have hq2 : q < w2.heap.size := Nat.lt_of_lt_of_le q2 KW.out.size
  obtain ⟨v', w3, hap, O3, G3⟩ := append_pair w2.drew (.slice va n vc) K x y O2.out (by omega)
  have g3 := hid G3.keep
  have ga := hid (Grow.alt' G3)
  have e3 := G3.keep.block q hq2 (fun e => HT.out.vq e)
  have c3 : w3.cell? ⟨q, 0, none⟩ = some (.slice va n vc) := (World.cell?_of_block (w := w2.drew) e3).trans T2c0
  have c3' : w3.cell? ⟨q, 1, none⟩ = some (.map (some b)) := (World.cell?_of_block (w := w2.drew) e3).trans x2.2.1
  have f3 : w3.frozen? ⟨q, 0, none⟩ = false := (World.frozen?_of_block (w := w2.drew) e3).trans f2
  have HC3 := hid c3'
  have HQ : Hid (w3.heap[q]? = w.heap[q]?) := e3.trans ((K2.out.block q T1.out.lt T1.out.qb).trans (B1.out.block q q2))
  have HO3 := hid O3
  obtain ⟨va', vn', vc', rfl⟩ := ownM_sl O3
  have hap : (Builtin.append_ #[36, 36] 36 #[.slice va n vc, .slice (some ⟨w2.heap.size, 0, none⟩) 1 1]).run Tryz.prog (w2.alloc (.cells #[.int .i64 (x : Int), .int .i64 (y : Int)] 56)).drew = .ok (.slice va' vn' vc') w3 := hap
  obtain ⟨v0, hv0⟩ : ∃ v0, Value.slice va n vc = v0 := ⟨_, rfl⟩
  rw [hv0] at hap T2c0 c3
  have HV0 := hid hv0
  clear x0 x1 x2 G3 O3 c3' e3 hv0 hup
  have bA := (Below.refl w2.heap.size w2.drew).alloc (Nat.le_refl _) (.cells #[.int .i64 (x : Int), .int .i64 (y : Int)] 56)
  have S2 : Hid (SpI w2 w.heap.size x y) := S1.out.keep K2.out (fun e => by have := HT.out.Flt b (.inr (.inl rfl)); omega)
  have SA := hid (SpI.below (w := w2.drew) S2.out bA)
  have c2A : (w2.drew.alloc (.cells #[.int .i64 (x : Int), .int .i64 (y : Int)] 56)).cell? ⟨q, 0, none⟩ = some v0 := (bA.cell (p := ⟨q, 0, none⟩) hq2).trans T2c0
  have S3 : Hid (SpI w3 w.heap.size x y) := SpI.keep (w := w2.drew) S2.out g3.out (fun e => by have := HT.out.own.lt _ e; omega)
  have y0 := And.intro S2.out.c0 S2.out.c1
  have y1 := And.intro SA.out.c0 SA.out.c1
  have y2 := And.intro S3.out.c0 S3.out.c1
  have S4 := S3.out.far q 0 (.slice va' vn' vc') (by omega)
  have y3 := And.intro S4.c0 S4.c1
  clear bA S4
  -- by hand
  have HO4 := hid (HO3.out.keep (Keep.ofSet (S := fun k => k = q) w3 q 0 (.slice va' vn' vc') rfl) fun k hk e => by
    rcases ga.out k hk with h1 | h1
    · exact HT.out.vq (by rw [HV0.out, ← e]; rw [HV0.out] at h1; exact h1)
    · have : w2.heap.size ≤ k := h1
      omega)
  have post : Hid (∃ v', Td (w3.setCell ⟨q, 0, none⟩ (.slice va' vn' vc')) q b v' (K ++ [(x, y)]) ∧ Keep (Td.F q b (.slice va n vc)) w (w3.setCell ⟨q, 0, none⟩ (.slice va' vn' vc')) ∧ (∀ k, v'.ownBlock = some k → (Value.slice va n vc).ownBlock = some k ∨ w.heap.size ≤ k) ∧ (∀ o, o ≠ 0 → (w3.setCell ⟨q, 0, none⟩ (.slice va' vn' vc')).cell? ⟨q, o, none⟩ = w.cell? ⟨q, o, none⟩) ∧ ∀ o, (w3.setCell ⟨q, 0, none⟩ (.slice va' vn' vc')).frozen? ⟨q, o, none⟩ = w.frozen? ⟨q, o, none⟩) := by
    have zb := HT.out.Flt b (.inr (.inl rfl))
    have zz := KW.out.size
    have ga' : ∀ k, (Value.slice va' vn' vc').ownBlock = some k → (Value.slice va n vc).ownBlock = some k ∨ w2.heap.size ≤ k := ga.out
    refine ⟨.slice va' vn' vc', ⟨World.cell?_setCell_same' _ _ _ (by rw [c3]; rfl), ?_, ?_, HO4.out, ⟨upd f (x, y) n, ?_, ?_⟩, ?_, HT.out.qb, ?_, ?_, ?_⟩, ?_, ?_, ?_, ?_⟩
    · exact (World.cell?_setCell_other _ _ _ _ (by simp)).trans HC3.out
    · rw [World.frozen?_setCell]; exact f3
    · have m3 := HM2.out.keep (w' := w3) ⟨g3.out.os, g3.out.tape, g3.out.output, g3.out.size, g3.out.block⟩ (fun e => HT.out.vb e)
      exact m3.heap (Below.heap_setCell _ _ _ b (Ne.symm HT.out.qb))
    · intro s j
      unfold upd
      by_cases hs : s = (x, y)
      · subst hs
        rw [if_pos rfl]
        constructor
        · intro e
          obtain rfl : n = j := Option.some.inj e
          rw [← HN.out, List.getElem?_append_right (Nat.le_refl _), Nat.sub_self]
          rfl
        · intro e
          by_cases hj : j < K.length
          · rw [List.getElem?_append_left hj] at e
            exact absurd (List.mem_of_getElem? e) hK
          · have := (List.getElem?_eq_some_iff.1 e).1
            rw [List.length_append, List.length_singleton] at this
            have := HN.out
            exact congrArg some (by omega)
      · rw [if_neg hs, HG.out s j]
        constructor
        · intro e
          rw [List.getElem?_append_left (List.getElem?_eq_some_iff.1 e).1]
          exact e
        · intro e
          by_cases hj : j < K.length
          · rw [List.getElem?_append_left hj] at e
            exact e
          · have h1 := (List.getElem?_eq_some_iff.1 e).1
            rw [List.length_append, List.length_singleton] at h1
            rw [List.getElem?_append_right (by omega), show j - K.length = 0 by omega] at e
            exact absurd (Option.some.inj e).symm hs
    · intro s hs
      rcases List.mem_append.1 hs with hs | hs
      · exact HT.out.lo s hs
      · obtain rfl := List.mem_singleton.1 hs
        exact ⟨hxy, hy⟩
    · intro e
      rcases ga' q e with h1 | h1
      · exact HT.out.vq h1
      · omega
    · intro e
      rcases ga' b e with h1 | h1
      · exact HT.out.vb h1
      · omega
    · have z3 := g3.out.size
      have : (w3.setCell ⟨q, 0, none⟩ (.slice va' vn' vc')).heap.size = w3.heap.size := by simp
      rw [this]
      exact Nat.lt_of_lt_of_le hq2 z3
    · refine (KW.out.trans (⟨g3.out.os, g3.out.tape, g3.out.output, g3.out.size, g3.out.block⟩ : Keep (fun k => (Value.slice va n vc).ownBlock = some k) w2 w3) fun k _ e => .inr (.inr e)).trans (Keep.ofSet (S := fun k => k = q) w3 q 0 (.slice va' vn' vc') rfl) fun k _ e => .inl e
    · intro k hk
      rcases ga' k hk with h1 | h1
      · exact .inl h1
      · exact .inr (by omega)
    · intro o ho
      exact (World.cell?_setCell_other _ _ _ _ (by intro e; injection e with _ e; exact ho e.symm)).trans (World.cell?_of_block (w := w) HQ.out)
    · intro o
      rw [World.frozen?_setCell]
      exact World.frozen?_of_block (w := w) HQ.out
  clear HO4
  have hapS := hap
  rw [← HV0.out] at hapS
  go_wp2
  refine wp_region_held_drew (S := (fun w' => w'.cell? ⟨w.heap.size, 0, none⟩ = some (.int .i64 (x : Int)) ∧ w'.cell? ⟨w.heap.size, 1, none⟩ = some (.int .i64 (y : Int)))) (by kernel_rfl) y0 (fun hHeld => ?_)
  refine wpAnyH_take (i := 0) (oi := ⟨some 15, _, _, _, _, _⟩) (v := .pointer (some ⟨q, 0, none⟩)) rfl (by kernel_rfl) (by kernel_rfl) (by kernel_rfl) (fun _ _ _ h => h) (Or.inl ⟨by rfl, ?_⟩) hHeld ?_
  · intro w' hw'
    simp [go_sem]
  dsimp only [Act.put]
  refine wpAnyH_take (i := 1) (oi := ⟨some 16, _, _, _, _, _⟩) (v := .pointer (some ⟨q, 0, none⟩)) rfl (by kernel_rfl) (by kernel_rfl) (by kernel_rfl) (fun _ _ _ h => h) (Or.inl ⟨by rfl, ?_⟩) hHeld ?_
  · intro w' hw'
    simp [go_sem]
  dsimp only [Act.put]
  refine wpAnyH_take (i := 2) (oi := ⟨some 17, _, _, _, _, _⟩) (v := .pointer (some ⟨q, 0, none⟩)) rfl (by kernel_rfl) (by kernel_rfl) (by kernel_rfl) (fun _ _ _ h => h) (Or.inl ⟨by rfl, ?_⟩) hHeld ?_
  · intro w' hw'
    simp [go_sem]
  dsimp only [Act.put]
  refine wpAnyH_take (i := 3) (oi := ⟨some 18, _, _, _, _, _⟩) (v := .pointer (some ⟨q, 0, none⟩)) rfl (by kernel_rfl) (by kernel_rfl) (by kernel_rfl) (fun _ _ _ h => h) (Or.inl ⟨by rfl, ?_⟩) hHeld ?_
  · intro w' hw'
    simp [go_sem]
  dsimp only [Act.put]
  refine wpAnyH_take (i := 5) (oi := ⟨some 20, _, _, _, _, _⟩) (v := sg x y) rfl (by kernel_rfl) (by kernel_rfl) (by kernel_rfl) (fun _ _ _ h => h) (Or.inl ⟨by rfl, ?_⟩) hHeld ?_
  · intro w' hw'
    obtain ⟨y0, y1⟩ := hw'; simp [go_sem, y0, y1]
  dsimp only [Act.put]
  refine wpAnyH_ready (rs := [4, 6]) (by kernel_rfl) (by decide) (AllReadyH.cons rfl (fun K' hK' => ?_) (AllReadyH.cons rfl (fun K' hK' => ?_) AllReadyH.nil))
  · rw [if_pos (by rfl)]
    have T2c1 : w2.drew.cell? ⟨q, 0, none⟩ = some v0 := T2c0
    go_wp2
    refine hK'.out _ _ y0 (fun hHeld => ?_)
    refine wpAnyH_ready (rs := [6]) (by kernel_rfl) (by decide) (AllReadyH.cons rfl (fun K' hK' => ?_) AllReadyH.nil)
    rw [if_pos (by rfl)]
    go_wp2
    refine hK'.out _ _ y1 (fun hHeld => ?_)
    refine wpAnyH_ready (rs := [7]) (by kernel_rfl) (by decide) (AllReadyH.cons rfl (fun K' hK' => ?_) AllReadyH.nil)
    refine step_append_run rfl _ _ 36 rfl v0 _ (.slice va' vn' vc') w3 rfl rfl hap ?_
    refine hK'.out _ _ y2 (fun hHeld => ?_)
    dsimp only [Act.put]
    refine wpAnyH_take (i := 8) (oi := ⟨some 23, _, _, _, _, _⟩) (v := .pointer (some ⟨q, 0, none⟩)) rfl (by kernel_rfl) (by kernel_rfl) (by kernel_rfl) (fun _ _ _ h => h) (Or.inl ⟨by rfl, ?_⟩) hHeld ?_
    · intro w' hw'
      simp [go_sem]
    dsimp only [Act.put]
    refine wpAnyH_take (i := 9) (oi := ⟨some 24, _, _, _, _, _⟩) (v := .pointer (some ⟨q, 0, none⟩)) rfl (by kernel_rfl) (by kernel_rfl) (by kernel_rfl) (fun _ _ _ h => h) (Or.inl ⟨by rfl, ?_⟩) hHeld ?_
    · intro w' hw'
      simp [go_sem]
    dsimp only [Act.put]
    refine wpAnyH_ready (rs := [10]) (by kernel_rfl) (by decide) (AllReadyH.cons rfl (fun K' hK' => ?_) AllReadyH.nil)
    rw [if_pos (by rfl)]
    go_wp2
    refine hK'.out _ _ y3 (fun _ => wpAnyH_done (by kernel_rfl) ?_ _)
    go_wp2
    go_end0
    exact ⟨rfl, post.out⟩
  · rw [if_pos (by rfl)]
    go_wp2
    refine hK'.out _ _ y1 (fun hHeld => ?_)
    refine wpAnyH_ready (rs := [4]) (by kernel_rfl) (by decide) (AllReadyH.cons rfl (fun K' hK' => ?_) AllReadyH.nil)
    rw [if_pos (by rfl)]
    go_wp2
    refine hK'.out _ _ y1 (fun hHeld => ?_)
    refine wpAnyH_ready (rs := [7]) (by kernel_rfl) (by decide) (AllReadyH.cons rfl (fun K' hK' => ?_) AllReadyH.nil)
    refine step_append_run rfl _ _ 36 rfl (.slice va n vc) _ (.slice va' vn' vc') w3 rfl rfl hapS ?_
    refine hK'.out _ _ y2 (fun hHeld => ?_)
    dsimp only [Act.put]
    refine wpAnyH_take (i := 8) (oi := ⟨some 23, _, _, _, _, _⟩) (v := .pointer (some ⟨q, 0, none⟩)) rfl (by kernel_rfl) (by kernel_rfl) (by kernel_rfl) (fun _ _ _ h => h) (Or.inl ⟨by rfl, ?_⟩) hHeld ?_
    · intro w' hw'
      simp [go_sem]
    dsimp only [Act.put]
    refine wpAnyH_take (i := 9) (oi := ⟨some 24, _, _, _, _, _⟩) (v := .pointer (some ⟨q, 0, none⟩)) rfl (by kernel_rfl) (by kernel_rfl) (by kernel_rfl) (fun _ _ _ h => h) (Or.inl ⟨by rfl, ?_⟩) hHeld ?_
    · intro w' hw'
      simp [go_sem]
    dsimp only [Act.put]
    refine wpAnyH_ready (rs := [10]) (by kernel_rfl) (by decide) (AllReadyH.cons rfl (fun K' hK' => ?_) AllReadyH.nil)
    rw [if_pos (by rfl)]
    go_wp2
    refine hK'.out _ _ y3 (fun _ => wpAnyH_done (by kernel_rfl) ?_ _)
    go_wp2
    go_end0
    exact ⟨rfl, post.out⟩
end Chn
end Go.Proofs.YtenklmjeeejfdaaGreatDoor

namespace Go.Proofs.YtenklmjeeejfdaaGreatDoor
open Go.RowKit Go.Shelf
attribute [local go_sem] Oper.semAt_some
def proofE (m n : Int) : Int := if 1 ≤ m ∧ m ≤ n ∧ n ≤ 1099511627776 then 0 else 81
def proofL (m n : Int) : List (Nat × Nat) := if proofE m n = 0 then Tree.prfF n.toNat 0 n.toNat m.toNat else []
set_option maxRecDepth 100000 in
set_option maxHeartbeats 8000000 in
theorem proof8_bad (m n : Int) (w : World) (h : proofE m n ≠ 0) : Calls Tryz.prog 86 #[.int .i64 m, .int .i64 n] w (SpP w (proofE m n) (proofL m n)) := by
  refine (callsIn_wide (n := 9)).1 ?_
  have c0 := (Boxed.new w 3 (.int .i64 m)).cell
  have eL : Hid (proofL m n = []) := by unfold Hid proofL; rw [if_neg h]
  have eE : proofE m n = 81 := by unfold proofE at h ⊢; split at h; exact absurd rfl h; rw [if_neg ‹_›]
  rw [eL.out, eE]
  have hc : ¬ (1 ≤ m ∧ m ≤ n ∧ n ≤ 1099511627776) := fun hh => h (by unfold proofE; rw [if_pos hh])
  clear eL eE h
  refine callsIn_of_wp_marks Tryz.func86 rfl trivial ?_ rfl
  simp only [Tryz.ntmps86, List.size_toArray, List.length_cons, List.length_nil, Nat.reduceAdd, Nat.reduceSub, Array.replicate_succ, Array.replicate_zero, List.push_toArray, List.append_toArray, List.nil_append, List.cons_append]
  by_cases h1 : m < 1
  · gi_wp2
    refine ⟨_, results_tmp2 rfl _ _ _, (Below.refl _ w).alloc (Nat.le_refl _) _, _, rfl, OwnM.nil 2 _, fun k hk => by cases hk⟩
  · by_cases h2 : n < m
    · gi_wp2
      refine ⟨_, results_tmp2 rfl _ _ _, (Below.refl _ w).alloc (Nat.le_refl _) _, _, rfl, OwnM.nil 2 _, fun k hk => by cases hk⟩
    · have h3 : 1099511627776 < n := by omega
      gi_wp2
      refine ⟨_, results_tmp2 rfl _ _ _, (Below.refl _ w).alloc (Nat.le_refl _) _, _, rfl, OwnM.nil 2 _, fun k hk => by cases hk⟩
def Gt8 (m : Nat) (l : List (Nat × Nat)) : Prop := ∀ s ∈ l, m < s.2
theorem Gt8.snoc {m : Nat} {l : List (Nat × Nat)} {x y : Nat} (h : Gt8 m l) (hq : m < y) : Gt8 m (l ++ [(x, y)]) := fun s hs => by
  rcases List.mem_append.1 hs with h' | h'
  · exact h s h'
  · obtain rfl : s = (x, y) := by simpa using h'
    exact hq
def Exi (c : Code) : Prop := c = .exit 0
set_option maxRecDepth 100000 in
set_option maxHeartbeats 8000000 in
theorem proof8_ok (m n i : Nat) (w : World) (hm : Hid (m = i + 1)) (h2 : m ≤ n) (h3 : n ≤ 1099511627776) : Calls Tryz.prog 86 #[.int .i64 (m : Int), .int .i64 (n : Int)] w (SpP w 0 (Tree.prfF n 0 n m)) := by
  refine (callsIn_wide (n := 9)).1 ?_
  have c0 := (Boxed.new w 3 (.int .i64 (m : Int))).cell
  have c0' := ((Boxed.new w 3 (.int .i64 (m : Int))).alloc (.cells #[.slice none 0 0] 36)).cell
  have q1 : ¬ (m : Int) < 1 := by have := hm.out; omega
  have q2 : ¬ (n : Int) < (m : Int) := by omega
  have q3 : ¬ (1099511627776 : Int) < (n : Int) := by omega
  have q4 : wrap64 ((m : Int) - 1) = (i : Int) := by have := hm.out; unfold wrap64; omega
  have q5 : IntKind.i64.wrap ((m : Int) - 1) = (i : Int) := by have := hm.out; rw [IntKind.wrap_i64]; omega
  have q6 : decide ((m : Int) < 1) = false := by have := hm.out; rw [decide_eq_false]; omega
  have q7 : decide (n < m) = false := by rw [decide_eq_false]; omega
  refine callsIn_of_wp_marks Tryz.func86 rfl trivial ?_ rfl
  simp only [Tryz.ntmps86, List.size_toArray, List.length_cons, List.length_nil, Nat.reduceAdd, Nat.reduceSub, Array.replicate_succ, Array.replicate_zero, List.push_toArray, List.append_toArray, List.nil_append, List.cons_append]
  gi_wp2
  refine ⟨trivial, (callsIn_wide.2 (way_any _ _ _)).mono ?_⟩
  rintro r w1 ⟨rfl, h1⟩
  have h1 := h1.symm
  subst h1
  gi_wp2
  clear c0 c0'
  have hmi : i < m := by have := hm.out; omega
  obtain ⟨W4, hW4⟩ : ∃ W4, Hid (((((w.alloc (.cells #[.int .i64 (m : Int)] 3)).alloc (.cells #[.slice none 0 0] 36)).alloc (.cells #[.int .i64 (n : Int)] 3)).alloc (.cells #[.int .i64 (i : Int)] 3)) = W4) := ⟨_, rfl⟩
  rw [hW4.out]
  have z4 : W4.heap.size = w.heap.size + 4 := by rw [← hW4.out]; simp
  have B4 : Below w.heap.size w W4 := by rw [← hW4.out]; exact ((((Below.refl _ w).alloc (Nat.le_refl _) _).alloc (by rw [size_alloc]; omega) _).alloc (by rw [size_alloc, size_alloc]; omega) _).alloc (by rw [size_alloc, size_alloc, size_alloc]; omega) _
  have R0 : Boxed W4 w.heap.size 3 (.int .i64 (m : Int)) := by rw [← hW4.out]; exact (((Boxed.new w 3 (.int .i64 (m : Int))).alloc _).alloc _).alloc _
  have R1 : Boxed W4 (w.heap.size + 1) 36 (.slice none 0 0) := by
    rw [← hW4.out]
    have := Boxed.new (w.alloc (.cells #[.int .i64 (m : Int)] 3)) 36 (.slice none 0 0)
    rw [size_alloc] at this
    exact (this.alloc _).alloc _
  have R2 : Boxed W4 (w.heap.size + 1 + 1) 3 (.int .i64 (n : Int)) := by
    rw [← hW4.out]
    have := Boxed.new ((w.alloc (.cells #[.int .i64 (m : Int)] 3)).alloc (.cells #[.slice none 0 0] 36)) 3 (.int .i64 (n : Int))
    rw [size_alloc, size_alloc] at this
    exact this.alloc _
  have R3 : Boxed W4 (w.heap.size + 1 + 1 + 1) 3 (.int .i64 (i : Int)) := by
    rw [← hW4.out]
    have := Boxed.new (((w.alloc (.cells #[.int .i64 (m : Int)] 3)).alloc (.cells #[.slice none 0 0] 36)).alloc (.cells #[.int .i64 (n : Int)] 3)) 3 (.int .i64 (i : Int))
    rw [size_alloc, size_alloc, size_alloc] at this
    exact this
  clear hW4
  have hway := Tree.wayF_has n 0 n i (Nat.le_refl _) (by omega) (by omega)
  have hwl := Tree.wayF_len n 0 n i (Nat.le_refl _) (by omega)
  have P0 : PthI w.heap.size (w.heap.size + 1) (m : Int) (fun k => k = w.heap.size ∨ Col.F (w.heap.size + 1) (.slice none 0 0) k) [] (.slice none 0 0) W4 := ⟨rfl, R0, ⟨R1, OwnM.nil 2 W4, fun h => by cases h⟩, fun h => by cases h⟩
  have hrc : Hid (Tree.rcol m (Tree.wayF n 0 n i) = (Tree.prfF n 0 n m).reverse) := by
    unfold Hid
    have := Tree.rcol_way m n 0 n (Nat.le_refl _) (by have := hm.out; omega) (by omega)
    rwa [show m - 1 = i by have := hm.out; omega] at this
  have hrl : (Tree.rcol m (Tree.wayF n 0 n i)).length ≤ 1099511627776 := by
    have h1 : ∀ l : List (Nat × Nat), (Tree.rcol m l).length ≤ l.length := fun l => by
      induction l with
      | nil => exact Nat.le_refl _
      | cons s l ih =>
        rw [Tree.rcol]
        split
        · rw [List.length_cons, List.length_cons]; omega
        · split
          · rw [List.length_cons]; simp
          · exact Nat.zero_le _
    have := h1 (Tree.wayF n 0 n i)
    omega
  refine range_foot (n := 9) (gf := 123) (lb := #[.pointer (some ⟨w.heap.size + 1 + 1, 0, none⟩), .pointer (some ⟨w.heap.size + 1 + 1 + 1, 0, none⟩)]) rfl (enters_of Tryz.func123 (by kernel_rfl) rfl)
    (way_iter n i _ _ (by omega) (by omega) (by omega) W4 R2.cell R3.cell) (fun _ => rfl)
    (fun F pre W => (∃ v, PthI w.heap.size (w.heap.size + 1) (m : Int) F (pre.map (Tree.osd i)) v W) ∧ Gt8 m pre)
    (fun c F _ W => Exi c ∧ ∃ v, PthI w.heap.size (w.heap.size + 1) (m : Int) F (Tree.rcol m (Tree.wayF n 0 n i)) v W)
    ⟨fun F pre W W' S ⟨⟨v, h⟩, hg⟩ hk hs => ⟨⟨v, h.keep hk hs⟩, hg⟩, fun F pre W ⟨⟨v, h⟩, _⟩ => h.lt⟩ (fun c => ⟨fun F pre W W' S ⟨hc, v, h⟩ hk hs => ⟨hc, v, h.keep hk hs⟩, fun F pre W ⟨_, v, h⟩ => h.lt⟩)
    (fun k => k = w.heap.size ∨ Col.F (w.heap.size + 1) (.slice none 0 0) k) ⟨⟨_, P0⟩, fun _ h => by cases h⟩ ?dis ?cl
    (fun F pre x a W => ∃ v go F1, PthI w.heap.size (w.heap.size + 1) (m : Int) F1 (pre.map (Tree.osd i)) v W ∧ Gt8 m pre ∧ F = (fun k => F1 k ∨ k = go) ∧ ¬ F1 go ∧ SpI W go x.1 x.2 ∧ a = { tmps := #[.int .i64 (m : Int), .int .i64 (n : Int), .pointer (some ⟨w.heap.size, 0, none⟩), undef, .slice none 0 0, .int .i64 0, .pointer (some ⟨w.heap.size + 1, 0, none⟩), .pointer (some ⟨go, 0, none⟩), .int .i64 (m : Int), .bool false, .bool false, .int .i64 (m : Int), .int .i64 (n : Int), .bool false, .bool false, .bool false, .int .i64 (n : Int), .bool false, .bool false, .int .i64 (n : Int), .int .i64 (m : Int), .int .i64 (i : Int), .func (.func 123) #[] #[.pointer (some ⟨w.heap.size + 1 + 1, 0, none⟩), .pointer (some ⟨w.heap.size + 1 + 1 + 1, 0, none⟩)], sg x.1 x.2, undef, undef, undef, undef, undef, undef, undef, undef, undef, undef, undef, undef, undef, undef, undef, undef, undef, undef, undef, undef, undef], defers := [] })
    ?fA ?assign ?body ?done ?stop
  case dis =>
    rintro k (rfl | rfl | e) (h | h)
    · omega
    · omega
    · omega
    · omega
    · cases e
    · cases e
  case cl => rintro k (rfl | rfl) <;> omega
  case fA =>
    rintro x a
    refine ⟨?_, ?_⟩
    · rintro F pre W W' S ⟨v, go, F1, h1, hgt, rfl, h2, h3, h4⟩ hk hs
      exact ⟨v, go, F1, h1.keep hk fun k e => hs k (.inl e), hgt, rfl, h2, h3.keep hk (hs _ (.inr rfl)), h4⟩
    · rintro F pre W ⟨v, go, F1, h1, _, rfl, h2, h3, h4⟩ k (e | rfl)
      · exact h1.lt k e
      · exact lt_of_heap h3
  case assign =>
    rintro l F pre x rest W ⟨⟨v, h1⟩, hgt⟩ hx
    clear q1 q2 q3 q4 q5 q6 q7
    gi_wp2
    have hb := (Below.refl _ W).alloc (Nat.le_refl _) (.cells #[.int .i64 (x.1 : Int), .int .i64 (x.2 : Int)] 56)
    exact ⟨_, Mvs.alloc F W _, v, W.heap.size, F, h1.below hb, hgt, rfl, fun h => by have := h1.lt _ h; omega, SpI.new W x.1 x.2, rfl⟩
  case body =>
    rintro l F pre x rest a W ⟨v, go, F1, h1, hgt, rfl, h2, h3, rfl⟩ hx
    obtain ⟨x, y⟩ := x
    have hxy := hway (x, y) (by rw [hx]; exact List.mem_append.2 (.inr List.mem_cons_self))
    have hxi : x ≤ i := hxy.2.1
    have hiy : i < y := hxy.2.2.1
    have hyn : y ≤ n := by have := hxy.2.2.2; omega
    have hpl : (pre.map (Tree.osd i)).length ≤ 1099511627776 := by
      have := congrArg List.length hx
      rw [List.length_append] at this
      rw [List.length_map]
      omega
    have c0 := h3.c0
    have c1 := h3.c1
    have d0 := h1.bi.cell
    have hFe := h1.F
    have hgo : ¬ v.ownBlock = some go := fun e => h2 (by rw [hFe]; exact .inr (.inr e))
    have hgb : go ≠ w.heap.size + 1 := fun e => h2 (by rw [hFe]; exact .inr (.inl e))
    have hMv : Mvs (fun k => F1 k ∨ k = go) W W F1 := ⟨Keep.refl _ _, fun k hk => .inl (.inl hk)⟩
    clear hFe hxy q1 q2 q3 q4 q6 q7 hrl hway
    obtain ⟨va, vc, hv, _, _⟩ := h1.col.own.shape
    obtain ⟨vn, hvn⟩ : ∃ vn, (pre.map (Tree.osd i)).length = vn := ⟨_, rfl⟩
    rw [hvn] at hv
    subst hv
    clear hvn
    have hcl := hpl
    by_cases hy : m < y
    · have hy' : (m : Int) < (y : Int) := by omega
      gi_wp2
      clear hy'
      have P1 := h1
      have s1 := h3
      refine round_held (S := (fun w' => w'.cell? ⟨go, 0, none⟩ = some (.int .i64 (x : Int)) ∧ w'.cell? ⟨go, 1, none⟩ = some (.int .i64 (y : Int)) ∧ w'.cell? ⟨w.heap.size, 0, none⟩ = some (.int .i64 (m : Int)))) (by kernel_rfl) (noDefer (by kernel_rfl)) ⟨s1.c0, s1.c1, P1.bi.cell⟩ (fun hHeld => ?_)
      refine wpAnyH_take (i := 1) (v := sg x y) rfl (by kernel_rfl) (by kernel_rfl) (by kernel_rfl) (fun _ _ _ h => h) (Or.inl ⟨by rfl, ?_⟩) hHeld ?_
      · intro w' hw'
        obtain ⟨y0, y1, y2⟩ := hw'
        simp [go_sem, y0, y1]
      dsimp only [Act.put]
      refine wpAnyH_take (i := 2) (v := .int .i64 (m : Int)) rfl (by kernel_rfl) (by kernel_rfl) (by kernel_rfl) (fun _ _ _ h => h) (Or.inl ⟨by rfl, ?_⟩) hHeld ?_
      · intro w' hw'
        obtain ⟨y0, y1, y2⟩ := hw'
        simp [go_sem, y2]
      dsimp only [Act.put]
      refine wpAnyH_take (i := 3) (v := .int .i64 (i : Int)) rfl (by kernel_rfl) (by kernel_rfl) (by kernel_rfl) (fun _ _ _ h => h) (Or.inl ⟨by rfl, ?_⟩) hHeld ?_
      · intro w' hw'
        simp [go_sem, q5]
      dsimp only [Act.put]
      refine wpAnyH_ready (rs := [0, 4]) (by kernel_rfl) (by decide) (AllReadyH.cons rfl (fun K' hK => ?_) (AllReadyH.cons rfl (fun K' hK => ?_) AllReadyH.nil))
      · rw [if_pos (by rfl)]
        have b0 : W.drew.cell? ⟨w.heap.size + 1, 0, none⟩ = some (.slice va vn vc) := P1.col.box.cell
        go_wp2
        refine hK.out _ _ ⟨s1.c0, s1.c1, P1.bi.cell⟩ (fun hHeld => ?_)
        refine wpAnyH_ready (rs := [4]) (by kernel_rfl) (by decide) (AllReadyH.cons rfl (fun K' hK => ?_) AllReadyH.nil)
        rw [if_pos (by rfl)]
        go_wp2_with (go_at_call 103; fail)
        refine (beside_any x y i (by omega) (by omega) _).mono ?_
        rintro r W2 ⟨rfl, hb2⟩
        have hb2 := drewBelow8 hb2
        have P2 := P1.below hb2
        have s2 := s1.below hb2
        obtain ⟨v', w3, hap, O3, G3⟩ := append_pair W2 (.slice va vn vc) (pre.map (Tree.osd i)) (Tree.osd i (x, y)).1 (Tree.osd i (x, y)).2 P2.col.own hcl
        obtain ⟨bx3, P3, M3⟩ := P2.push (by omega) O3 G3
        refine hK.out _ _ ⟨s2.c0, s2.c1, P2.bi.cell⟩ (fun hHeld => ?_)
        refine wpAnyH_ready (rs := [5]) (by kernel_rfl) (by decide) (AllReadyH.cons rfl (fun K' hK => ?_) AllReadyH.nil)
        rw [if_pos (by rfl)]
        go_wp2
        have hbB := (Below.refl _ W2).alloc (Nat.le_refl _) (.cells #[.int .i64 ((Tree.osd i (x, y)).1 : Int), .int .i64 ((Tree.osd i (x, y)).2 : Int)] 56)
        refine hK.out _ _ ⟨(s2.below hbB).c0, (s2.below hbB).c1, (P2.below hbB).bi.cell⟩ (fun hHeld => ?_)
        refine wpAnyH_ready (rs := [6]) (by kernel_rfl) (by decide) (AllReadyH.cons rfl (fun K' hK => ?_) AllReadyH.nil)
        refine step_append_run rfl _ _ 36 rfl (.slice va vn vc) _ v' w3 rfl rfl hap ?_
        have kA := (Mvs.alloc (fun _ => False) W2 (.cells #[.int .i64 ((Tree.osd i (x, y)).1 : Int), .int .i64 ((Tree.osd i (x, y)).2 : Int)] 56)).keep
        have s3 : SpI w3 go x y := s2.keep G3.keep hgo
        have bi3 : Boxed w3 (w.heap.size) 3 (.int .i64 (m : Int)) := P2.bi.keepF G3.keep P2.ne
        refine hK.out _ _ ⟨s3.c0, s3.c1, bi3.cell⟩ (fun hHeld => ?_)
        refine wpAnyH_ready (rs := [7]) (by kernel_rfl) (by decide) (AllReadyH.cons rfl (fun K' hK => ?_) AllReadyH.nil)
        rw [if_pos (by rfl)]
        have c3 := bx3.cell
        have f3 := bx3.frozen
        obtain ⟨va', vn', vc', rfl⟩ := ownM_sl O3
        go_wp2
        have s4 := s3.far (w.heap.size + 1) 0 (.slice va' vn' vc') hgb
        refine hK.out _ _ ⟨s4.c0, s4.c1, P3.bi.cell⟩ (fun _ => wpAnyH_done (by kernel_rfl) ?_ _)
        have M5 : Mvs F1 W W2 F1 := ⟨Keep.ofBelow hb2, fun k hk => .inl hk⟩
        have M6 := (hMv.trans M5).trans M3
        simp only [OnlyN, Exit.then]
        gi_wp2
        refine ⟨_, M6, ⟨.slice va' vn' vc', ?_⟩, hgt.snoc hy⟩
        rw [List.map_append]
        exact P3
      · rw [if_pos (by rfl)]
        go_wp2_with (go_at_call 103; fail)
        refine (beside_any x y i (by omega) (by omega) _).mono ?_
        rintro r W2 ⟨rfl, hb2⟩
        have hb2 := drewBelow8 hb2
        have P2 := P1.below hb2
        have s2 := s1.below hb2
        obtain ⟨v', w3, hap, O3, G3⟩ := append_pair W2 (.slice va vn vc) (pre.map (Tree.osd i)) (Tree.osd i (x, y)).1 (Tree.osd i (x, y)).2 P2.col.own hcl
        obtain ⟨bx3, P3, M3⟩ := P2.push (by omega) O3 G3
        refine hK.out _ _ ⟨s2.c0, s2.c1, P2.bi.cell⟩ (fun hHeld => ?_)
        refine wpAnyH_ready (rs := [0, 5]) (by kernel_rfl) (by decide) (AllReadyH.cons rfl (fun K' hK => ?_) (AllReadyH.cons rfl (fun K' hK => ?_) AllReadyH.nil))
        · rw [if_pos (by rfl)]
          have b0 : W2.cell? ⟨w.heap.size + 1, 0, none⟩ = some (.slice va vn vc) := P2.col.box.cell
          go_wp2
          refine hK.out _ _ ⟨s2.c0, s2.c1, P2.bi.cell⟩ (fun hHeld => ?_)
          refine wpAnyH_ready (rs := [5]) (by kernel_rfl) (by decide) (AllReadyH.cons rfl (fun K' hK => ?_) AllReadyH.nil)
          rw [if_pos (by rfl)]
          go_wp2
          have hbB := (Below.refl _ W2).alloc (Nat.le_refl _) (.cells #[.int .i64 ((Tree.osd i (x, y)).1 : Int), .int .i64 ((Tree.osd i (x, y)).2 : Int)] 56)
          refine hK.out _ _ ⟨(s2.below hbB).c0, (s2.below hbB).c1, (P2.below hbB).bi.cell⟩ (fun hHeld => ?_)
          refine wpAnyH_ready (rs := [6]) (by kernel_rfl) (by decide) (AllReadyH.cons rfl (fun K' hK => ?_) AllReadyH.nil)
          refine step_append_run rfl _ _ 36 rfl (.slice va vn vc) _ v' w3 rfl rfl hap ?_
          have kA := (Mvs.alloc (fun _ => False) W2 (.cells #[.int .i64 ((Tree.osd i (x, y)).1 : Int), .int .i64 ((Tree.osd i (x, y)).2 : Int)] 56)).keep
          have s3 : SpI w3 go x y := s2.keep G3.keep hgo
          have bi3 : Boxed w3 (w.heap.size) 3 (.int .i64 (m : Int)) := P2.bi.keepF G3.keep P2.ne
          refine hK.out _ _ ⟨s3.c0, s3.c1, bi3.cell⟩ (fun hHeld => ?_)
          refine wpAnyH_ready (rs := [7]) (by kernel_rfl) (by decide) (AllReadyH.cons rfl (fun K' hK => ?_) AllReadyH.nil)
          rw [if_pos (by rfl)]
          have c3 := bx3.cell
          have f3 := bx3.frozen
          obtain ⟨va', vn', vc', rfl⟩ := ownM_sl O3
          go_wp2
          have s4 := s3.far (w.heap.size + 1) 0 (.slice va' vn' vc') hgb
          refine hK.out _ _ ⟨s4.c0, s4.c1, P3.bi.cell⟩ (fun _ => wpAnyH_done (by kernel_rfl) ?_ _)
          have M5 : Mvs F1 W W2 F1 := ⟨Keep.ofBelow hb2, fun k hk => .inl hk⟩
          have M6 := (hMv.trans M5).trans M3
          simp only [OnlyN, Exit.then]
          gi_wp2
          refine ⟨_, M6, ⟨.slice va' vn' vc', ?_⟩, hgt.snoc hy⟩
          rw [List.map_append]
          exact P3
        · rw [if_pos (by rfl)]
          go_wp2
          have hbB := (Below.refl _ W2).alloc (Nat.le_refl _) (.cells #[.int .i64 ((Tree.osd i (x, y)).1 : Int), .int .i64 ((Tree.osd i (x, y)).2 : Int)] 56)
          refine hK.out _ _ ⟨(s2.below hbB).c0, (s2.below hbB).c1, (P2.below hbB).bi.cell⟩ (fun hHeld => ?_)
          refine wpAnyH_ready (rs := [0]) (by kernel_rfl) (by decide) (AllReadyH.cons rfl (fun K' hK => ?_) AllReadyH.nil)
          have PB := P2.below hbB
          rw [if_pos (by rfl)]
          have b0 : (W2.alloc (.cells #[.int .i64 ((Tree.osd i (x, y)).1 : Int), .int .i64 ((Tree.osd i (x, y)).2 : Int)] 56)).cell? ⟨w.heap.size + 1, 0, none⟩ = some (.slice va vn vc) := PB.col.box.cell
          go_wp2
          refine hK.out _ _ ⟨(s2.below hbB).c0, (s2.below hbB).c1, (P2.below hbB).bi.cell⟩ (fun hHeld => ?_)
          refine wpAnyH_ready (rs := [6]) (by kernel_rfl) (by decide) (AllReadyH.cons rfl (fun K' hK => ?_) AllReadyH.nil)
          refine step_append_run rfl _ _ 36 rfl (.slice va vn vc) _ v' w3 rfl rfl hap ?_
          have kA := (Mvs.alloc (fun _ => False) W2 (.cells #[.int .i64 ((Tree.osd i (x, y)).1 : Int), .int .i64 ((Tree.osd i (x, y)).2 : Int)] 56)).keep
          have s3 : SpI w3 go x y := s2.keep G3.keep hgo
          have bi3 : Boxed w3 (w.heap.size) 3 (.int .i64 (m : Int)) := P2.bi.keepF G3.keep P2.ne
          refine hK.out _ _ ⟨s3.c0, s3.c1, bi3.cell⟩ (fun hHeld => ?_)
          refine wpAnyH_ready (rs := [7]) (by kernel_rfl) (by decide) (AllReadyH.cons rfl (fun K' hK => ?_) AllReadyH.nil)
          rw [if_pos (by rfl)]
          have c3 := bx3.cell
          have f3 := bx3.frozen
          obtain ⟨va', vn', vc', rfl⟩ := ownM_sl O3
          go_wp2
          have s4 := s3.far (w.heap.size + 1) 0 (.slice va' vn' vc') hgb
          refine hK.out _ _ ⟨s4.c0, s4.c1, P3.bi.cell⟩ (fun _ => wpAnyH_done (by kernel_rfl) ?_ _)
          have M5 : Mvs F1 W W2 F1 := ⟨Keep.ofBelow hb2, fun k hk => .inl hk⟩
          have M6 := (hMv.trans M5).trans M3
          simp only [OnlyN, Exit.then]
          gi_wp2
          refine ⟨_, M6, ⟨.slice va' vn' vc', ?_⟩, hgt.snoc hy⟩
          rw [List.map_append]
          exact P3
    · have hy' : ¬ (m : Int) < (y : Int) := by omega
      have hro : Hid (Tree.rcol m (Tree.wayF n 0 n i) = pre.map (Tree.osd i) ++ (if 0 < x then [(x, y)] else [])) := by
        have := Tree.rcol_split (m := m) (pre := pre) (x := (x, y)) (rest := rest) hgt hy
        rw [show m - 1 = i by have := hm.out; omega] at this
        unfold Hid
        rw [hx]
        exact this
      clear hx
      by_cases hx0 : 0 < x
      · have hx0' : (0 : Int) < (x : Int) := by omega
        have b0 := h1.col.box.cell
        obtain ⟨v', w3, hap, O3, G3⟩ := append_pair W (.slice va vn vc) (pre.map (Tree.osd i)) x y h1.col.own hcl
        obtain ⟨bx3, P3, M3⟩ := h1.push (by omega) O3 G3
        have c3 := bx3.cell
        have f3 := bx3.frozen
        obtain ⟨va', vn', vc', rfl⟩ := ownM_sl O3
        gi_wp2_with (gi_at_builtin; refine wpListIn_append_run rfl _ _ 36 rfl (.slice va vn vc) _ _ w3 rfl rfl hap ?_)
        refine ⟨_, hMv.trans M3, rfl, .slice va' vn' vc', ?_⟩
        rw [hro.out, if_pos hx0]
        exact P3
      · have hx0' : ¬ (0 : Int) < (x : Int) := by omega
        gi_wp2
        refine ⟨_, hMv, rfl, .slice va vn vc, ?_⟩
        rw [hro.out, if_neg hx0, List.append_nil]
        exact h1
  case done =>
    rintro D F W ⟨⟨v, h1⟩, hgt⟩ ha
    obtain ⟨p, hp⟩ := Tree.wayF_last n 0 n i (Nat.le_refl _) (by omega) (by omega)
    have := hgt (i, i + 1) (by rw [hp]; exact List.mem_append.2 (.inr (by simp)))
    have : m < i + 1 := this
    omega
  case stop =>
    rintro D c F pre W hp ⟨rfl, v, h1⟩ ha
    have hFe := h1.F
    have hvD : v.ownBlock ≠ some D := fun e => ha.out (by rw [hFe]; exact .inr (.inr e))
    have hvB : ∀ k, v.ownBlock = some k → w.heap.size ≤ k := fun k e => by
      rcases ha.new k (by rw [hFe]; exact .inr (.inr e)) with (q | q | q) | q
      · omega
      · omega
      · cases q
      · omega
    have hL : Hid (Tree.rcol m (Tree.wayF n 0 n i) = (Tree.prfF n 0 n m).reverse) := hrc
    have O1 := hid h1.col.own
    have hlen : Hid ((Tree.rcol m (Tree.wayF n 0 n i)).length ≤ 1099511627776) := by
      unfold Hid; exact hrl
    clear hrl
    have i5 := rev_any _ v W h1.col.own hlen.out
    rw [hL.out, List.reverse_reverse] at i5
    have bx := hid h1.col.box
    have hne := h1.col.ne
    obtain ⟨va, vn, vc, rfl⟩ := ownM_sl O1.out
    have c0 := bx.out.cell
    clear hFe h1
    gi_wp2
    refine ⟨trivial, (callsIn_wide.2 i5).mono ?_⟩
    rintro r W5 ⟨rfl, O5, K5⟩
    have b5 := (bx.out.keepF K5 hne)
    have c5 := b5.cell
    clear i5 c0
    gi_wp2
    have hm5 : W5.heap[D]? = some (.deferred (some [])) := (K5.block D (Array.getElem?_eq_some_iff.1 ha.mark).1 hvD).trans ha.mark
    refine ⟨by simp, .inl ⟨_, _, rfl, run_takeDeferred hm5, ?_⟩⟩
    refine ⟨_, results_tmp2 rfl _ _ _, ?_, _, rfl, O5.keep (Keep.ofPut (S := fun k => k = D) _ D (.deferred none) rfl) (fun k hk e => hvD (e ▸ hk)), hvB⟩
    have k1 : Keep (fun k => w.heap.size ≤ k) W4 W := ha.keep.mono fun k _ h => by
      rcases h with (h | h | h) | h
      · omega
      · omega
      · cases h
      · exact h.elim
    have k2 := (k1.trans (K5.mono (T := fun k => w.heap.size ≤ k) fun k _ h => hvB k h) fun _ _ h => h).trans (Keep.ofPut (S := fun k => w.heap.size ≤ k) W5 D (.deferred none) (by have := ha.hi; omega)) fun _ _ h => h
    exact B4.trans (k2.belowOf (by omega) fun _ h => h)
theorem proof8_any (m n : Int) (w : World) : Calls Tryz.prog 86 #[.int .i64 m, .int .i64 n] w (SpP w (proofE m n) (proofL m n)) := by
  by_cases h : proofE m n = 0
  · have hc : 1 ≤ m ∧ m ≤ n ∧ n ≤ 1099511627776 := by
      unfold proofE at h
      split at h
      · assumption
      · cases h
    unfold proofL
    rw [if_pos h, h]
    obtain ⟨m, rfl⟩ := Int.eq_ofNat_of_zero_le (show 0 ≤ m by omega)
    obtain ⟨n, rfl⟩ := Int.eq_ofNat_of_zero_le (show 0 ≤ n by omega)
    rw [Int.toNat_natCast, Int.toNat_natCast]
    exact proof8_ok m n (m - 1) w (show m = m - 1 + 1 by omega) (by omega) (by omega)
  · exact proof8_bad m n w h
end Go.Proofs.YtenklmjeeejfdaaGreatDoor
