import Derived.Test.YtkbngmhhlpdpnaaDoorI15
namespace Go.Proofs.YtkbngmhhlpdpnaaDoor
open Go.RowKit
def bhd : List UInt8 := [98, 101, 104, 105, 110, 100]
theorem bhd_sv : sv bhd = .string ⟨#[98, 101, 104, 105, 110, 100]⟩ := rfl
def bhds (j : Nat) : List (List UInt8) := List.replicate j bhd ++ List.replicate (8 - j) []
theorem bhds_len (j : Nat) (h : j ≤ 8) : (bhds j).length = 8 := by simp [bhds]; omega
theorem bhds_set : ∀ j : Fin 8, (bhds j.val).set j.val bhd = bhds (j.val + 1) := by decide
theorem bhds_get : ∀ j : Fin 8, (bhds 8)[j.val]? = some bhd := by decide
theorem bhds_step (ps : List (List UInt8)) (j : Nat) (h : j < 8) : (ps ++ bhds j).set (ps.length + j) bhd = ps ++ bhds (j + 1) := by
  rw [List.set_append_right _ _ (by omega), show ps.length + j - ps.length = j from by omega, bhds_set ⟨j, h⟩]
set_option maxRecDepth 100000 in
set_option maxHeartbeats 1000000 in
theorem lent4_any (ps : List (List UInt8)) (a : Option Addr) (cap : Nat) (w : World) (hn : ps.length ≤ 8796093021952) (hA : At w a ps) :
    Calls Tryd.prog 68 #[.slice a ps.length cap] w fun e w' => e = .returned (.slice (some ⟨w.heap.size, 0, none⟩) (ps.length + 8) (ps.length + 8)) ∧ Row w' w.heap.size (ps ++ bhds 8) ∧ Below w.heap.size w w' := by
  have hmk := make_texts w (ps.length + 8) (by omega)
  have e8 : ((ps.length + 8 : Nat) : Int) = (ps.length : Int) + 8 := by omega
  rw [e8] at hmk
  have R1 : Row (w.alloc (.cells (svs (List.replicate (ps.length + 8) [])).toArray 9)) w.heap.size (List.replicate ps.length [] ++ List.replicate 8 []) := by
    rw [List.replicate_append_replicate]; exact heap_alloc_new w _
  have hb1 := (Below.refl w.heap.size w).alloc (Nat.le_refl _) (.cells (svs (List.replicate (ps.length + 8) [])).toArray 9)
  obtain ⟨w2, hcp, hR2, hb2⟩ := copy_texts _ w.heap.size a cap ps (List.replicate 8 []) (hA.below hb1 (Nat.le_refl _)) R1 (ps.length + 8) (ps.length + 8) (by simp)
  have B2 : Below w.heap.size w w2 := hb1.trans (hb2.below (Nat.le_refl _) (by rw [size_alloc]; omega))
  have HR2 := hid hR2
  have HB2 := hid B2
  clear hR2 B2 R1 hb2 hb1 hA
  generalize w.alloc (.cells (svs (List.replicate (ps.length + 8) [])).toArray 9) = w1 at *
  obtain ⟨n, hpn⟩ : ∃ n, ps.length = n := ⟨_, rfl⟩
  rw [hpn] at hmk hcp hn ⊢
  go_enter Tryd.func68, Tryd.ntmps68
  go_wp2
  clear hcp hmk
  go_loopw [4] (fun i w' => ∃ j : Nat, j ≤ 8 ∧ i = .int .i64 ((n : Int) + (j : Int)) ∧ Hid (Row w' w.heap.size (ps ++ bhds j)) ∧ Hid (Below w.heap.size w w')) (fun i _ => n + 8 - (intOf i).toNat)
  case atStart => exact ⟨0, by omega, by simp, HR2, HB2⟩
  case round =>
    clear HR2 HB2
    obtain ⟨j, hj, rfl, hR, hB⟩ := hrel
    by_cases hlt : j < 8
    · have b0 : (n : Int) + (j : Int) < (n : Int) + 8 := by omega
      have b1 : (0 : Int) ≤ (n : Int) + (j : Int) := by omega
      have t1 : ((n : Int) + (j : Int)).toNat = n + j := by omega
      have hl : (ps ++ bhds j).length = n + 8 := by rw [List.length_append, bhds_len j (by omega), hpn]
      have cp := hR.out.cell (List.getElem?_eq_getElem (show n + j < (ps ++ bhds j).length by omega))
      have fz := hR.out.free (show n + j < (ps ++ bhds j).length by omega)
      have R' := hR.out.set (n + j) bhd
      rw [← hpn, bhds_step ps j hlt, hpn] at R'
      have B' := hid (hB.out.setCell (p := ⟨w.heap.size, n + j, none⟩) (Nat.le_refl _) (sv bhd))
      rw [bhd_sv] at R' B'
      have R'' := hid R'
      clear R' hR hB
      go_wp2
      exact ⟨⟨j + 1, by omega, by rw [show (n : Int) + (j : Int) + 1 = (n : Int) + ((j + 1 : Nat) : Int) from by omega], R'', B'⟩, by simp [intOf]; omega⟩
    · obtain rfl : j = 8 := by omega
      have b0 : ¬ (n : Int) + ((8 : Nat) : Int) < (n : Int) + 8 := by omega
      go_wp2
      go_ret
      exact ⟨rfl, hR.out, hB.out⟩
set_option maxRecDepth 100000 in
set_option maxHeartbeats 2000000 in
theorem kept4_yes (ps : List (List UInt8)) (H : Nat) (a : Option Addr) (cap : Nat) (w : World) (hn : ps.length ≤ 8796093021952) (hR : Row w H (ps ++ bhds 8)) (hA : At w a ps) :
    Calls Tryd.prog 71 #[.slice (some ⟨H, 0, none⟩) (ps.length + 8) (ps.length + 8), .slice a ps.length cap] w fun e w' => e = .returned (.bool true) ∧ Below w.heap.size w w' ∧ w'.heap = w.heap := by
  have HR := hid hR
  have HA := hid hA
  obtain ⟨n, hpn⟩ : ∃ n, ps.length = n := ⟨_, rfl⟩
  obtain ⟨n8, hn8⟩ : ∃ k, n + 8 = k := ⟨_, rfl⟩
  rw [hpn] at hn ⊢
  rw [hn8]
  clear hA hR
  go_enter Tryd.func71, Tryd.ntmps71
  go_wp2
  go_loopw [5] (fun i w' => ∃ j : Nat, j ≤ n8 ∧ i = .int .i64 (j : Int) ∧ Hid (Below w.heap.size w w' ∧ w'.heap = w.heap)) (fun i _ => n8 - (intOf i).toNat)
  case atStart => exact ⟨0, by omega, rfl, hid ⟨Below.refl _ _, rfl⟩⟩
  case round =>
    obtain ⟨j, hj, rfl, hw'⟩ := hrel
    by_cases hlt : j < n8
    · have b0 : (j : Int) < (n8 : Int) := by omega
      by_cases hjn : j < n
      · have c0 : (j : Int) < (n : Int) := by omega
        have c1 : decide ((j : Int) < (n : Int)) = true := decide_eq_true c0
        have c2 : ¬ (n : Int) ≤ (j : Int) := by omega
        have c3 : decide ((n : Int) ≤ (j : Int)) = false := decide_eq_false c2
        have c4 : decide (n ≤ j) = false := decide_eq_false (by omega)
        obtain ⟨x, rfl, xb, hx⟩ := HA.out j ps[j] (List.getElem?_eq_getElem (by omega))
        have hc1 := HR.out.cell (j := j) (p := ps[j]) (by rw [List.getElem?_append_left (by omega)]; exact List.getElem?_eq_getElem (by omega))
        rw [← hw'.out.1.cell (p := x.add j) (by rw [addr_block]; exact xb)] at hx
        rw [← hw'.out.1.cell (p := ⟨H, j, none⟩) HR.out.lt] at hc1
        clear xb
        rw [show sv ps[j] = .string ⟨(ps[j]).toArray⟩ from rfl] at hx hc1
        generalize ByteArray.mk (ps[j]).toArray = p at *
        have y1 : (p.toList == p.toList) = true := by simp
        have y2 : (p.toList != p.toList) = false := by simp
        clear HA HR
        go_wp2
        go_quiet (fail)
        go_wp2
        exact ⟨⟨j + 1, by omega, by go_num, hid ⟨below_drewN hw'.out.1 _, hw'.out.2⟩⟩, by simp [intOf]; omega⟩
      · have c0 : ¬ (j : Int) < (n : Int) := by omega
        have c1 : decide ((j : Int) < (n : Int)) = false := decide_eq_false c0
        have c2 : (n : Int) ≤ (j : Int) := by omega
        have c3 : decide ((n : Int) ≤ (j : Int)) = true := decide_eq_true c2
        have hc1 := HR.out.cell (j := j) (p := bhd) (by
          rw [List.getElem?_append_right (by omega), hpn]
          exact bhds_get ⟨j - n, by omega⟩)
        rw [← hw'.out.1.cell (p := ⟨H, j, none⟩) HR.out.lt, bhd_sv] at hc1
        have y1 : ((ByteArray.mk #[98, 101, 104, 105, 110, 100]).toList == (ByteArray.mk #[98, 101, 104, 105, 110, 100]).toList) = true := by simp
        have y2 : ((ByteArray.mk #[98, 101, 104, 105, 110, 100]).toList != (ByteArray.mk #[98, 101, 104, 105, 110, 100]).toList) = false := by simp
        clear HA HR
        go_wp2
        go_quiet (fail)
        go_wp2
        exact ⟨⟨j + 1, by omega, by go_num, hid ⟨below_drewN hw'.out.1 _, hw'.out.2⟩⟩, by simp [intOf]; omega⟩
    · have b0 : ¬ (j : Int) < (n8 : Int) := by omega
      go_wp2
      go_ret
      exact ⟨rfl, hw'.out.1, hw'.out.2⟩
/-- append(l, s), whatever came in -/
theorem append_textG (w : World) (base : Nat) (v : Value) (L : List (List UInt8)) (p : List UInt8) (hown : Own w base v (svs L)) (hlen : L.length + 1 ≤ 8796093022208) (hbase : base ≤ w.heap.size) :
    ∃ v' w', (Builtin.append_ #[22, 22] 22 #[v, .slice (some ⟨w.heap.size, 0, none⟩) 1 1]).run Tryd.prog (w.alloc (.cells #[sv p] 9)) = .ok v' w' ∧ Own w' base v' (svs (L ++ [p])) ∧ Below base w w' := by
  obtain ⟨i0, hi, hz0, hz1, hz2⟩ := info_parts infoS
  have hsrc : Src Tryd.prog 1 22 (.slice (some ⟨w.heap.size, 0, none⟩) 1 1) 1 [sv p] (w.alloc (.cells #[sv p] 9)) :=
    Src.ofSlice _ Tryd.underlying22 ⟨w.heap.size, 0, none⟩ 1 1 [sv p] (by simp) (fun j u hj => by
      rw [Addr.add_mid, cell_of_row _ _ _ _ _ _ (heap_alloc_new w _), Nat.zero_add]; simpa using hj) (fun u hu => by simp at hu; subst hu; rfl)
  obtain ⟨v', w', h1, h2, h3, h4⟩ := run_append_O (P := Tryd.prog) (w.alloc (.cells #[sv p] 9)) base 22 22 22 9 i0 (.string ⟨#[]⟩) Tryd.underlying22 hi hz0 hz1 rfl v (svs L) (hown.alloc _) _ 1 [sv p] hsrc
    (by rw [svs_length, hz2]; omega) (by rw [svs_length, maxLen]; omega) (by rw [size_alloc]; omega) (fun _ => by omega)
  refine ⟨v', w', h1, by simpa [svs] using h2, ?_⟩
  exact ((Below.refl base w).alloc hbase _).trans (Below.ofGrown h3 hown.ge (by rw [size_alloc]; omega))
/-- as many texts come out -/
def TuOut (w : World) (M : Nat) (e : Ending) (w' : World) : Prop := ∃ v X, e = .returned v ∧ X.length = M ∧ Own w' w.heap.size v (svs X) ∧ Below w.heap.size w w'
theorem Own.block4 {w : World} {base : Nat} {v : Value} {x : List UInt8} {L : List (List UInt8)} (h : Own w base v (svs (x :: L))) : ∃ g cap, v = .slice (some ⟨g, 0, none⟩) (L.length + 1) cap ∧ base ≤ g ∧ g < w.heap.size ∧ w.cell? ⟨g, 0, none⟩ = some (sv x) ∧ w.frozen? ⟨g, 0, none⟩ = false := by
  rcases h with ⟨_, h⟩ | ⟨g, cap, rfl, h1, h2, h3, h4, h5, h6⟩
  · simp [svs] at h
  · refine ⟨g, cap, by simp [svs], h1, h6, h4 0 (sv x) rfl, ?_⟩
    have := h5 0 (by simp [svs] at h2; omega)
    rw [Nat.zero_add] at this
    exact this.2
theorem Own.set5 {w : World} {base g cap : Nat} {cs : List Value} (h : Own w base (.slice (some ⟨g, 0, none⟩) cs.length cap) cs) (k : Nat) (hk : k < cs.length) (x : Value) :
    Own (w.setCell ⟨g, k, none⟩ x) base (.slice (some ⟨g, 0, none⟩) (cs.set k x).length cap) (cs.set k x) := by
  rcases h with ⟨h, _⟩ | ⟨g', cap', h, h1, h2, h3, h4, h5, h6⟩
  · cases h
  · injection h with e1 e2 e3
    injection e1 with e1
    injection e1 with e1
    subst e1 e3
    refine .inr ⟨g, cap, rfl, h1, by rw [List.length_set]; exact h2, h3, fun j v hv => ?_, fun j hj => ?_, by simpa [World.setCell] using h6⟩
    · rw [Nat.zero_add]
      rw [List.getElem?_set] at hv
      split at hv
      · rename_i e
        subst e
        cases hv
        have := (h5 k (by omega)).1
        rw [Nat.zero_add] at this
        exact World.cell?_setCell_same' _ _ _ this
      · rename_i e
        have := h4 j v hv
        rw [Nat.zero_add] at this
        exact (World.cell?_setCell_other _ _ _ _ (by intro h; injection h; omega)).trans this
    · have := h5 j hj
      rw [Nat.zero_add] at this ⊢
      refine ⟨?_, by rw [World.frozen?_setCell]; exact this.2⟩
      by_cases e : j = k
      · subst e
        rw [World.cell?_setCell_same' _ _ _ this.1]; rfl
      · rw [World.cell?_setCell_other _ _ _ _ (by intro h; injection h; omega)]
        exact this.1
set_option maxRecDepth 100000 in
set_option maxHeartbeats 2000000 in
theorem turned4_any (l : List (List UInt8)) (a : Option Addr) (cap : Nat) (w : World) (hl : l.length ≤ 8796093021952) (hq : ∀ q ∈ l, q.length ≤ 140737488351232) (hA : At w a l) :
    Calls Tryd.prog 72 #[.slice a l.length cap] w (TuOut w l.length) := by
  have HA := hid hA
  have HQ := hid hq
  clear hA hq
  obtain ⟨n, hn⟩ : ∃ n, l.length = n := ⟨_, rfl⟩
  rw [hn] at hl ⊢
  go_enter Tryd.func72, Tryd.ntmps72
  go_wp2
  go_loopw [3, 4] (fun v i w' => ∃ (k : Nat) (X : List (List UInt8)), k ≤ n ∧ i = .int .i64 ((k : Int) - 1) ∧ Hid (X.length + k = n) ∧ Hid (∀ q ∈ X, q.length ≤ 140737488351232) ∧ Hid (Own w' w.heap.size v (svs X)) ∧ Hid (Below w.heap.size w w')) (fun _ i _ => (intOf i + 1).toNat)
  case atStart => exact ⟨n, [], by omega, by go_num, by unfold Hid; simp, (fun q hq => by cases hq), Own.nil _ _, Below.refl _ _⟩
  case round =>
    obtain ⟨k, X, hk, rfl, hXl, hXq, hO, hB⟩ := hrel
    by_cases hk0 : 0 < k
    · obtain ⟨j, hj⟩ : ∃ j, k = j + 1 := ⟨k - 1, by omega⟩
      subst hj
      have e0 : (((j + 1 : Nat) : Int) - 1) = (j : Int) := by omega
      rw [e0]
      have b0 : (0 : Int) ≤ (j : Int) := by omega
      have b1 : (j : Int) < (n : Int) := by omega
      obtain ⟨x, rfl⟩ := HA.out.pos (by omega)
      obtain ⟨s, hs, hcell⟩ := (HA.out.below hB.out (Nat.le_refl _)).cell j (by omega)
      have hsq : s.data.toList.length ≤ 140737488351232 := by rw [hs.out]; exact HQ.out _ (List.getElem_mem _)
      obtain ⟨v3, w3, hap, hO3, hb3⟩ := append_textG wr w.heap.size _ X s.data.toList hO.out (by have := hXl.out; omega) hB.out.size
      rw [← sv_data4] at hap
      have fin : Hid ((X ++ [s.data.toList]).length + j = n) ∧ Hid (∀ q ∈ X ++ [s.data.toList], q.length ≤ 140737488351232) := by
        refine ⟨by have := hXl.out; unfold Hid; simp; omega, fun q hq => ?_⟩
        rcases List.mem_append.1 hq with h | h
        · exact hXq.out q h
        · rw [List.mem_singleton] at h; rw [h]; exact hsq
      have fB := hid (hB.out.trans hb3)
      have fO := hid hO3
      clear HA HQ hs hsq hXl hXq hO hO3 hb3 hB
      go_wp2_with (at_builtin; go_must (refine Lib.wpList_append_run _ rfl _ _ 22 22 rfl _ _ rfl rfl _ _ hap ?_))
      refine ⟨?_, by simp [intOf]; try omega⟩
      first
        | exact ⟨j, X ++ [s.data.toList], by omega, by go_num, fin.1, fin.2, fO, fB⟩
        | (repeat apply Exists.intro
           exact ⟨⟨j, X ++ [s.data.toList], by omega, by go_num, fin.1, fin.2, fO, fB⟩, rfl⟩)
    · obtain rfl : k = 0 := by omega
      have hXn : X.length = n := by have := hXl.out; omega
      have b0 : ¬ (0 : Int) ≤ ((0 : Nat) : Int) - 1 := by omega
      match X, hXn, hXq, hO with
      | [], hXn, hXq, hO =>
        have hn0 : n = 0 := by rw [← hXn]; rfl
        rcases hO.out with ⟨rfl, _⟩ | ⟨g, cap', rfl, h1, h2, h3, h4, h5, h6⟩
        · go_wp2
          go_ret
          exact ⟨_, [], rfl, by first | rfl | (rw [hn0]; rfl), Own.nil _ _, hB.out⟩
        · have hO' := hO.out
          go_wp2
          go_ret
          exact ⟨_, [], rfl, by first | rfl | (rw [hn0]; rfl), hO', hB.out⟩
      | y :: X, hXn, hXq, hO =>
        obtain ⟨g, cap', rfl, hg1, hg2, hc, hfz⟩ := hO.out.block4
        obtain ⟨D, hD⟩ : ∃ D, Hid (Sha.sha (ByteArray.mk y.toArray).data.toList = D) := ⟨_, rfl⟩
        have hsz : (ByteArray.mk y.toArray).size ≤ 140737488355000 := by rw [sv_size]; have := hXq.out y (by simp); omega
        have h1 := lhash_any ⟨y.toArray⟩ D hD hsz wr
        have b1 : (0 : Int) < ((X.length + 1 : Nat) : Int) := by omega
        have b2 : (0 : Int) < (X.length : Int) + 1 := by omega
        rw [show sv y = .string ⟨y.toArray⟩ from rfl] at hc
        have HO := hid hO.out
        clear HA HQ hXq hO
        go_wp2_with (go_at_call 28; fail)
        refine h1.mono ?_
        rintro e w2 ⟨rfl, hw2⟩
        have hc2 := (hw2.cell (p := ⟨g, 0, none⟩) hg2).trans hc
        have f2 : w2.frozen? ⟨g, 0, none⟩ = false := (hw2.frozen (p := ⟨g, 0, none⟩) hg2).trans hfz
        have hO2 := HO.out.below hw2 (Nat.le_refl _)
        have hO3 := Own.set5 (cs := svs (y :: X)) (by simpa [svs] using hO2) 0 (by simp [svs]) (sv D)
        have hB3 := hid ((hB.out.trans (hw2.mono hB.out.size)).setCell (p := ⟨g, 0, none⟩) hg1 (sv D))
        have HO3 := hid hO3
        clear hO2 hO3 HO hB hw2 hXl
        rw [show sv D = .string ⟨D.toArray⟩ from rfl] at HO3 hB3 ⊢
        go_wp2
        go_ret
        exact ⟨_, D :: X, rfl, by rw [← hXn]; rfl, by have := HO3.out; simp [svs] at this ⊢; exact this, hB3.out⟩
/-- copy(own, l), over what lay there -/
theorem copy_textsG (w : World) (H : Nat) (a : Option Addr) (cap' : Nat) (ps old rest : List (List UInt8)) (ho : old.length = ps.length) (hs : At w a ps) (hR : Row w H (old ++ rest)) (cap : Nat) :
    ∃ w', (Builtin.copy_ #[22, 22] 3 #[.slice (some ⟨H, 0, none⟩) ps.length cap, .slice a ps.length cap']).run Tryd.prog w = .ok (goInt ps.length) w' ∧ Row w' H (ps ++ rest) ∧ But H w w' := by
  by_cases h0 : ps.length = 0
  · obtain rfl : ps = [] := List.length_eq_zero_iff.1 h0
    obtain rfl : old = [] := List.length_eq_zero_iff.1 ho
    exact ⟨w, run_copy_none (P := Tryd.prog) w _ _ _ 9 _ _ _ _ _ _ Tryd.underlying22 infoS1 (by simp), by simpa using hR, But.refl _ _⟩
  · obtain ⟨x, rfl, hx, _⟩ := hs 0 _ (List.getElem?_eq_getElem (by omega))
    have h := run_copy_row (P := Tryd.prog) w 22 22 3 9 H 0 ps.length cap x ps.length cap' _ 9 (svs ps) Tryd.underlying22 infoS1 hR
      (by rw [svs_length]; exact (Nat.min_eq_left (Nat.le_refl _)).symm) (fun j u hu => by
        simp only [svs, List.getElem?_map, Option.map_eq_some_iff] at hu
        obtain ⟨p, hp, rfl⟩ := hu
        obtain ⟨y, hy, _, hc⟩ := hs j p hp
        cases hy
        exact hc) (by simp [svs]; omega) (fun u hu => svs_one' hu)
    refine ⟨_, h.trans (by rw [svs_length]), ?_, (But.refl _ _).setRow _⟩
    unfold Row
    rw [setRow_heap _ _ _ _ _ _ hR]
    refine congrArg (fun A => some (Obj.cells A 9 (0, 0))) ?_
    simp [svs, ← ho]
theorem Own.at5 {w : World} {base : Nat} {v : Value} {L : List (List UInt8)} (h : Own w base v (svs L)) : ∃ a cap, v = .slice a L.length cap ∧ At w a L ∧ L.length ≤ cap ∧ cap ≤ 9223372036854775807 ∧ ∀ y, a = some y → base ≤ y.block := by
  rcases h with ⟨rfl, h⟩ | ⟨g, cap, rfl, h1, h2, h3, h4, h5, h6⟩
  · obtain rfl : L = [] := by simpa [svs] using h
    exact ⟨none, 0, rfl, At.nil _ _, by simp, by omega, fun y hy => by cases hy⟩
  · rw [svs_length] at h2
    refine ⟨some ⟨g, 0, none⟩, cap, by rw [svs_length], fun j p hp => ⟨_, rfl, h6, ?_⟩, h2, h3, fun y hy => ?_⟩
    · rw [Addr.add_mid]
      exact h4 j (sv p) (by simp [svs, hp])
    · obtain rfl := Option.some.inj hy
      exact h1
theorem At.but {w w' : World} {a : Option Addr} {l : List (List UInt8)} {b : Nat} (h : At w a l) (hb : But b w w') (hs : w.heap.size ≤ w'.heap.size) (hne : ∀ x, a = some x → x.block ≠ b) : At w' a l := fun j p hp => by
  obtain ⟨x, rfl, hx, hc⟩ := h j p hp
  refine ⟨x, rfl, Nat.lt_of_lt_of_le hx hs, ?_⟩
  rw [← hc]
  exact World.cell?_of_block (w := w) (by rw [addr_block]; exact hb.block _ hx (hne x rfl))
theorem X_q {X : List (List UInt8)} (h : X.all (·.length == 32) = true) : ∀ q ∈ X, q.length ≤ 140737488351232 := fun q hq => by
  have := List.all_eq_true.1 h q hq
  have : q.length = 32 := by simpa using this
  omega
theorem Own.cell5 {w : World} {base g cap : Nat} {cs : List Value} (h : Own w base (.slice (some ⟨g, 0, none⟩) cs.length cap) cs) {k : Nat} {x : Value} (hk : cs[k]? = some x) : w.cell? ⟨g, k, none⟩ = some x ∧ w.frozen? ⟨g, k, none⟩ = false ∧ base ≤ g ∧ g < w.heap.size := by
  rcases h with ⟨h, _⟩ | ⟨g', cap', h, h1, h2, h3, h4, h5, h6⟩
  · cases h
  · injection h with e1 e2 e3
    injection e1 with e1
    injection e1 with e1
    subst e1 e3
    have h7 := h4 k x hk
    rw [Nat.zero_add] at h7
    have hkl : k < cs.length := by
      rcases Nat.lt_or_ge k cs.length with h | h
      · exact h
      · rw [List.getElem?_eq_none h] at hk; cases hk
    have h8 := (h5 k (by omega)).2
    rw [Nat.zero_add] at h8
    exact ⟨h7, h8, h1, h6⟩
end Go.Proofs.YtkbngmhhlpdpnaaDoor
