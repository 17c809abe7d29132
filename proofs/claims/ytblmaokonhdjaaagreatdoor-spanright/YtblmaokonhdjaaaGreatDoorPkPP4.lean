import Derived.Test.YtblmaokonhdjaaaGreatDoorPkPR2
import Derived.Test.YtblmaokonhdjaaaGreatDoorPkPP1
import Derived.Deep.DeepCutAuto
import Derived.Deep.CutRange
/- Layer 14, the program: Root -/
namespace Go.Proofs.YtblmaokonhdjaaaGreatDoor
open Go.RowKit Go.Shelf
namespace Spn
/-- a run's value, and its variable -/
abbrev rn (n x y : Int) (v : Value) : Value := .agg #[.int .i64 n, .int .i64 x, .int .i64 y, v]
def RnI (w : World) (g : Nat) (n x y : Int) (v : Value) : Prop := w.heap[g]? = some (.cells #[.int .i64 n, .int .i64 x, .int .i64 y, v] 24 (0, 0))
theorem RnI.c0 {w : World} {g : Nat} {n x y : Int} {v : Value} (h : RnI w g n x y v) : w.cell? ⟨g, 0, none⟩ = some (.int .i64 n) := by rw [cell_of_row w g 0 _ _ _ h]; rfl
theorem RnI.c1 {w : World} {g : Nat} {n x y : Int} {v : Value} (h : RnI w g n x y v) : w.cell? ⟨g, 1, none⟩ = some (.int .i64 x) := by rw [cell_of_row w g 1 _ _ _ h]; rfl
theorem RnI.c2 {w : World} {g : Nat} {n x y : Int} {v : Value} (h : RnI w g n x y v) : w.cell? ⟨g, 2, none⟩ = some (.int .i64 y) := by rw [cell_of_row w g 2 _ _ _ h]; rfl
theorem RnI.c3 {w : World} {g : Nat} {n x y : Int} {v : Value} (h : RnI w g n x y v) : w.cell? ⟨g, 3, none⟩ = some v := by rw [cell_of_row w g 3 _ _ _ h]; rfl
theorem RnI.new (w : World) (n x y : Int) (v : Value) : RnI (w.alloc (.cells #[.int .i64 n, .int .i64 x, .int .i64 y, v] 24)) w.heap.size n x y v := heap_alloc_new w _
theorem RnI.below {w w' : World} {g : Nat} {n x y : Int} {v : Value} (h : RnI w g n x y v) (hb : Below w.heap.size w w') : RnI w' g n x y v := (hb.block g (lt_of_heap h)).trans h
theorem RnI.keep {w w' : World} {g : Nat} {n x y : Int} {v : Value} {S : Nat → Prop} (h : RnI w g n x y v) (hb : Keep S w w') (hs : ¬ S g) : RnI w' g n x y v := (hb.block g (lt_of_heap h) hs).trans h
theorem RnI.drew {w : World} {g : Nat} {n x y : Int} {v : Value} (h : RnI w g n x y v) : RnI w.drew g n x y v := h
theorem cmp_hs {L : List (List UInt8)} (s : Nat) (h : hsB8 L = true) : hsB8 (Cut.cmp L s) = true := by
  have hs : Tree.Hs L := fun x hx => by
    have := List.all_eq_true.1 h x hx
    simpa using this
  unfold hsB8
  rw [List.all_eq_true]
  intro t ht
  unfold Cut.cmp at ht
  obtain ⟨q, _, rfl⟩ := List.mem_map.1 ht
  unfold Cut.lh
  rw [Tree.root_hash ((hs.drop _).take _)]
  rfl
theorem Keep.al {S : Nat → Prop} {w w' : World} (h : Keep S w w') (ob : Obj) : Keep S w (w'.alloc ob) := h.trans (Keep.ofBelow (S := S) ((Below.refl w'.heap.size w').alloc (Nat.le_refl _) ob)) fun _ _ e => e
theorem Keep.bl {S : Nat → Prop} {w w' w'' : World} (h : Keep S w w') (hb : Below w'.heap.size w' w'') : Keep S w w'' := h.trans (Keep.ofBelow (S := S) hb) fun _ _ e => e
theorem ownM_own1 {w : World} {B : Nat} {v : Value} {cs : List Value} (h : Own w B v cs) : OwnM 1 w v cs.length cs := by
  rcases h with ⟨rfl, rfl⟩ | ⟨g, cap, rfl, _, h1, h2, h3, h4, h5⟩
  · exact OwnM.nil 1 w
  · exact .inr ⟨g, cap, rfl, h1, h2, by rw [Nat.mul_one], h3, by rw [Nat.mul_one]; exact h4, h5⟩
theorem ownM_at {w : World} {v : Value} {L : List (List UInt8)} (h : OwnM 1 w v L.length (svs L)) : ∃ a c, v = .slice a L.length c ∧ At w a L ∧ L.length ≤ c ∧ c ≤ 9223372036854775807 := by
  rcases h with ⟨rfl, h1, h2⟩ | ⟨g, cap, rfl, h1, h2, h3, h4, h5, h6⟩
  · have : L = [] := List.length_eq_zero_iff.1 h1
    subst this
    exact ⟨none, 0, rfl, At.nil _ _, Nat.le_refl _, by omega⟩
  · refine ⟨some ⟨g, 0, none⟩, cap, rfl, fun j p hp => ⟨_, rfl, h6, ?_⟩, h1, by rw [maxLen] at h2; exact h2⟩
    rw [Addr.add_mid]
    exact h4 j (sv p) (by simp [svs, hp])
theorem At.keep14 {w w' : World} {a : Option Addr} {L : List (List UInt8)} {S : Nat → Prop} (h : At w a L) (hk : Keep S w w') (hd : ∀ x, a = some x → ¬ S x.block) : At w' a L := fun j p hp => by
  obtain ⟨x, rfl, h1, h2⟩ := h j p hp
  refine ⟨x, rfl, Nat.lt_of_lt_of_le h1 hk.size, ?_⟩
  rw [World.cell?_of_block (w := w) (by rw [addr_block]; exact hk.block x.block h1 (hd x rfl))]
  exact h2
theorem grow_keepS {w w' : World} {v v' : Value} (h : Grow w w' v v') : Keep (fun k => v.ownBlock = some k) w w' := ⟨h.os, h.tape, h.output, h.size, h.old⟩
set_option maxRecDepth 100000 in
set_option maxHeartbeats 8000000 in
theorem root14_ok (n s e : Nat) (H L : List (List UInt8)) (val : Nat × Nat → List UInt8) (V : Val (rix s e) n H L val) (hse : s < e) (hen : e ≤ n) (hn : n ≤ 1099511627776) (hL : L.length = e - s) (hL4 : L.length ≤ 4096) (h8 : hsB8 H = true) (l8 : hsB8 L = true)
    (aH aL : Option Addr) (cH cL : Nat) (w : World) (hAH : At w aH H) (hAL : At w aL L) (Z : Tb w) :
    Calls Tryz.prog 26 #[rn (n : Int) (s : Int) (e : Int) (.slice aH H.length cH), .slice aL L.length cL] w fun r w' => r = .returned (.tuple #[sv (val (0, n)), .int .i64 0]) ∧ Below w.heap.size w w' := by
  have hF := fold_run V hse hen hn hL h8 (cmp_hs s l8)
  have hHl : H.length = (Tree.runF n 0 n s e).length := by rw [val_told V hse (by omega), List.length_map]
  have hT81 := told_len (n := n) (s := s) (e := e) (by omega) hn
  have hC81 := csp_len (b := s) (e := e) (by omega) (by omega)
  have hCp : 0 < (csp s e).length := by
    rw [csp, List.length_map, Cut.cut_cons (by omega) hse]; simp
  have hcl : (Cut.cmp L s).length = (csp s e).length := by rw [cmp_val V hse (by omega) hL, List.length_map]
  have hcE : cmpE (s : Int) L = 0 := by
    unfold cmpE
    rw [if_pos ⟨by omega, by omega, hL4⟩, if_pos (by omega), if_pos (show hsB L = true from l8)]
  obtain ⟨m, hm⟩ : ∃ m, L.length = m := ⟨_, rfl⟩
  obtain ⟨T, hTl⟩ : ∃ T, (Tree.runF n 0 n s e).length = T := ⟨_, rfl⟩
  have hT81' : T ≤ 81 := by rw [← hTl]; exact hT81
  have i2 := fun w' => told14_any n s e hse hen hn w'
  have i3 := fun w' hA => areHashes14_is H true h8 aH cH w' (by omega) hA
  have i4 := fun w' hA hT' => Compact_any (s : Int) L aL cL w' (by omega) (by omega) (by omega) hA hT'
  have i5 := fun w' hZ => complete14_any s e (by omega) (by omega) w' hZ
  rw [hcE, Int.toNat_natCast] at i4
  have W1 := RnI.new w (n : Int) (s : Int) (e : Int) (.slice aH H.length cH)
  have b1 := (Below.refl w.heap.size w).alloc (Nat.le_refl _) (.cells #[.int .i64 (n : Int), .int .i64 (s : Int), .int .i64 (e : Int), .slice aH H.length cH] 24)
  have b2' := (Below.refl _ (w.alloc (.cells #[.int .i64 (n : Int), .int .i64 (s : Int), .int .i64 (e : Int), .slice aH H.length cH] 24))).alloc (Nat.le_refl _) (.cells #[.int .i64 (s : Int), .int .i64 (e : Int)] 50)
  have S2 := SpI.new (w.alloc (.cells #[.int .i64 (n : Int), .int .i64 (s : Int), .int .i64 (e : Int), .slice aH H.length cH] 24)) (s : Int) (e : Int)
  rw [size_alloc] at S2
  have W2 := W1.below b2'
  have b2 := b1.trans (b2'.mono b1.size)
  have k1 := W1.c1
  have k2 := W1.c2
  have l0 := W2.c0
  have l1 := S2.c0
  have l2 := S2.c1
  have i1 := fun w' => isRun_is (n : Int) (s : Int) (e : Int) true (by simp [runB]; omega) w'
  have q0 : ¬ (1099511627776 : Int) < (n : Int) := by omega
  have hsub : IntKind.i64.wrap ((e : Int) - (s : Int)) = (m : Int) := by rw [IntKind.wrap_i64]; omega
  have HW := hid W2
  have HS := hid S2
  have HB := hid b2
  have HZ := hid Z
  have hZl := Z.lt
  have HAH := hid hAH
  have HAL := hid hAL
  have HF := hid hF
  have HHl := hid hHl
  have Hm := hid hm
  have HTl := hid hTl
  have Hcl := hid hcl
  rw [hHl, hTl] at W1 k1 k2 l0 l1 l2 HW HS HB i3 ⊢
  rw [hm] at i4 ⊢
  clear V hse hen hn hL hL4 h8 l8 hAH hAL Z hF W1 b1 b2' S2 W2 b2 hcE hHl hm hTl hcl
  go_enter Tryz.func26, Tryz.ntmps26
  go_wp2_with (go_at_call 44; fail)
  clear k1 k2 l0 l1 l2
  generalize (w.alloc (.cells #[.int .i64 (n : Int), .int .i64 (s : Int), .int .i64 (e : Int), .slice aH T cH] 24)).alloc (.cells #[.int .i64 (s : Int), .int .i64 (e : Int)] 50) = w2 at *
  refine (i1 _).mono ?_
  rintro r w3 ⟨rfl, b3⟩
  have W3 := hid (HW.out.below b3)
  have S3 := hid (HS.out.below b3)
  have B3 := hid (HB.out.trans (b3.mono HB.out.size))
  have l0 := W3.out.c0
  have l1 := S3.out.c0
  have l2 := S3.out.c1
  clear i1 b3 HW HS HB
  go_wp2_with (go_at_call 53; fail)
  clear l0 l1 l2
  refine (i2 _).mono ?_
  rintro r w4 ⟨v4, rfl, o4, f4, b4⟩
  obtain ⟨a4, c4, rfl, p1, p2⟩ := OwnM.shape o4
  rw [HTl.out]
  have W4 := hid (W3.out.below b4)
  have S4 := hid (S3.out.below b4)
  have B4 := hid (B3.out.trans (b4.mono B3.out.size))
  have O4 := hid o4
  have F4 : Hid (∀ k, (Value.slice a4 T c4).ownBlock = some k → w.heap.size + 1 + 1 ≤ k) := fun k hk => by
    have h5 := lt_of_heap S3.out
    have := f4 k (by rw [HTl.out]; exact hk)
    omega
  unfold Hid at O4
  rw [HTl.out] at O4
  have O4 := hid O4
  have V4 : Hid (∀ k, (Value.slice a4 T c4).ownBlock = some k → k < w4.heap.size) := fun k hk => by
    rcases O4.out with ⟨h, _⟩ | ⟨g, cap, h, _, _, _, _, _, h6⟩
    · rw [h] at hk; cases hk
    · rw [h] at hk
      cases hk
      exact h6
  have l0 := W4.out.c3
  have l1 := S4.out.c0
  have l2 := S4.out.c1
  have i3' := i3 w4 (HAH.out.below B4.out (Nat.le_refl _))
  clear i2 i3 b4 o4 f4 W3 S3 B3
  go_wp2_with (go_at_call 55; (with_reducible refine i3'.mono ?_); rintro r w5 ⟨rfl, h0⟩; have h0 := h0.symm; subst h0)
  have i4' := i4 w4 (HAL.out.below B4.out (Nat.le_refl _)) (HZ.out.below B4.out hZl).t
  have l1 := S4.out.c0
  clear i4 i3'
  go_wp2_with (go_at_call 56; fail)
  with_reducible refine i4'.mono ?_
  rintro r w6 ⟨b6, hr6⟩
  rw [if_pos rfl] at hr6
  obtain ⟨v6, rfl, o6⟩ := hr6
  obtain ⟨a6, c6, hv6, hat6, hc6, hcm6⟩ := Own.at o6
  subst hv6
  have V6 : Hid (∀ x, a6 = some x → w4.heap.size ≤ x.block) := fun x hx => by
    rcases o6 with ⟨h, _⟩ | ⟨g, cap, h, hb, _⟩
    · injection h with h; rw [h] at hx; cases hx
    · injection h with h
      rw [h] at hx
      cases hx
      exact hb
  have Z46 := hid b6.size
  have W6 := W4.out.below b6
  have S6 := S4.out.below b6
  have O6 := O4.out.below b6
  have B6 := B4.out.trans (b6.mono B4.out.size)
  have bR := (Below.refl w6.heap.size w6).alloc (Nat.le_refl _) (.cells #[.int .i64 (s : Int), .int .i64 ((s : Int) + (m : Int)), .slice a6 (Cut.cmp L s).length c6] 114)
  have R7 := hid (Rg.new w6 (s : Int) ((s : Int) + (m : Int)) (.slice a6 (Cut.cmp L s).length c6))
  have W7 := hid (W6.below bR)
  have S7 := hid (S6.below bR)
  have O7 := hid (O6.below bR)
  have B7 := hid (B6.trans (bR.mono B6.size))
  have A7 := hid (hat6.below bR (Nat.le_refl _))
  clear i4' b6 o6 hat6 W6 S6 O6 B6 bR W4 S4 O4 B4 l0 l1 l2
  go_upto_region 10 with fail
  generalize hG : w6.alloc (.cells #[.int .i64 (s : Int), .int .i64 ((s : Int) + (m : Int)), .slice a6 (Cut.cmp L s).length c6] 114) = w7 at *
  have z7 : w6.heap.size < w7.heap.size := lt_of_heap R7.out
  have hv4 : ∀ k, (Value.slice a4 T c4).ownBlock = some k → w.heap.size + 1 + 1 ≤ k ∧ k < w6.heap.size := fun k hk => ⟨F4.out k hk, Nat.lt_of_lt_of_le (V4.out k hk) Z46.out⟩
  have HV4 := hid hv4
  have mkS : ∀ W, Keep (fun k => (Value.slice a4 T c4).ownBlock = some k) w7 W → W.cell? ⟨w.heap.size + 1, 0, none⟩ = some (.int .i64 (s : Int)) ∧ W.cell? ⟨w.heap.size + 1, 1, none⟩ = some (.int .i64 (e : Int)) ∧ W.cell? ⟨w.heap.size, 3, none⟩ = some (.slice aH T cH) ∧ W.cell? ⟨w6.heap.size, 2, none⟩ = some (.slice a6 (Cut.cmp L s).length c6) := fun W hk => by
    have p1 := (S7.out.keep hk (fun h => by have := HV4.out _ h; omega))
    have p2 := (W7.out.keep hk (fun h => by have := HV4.out _ h; omega))
    have p3 : Rg W w6.heap.size (s : Int) ((s : Int) + (m : Int)) (.slice a6 (Cut.cmp L s).length c6) := (hk.block w6.heap.size z7 (fun h => by have := HV4.out _ h; omega)).trans R7.out
    exact ⟨p1.c0, p1.c1, p2.c3, p3.c2⟩
  have aC := fun W (hb : Below w7.heap.size w7 W) => i5 W (HZ.out.below (B7.out.trans (hb.mono B7.out.size)) hZl)
  have hflat : ([H, Cut.cmp L s] : List (List (List UInt8))).flatten = H ++ Cut.cmp L s := by simp
  have hfl : ([H, Cut.cmp L s] : List (List (List UInt8))).flatten.length = T + (Cut.cmp L s).length := by rw [hflat, List.length_append, HHl.out, HTl.out]
  have kk : ∀ W g, Keep (fun k => (Value.slice a4 T c4).ownBlock = some k) w7 W → W.heap[g]? = some (.cells #[.slice aH T cH, .slice a6 (Cut.cmp L s).length c6] 22 (0, 0)) →
      Calls Tryz.prog 58 #[.slice (some ⟨g, 0, none⟩) 2 2] W fun r w' => ∃ v, r = .returned v ∧ OwnM 1 w' v (H ++ Cut.cmp L s).length (svs (H ++ Cut.cmp L s)) ∧ Below W.heap.size W w' := fun W g hk hrow => by
    have hbw : Below w.heap.size w W := B7.out.trans (keep_below14 hk B7.out.size (fun k h => by have := HV4.out k h; omega))
    have h1 : At W aH H := HAH.out.below hbw (Nat.le_refl _)
    have h2 : At W a6 (Cut.cmp L s) := At.keep14 A7.out hk (fun x hx h => by have := HV4.out _ h; have := V6.out x hx; have := V4.out _ h; omega)
    have := concat14_any g [H, Cut.cmp L s] (fun j => if j = 0 then aH else a6) (fun j => if j = 0 then cH else c6) W (lt_of_heap hrow) (fun j P hP => by
      match j, hP with
      | 0, hP => simp at hP; subst hP; exact ⟨by rw [cell_of_row _ _ _ _ _ _ hrow, ← HTl.out, ← HHl.out]; rfl, h1⟩
      | 1, hP => simp at hP; subst hP; exact ⟨by rw [cell_of_row _ _ _ _ _ _ hrow]; rfl, h2⟩
      | j + 2, hP => simp at hP) (by rw [hfl, Hcl.out]; omega) (by rw [hfl, Hcl.out]; omega) (by simp)
    rw [hflat] at this
    exact this.mono fun r w' ⟨v, e1, e2, _, e4⟩ => ⟨v, e1, e2, e4⟩
  have hTT : (Tree.runF n 0 n s e).length ≤ 1099511627776 := by omega
  have hCC : (csp s e).length ≤ 1099511627776 := by omega
  have D0 : Below w7.heap.size w7 w7.drew := (Below.refl w7.heap.size w7).drew
  have D0a := ((Below.refl w7.heap.size w7).alloc (Nat.le_refl _) (.cells #[.slice aH T cH, .slice a6 (Cut.cmp L s).length c6] 22)).drew
  have e0 := mkS _ (Keep.ofBelow D0)
  have e0a := mkS _ (Keep.ofBelow D0a)
  have rB0 : (w7.alloc (.cells #[.slice aH T cH, .slice a6 (Cut.cmp L s).length c6] 22)).drew.heap[w7.heap.size]? = _ := heap_alloc_new w7 (.cells #[.slice aH T cH, .slice a6 (Cut.cmp L s).length c6] 22)
  generalize Tree.runF n 0 n s e = TS at *
  generalize csp s e = CS at *
  generalize hCM : Cut.cmp L s = CM at *
  generalize hq : CM.length = q at *
  have Hq := hid hq
  clear hq
  go_cut [10, 11] (fun v10 v11 w' => Hid (OwnP w' v10 (TS ++ CS)) ∧ Hid (OwnM 1 w' v11 (H ++ CM).length (svs (H ++ CM))) ∧ Hid (Keep (fun k => (Value.slice a4 T c4).ownBlock = some k) w7 w'))
  case first =>
    go_region_held3 (fun W => W.cell? ⟨w.heap.size + 1, 0, none⟩ = some (.int .i64 (s : Int)) ∧ W.cell? ⟨w.heap.size + 1, 1, none⟩ = some (.int .i64 (e : Int)) ∧ W.cell? ⟨w.heap.size, 3, none⟩ = some (.slice aH T cH) ∧ W.cell? ⟨w6.heap.size, 2, none⟩ = some (.slice a6 q c6)) (first | exact e0 | exact e0a | exact eC | exact eCa | exact eA | exact eAa | exact eB | exact eK)
      (first
        | (go_at_call 57; ((first
            | ((with_reducible refine (aC _ D0).mono ?_); rintro r wC ⟨vC, rfl, oC, fC, bC⟩; have DC := D0.trans (bC.mono D0.size))
            | ((with_reducible refine (aC _ D0a).mono ?_); rintro r wC ⟨vC, rfl, oC, fC, bC⟩; have DC := D0a.trans (bC.mono D0a.size); have rC := (bC.block _ (lt_of_heap rB0)).trans rB0)); (try (have rC' := rC)); have DCa := DC.alloc DC.size (.cells #[.slice aH T cH, .slice a6 q c6] 22); have eC := mkS _ (Keep.ofBelow DC); have eCa := mkS _ (Keep.ofBelow DCa); obtain ⟨vA, wA, hapA, oA, GA⟩ := append_spl14 wC _ vC _ _ (O7.out.below DC) oC hTT hCC; have MA := (Keep.ofBelow DC).trans (grow_keepS GA) (fun _ _ e => e); have eA := mkS _ MA; (try (have rA := (GA.old w7.heap.size (by have := lt_of_heap rC; exact this) (fun h => by have := HV4.out _ h; omega)).trans rC)); have eAa := mkS _ (Keep.al MA (.cells #[.slice aH T cH, .slice a6 q c6] 22)); obtain ⟨vB, wB, hapB, oB, GB⟩ := append_spl14 (wC.alloc (.cells #[.slice aH T cH, .slice a6 q c6] 22)) _ vC _ _ (O7.out.below DCa) (oC.below ((Below.refl _ wC).alloc (Nat.le_refl _) _)) hTT hCC; have MB := (Keep.ofBelow DCa).trans (grow_keepS GB) (fun _ _ e => e); have eB := mkS _ MB; have rB := (GB.old wC.heap.size (by rw [size_alloc]; omega) (fun h => by have := HV4.out _ h; have := DC.size; omega)).trans (heap_alloc_new wC (.cells #[.slice aH T cH, .slice a6 q c6] 22))))
        | (refine step_append_run rfl _ _ 75 rfl _ _ _ wA rfl rfl hapA ?_)
        | (refine step_append_run rfl _ _ 75 rfl _ _ _ wB rfl rfl hapB ?_)
        | (go_at_call 58; (first
            | ((with_reducible refine (kk (wA.alloc (.cells #[.slice aH T cH, .slice a6 q c6] 22)) _ (Keep.al MA _) (heap_alloc_new wA _)).mono ?_); rintro r wK ⟨vK, rfl, oK, bK⟩; have MK := Keep.bl (Keep.al MA (.cells #[.slice aH T cH, .slice a6 q c6] 22)) bK; have eK := mkS _ MK; have oAK := (oA.below ((Below.refl _ wA).alloc (Nat.le_refl _) (.cells #[.slice aH T cH, .slice a6 q c6] 22))).below bK)
            | ((with_reducible refine (kk wB _ MB rB).mono ?_); rintro r wK ⟨vK, rfl, oK, bK⟩; have MK := Keep.bl MB bK; have eK := mkS _ MK; have oAK := oB.below bK)
            | ((with_reducible refine (kk wA _ MA rA).mono ?_); rintro r wK ⟨vK, rfl, oK, bK⟩; have MK := Keep.bl MA bK; have eK := mkS _ MK; have oAK := oA.below bK))))
    all_goals
      have P1 := hid oAK
      have P2 := hid oK
      have P3 := hid MK
      clear mkS kk
      go_wp2_with fail
      go_meet
      exact ⟨P1, P2, P3⟩
  case rest =>
    obtain ⟨P1, P2, P3⟩ := hcut
    rename_i t10 t11
    obtain ⟨a10, c10, rfl, p1, p2⟩ := OwnM.shape P1.out
    obtain ⟨a11, c11, hv11, hat11, _, _⟩ := ownM_at P2.out
    subst hv11
    have B8 := B7.out.trans (keep_below14 P3.out B7.out.size (fun k h => by have := HV4.out k h; omega))
    have W8 := W7.out.keep P3.out (fun h => by have := HV4.out _ h; omega)
    have l0 := W8.c0
    have e1 := P1.out.atP
    have i6 := foldF_any (n : Int) (pmI (TS ++ CS)) (H ++ CM) 0 (n : Int) a10 a11 c10 c11 wc (by unfold pmI; rw [List.length_map, List.length_append]; omega) (by rw [List.length_append, HHl.out, HTl.out, Hq.out, Hcl.out]; omega) e1 hat11 (HZ.out.below B8 hZl).t
    rw [HF.out] at i6
    rw [show (pmI (TS ++ CS)).length = TS.length + CS.length by simp [pmI], List.length_append] at i6
    have HB8 := hid B8
    clear mkS kk aC i5 e0 e0a e1 hat11 B8
    go_wp2_with (go_at_call 59; fail)
    with_reducible refine i6.mono ?_
    rintro r w9 ⟨rfl, b9⟩
    have B9 := hid (HB8.out.trans (b9.mono HB8.out.size))
    go_wp2
    go_ret2
    exact ⟨rfl, B9.out⟩
end Spn
end Go.Proofs.YtblmaokonhdjaaaGreatDoor

/- Layer 14, the program: Root of what is not right; Check -/
namespace Go.Proofs.YtblmaokonhdjaaaGreatDoor
open Go.RowKit Go.Shelf
namespace Spn
/-- P2: what is wrong with a run and leaves -/
def rotE (n x y : Int) (H L : List (List UInt8)) : Int :=
  if n ≤ 1099511627776 ∧ runB n x y = true then
    if H.length = (Tree.runF n.toNat 0 n.toNat x.toNat y.toNat).length ∧ (L.length : Int) = y - x ∧ L.length ≤ 4096 ∧ hsB8 H = true ∧ hsB8 L = true then 0 else 141
  else 140
theorem rotE_zero {n x y : Int} {H L : List (List UInt8)} (h : rotE n x y H L = 0) : ∃ n' x' y' : Nat, n = n' ∧ x = x' ∧ y = y' ∧ x' < y' ∧ y' ≤ n' ∧ n' ≤ 1099511627776 ∧ H.length = (Tree.runF n' 0 n' x' y').length ∧ L.length = y' - x' ∧ L.length ≤ 4096 ∧ hsB8 H = true ∧ hsB8 L = true := by
  unfold rotE at h
  by_cases h1 : n ≤ 1099511627776 ∧ runB n x y = true
  · rw [if_pos h1] at h
    by_cases h2 : H.length = (Tree.runF n.toNat 0 n.toNat x.toNat y.toNat).length ∧ (L.length : Int) = y - x ∧ L.length ≤ 4096 ∧ hsB8 H = true ∧ hsB8 L = true
    · obtain ⟨a1, a2, a3, a4, a5⟩ := h2
      obtain ⟨b1, b2⟩ := h1
      unfold runB at b2
      simp only [decide_eq_true_eq] at b2
      exact ⟨n.toNat, x.toNat, y.toNat, by omega, by omega, by omega, by omega, by omega, by omega, a1, by omega, a3, a4, a5⟩
    · rw [if_neg h2] at h; cases h
  · rw [if_neg h1] at h; cases h
set_option maxRecDepth 100000 in
set_option maxHeartbeats 8000000 in
theorem root14_bad (n x y : Int) (H L : List (List UInt8)) (hH : H.length ≤ 9223372036854775807) (hL : L.length ≤ 9223372036854775807) (hne : rotE n x y H L ≠ 0) (aH aL : Option Addr) (cH cL : Nat) (w : World) (hAH : At w aH H) (hAL : At w aL L) (Z : Tb w) :
    Calls Tryz.prog 26 #[rn n x y (.slice aH H.length cH), .slice aL L.length cL] w fun r w' => r = .returned (.tuple #[.string ⟨#[]⟩, .int .i64 (rotE n x y H L)]) ∧ Below w.heap.size w w' := by
  have W1 := RnI.new w n x y (.slice aH H.length cH)
  have b1 := (Below.refl w.heap.size w).alloc (Nat.le_refl _) (.cells #[.int .i64 n, .int .i64 x, .int .i64 y, .slice aH H.length cH] 24)
  have b2' := (Below.refl _ (w.alloc (.cells #[.int .i64 n, .int .i64 x, .int .i64 y, .slice aH H.length cH] 24))).alloc (Nat.le_refl _) (.cells #[.int .i64 x, .int .i64 y] 50)
  have S2 := SpI.new (w.alloc (.cells #[.int .i64 n, .int .i64 x, .int .i64 y, .slice aH H.length cH] 24)) x y
  rw [size_alloc] at S2
  have W2 := W1.below b2'
  have b2 := b1.trans (b2'.mono b1.size)
  have k1 := W1.c1
  have k2 := W1.c2
  have l0 := W2.c0
  have l1 := S2.c0
  have l2 := S2.c1
  have HW := hid W2
  have HS := hid S2
  have HB := hid b2
  have HZ := hid Z
  have hZl := Z.lt
  have HAH := hid hAH
  have HAL := hid hAL
  clear W1 b1 b2' S2 W2 b2 hAH hAL Z
  by_cases c1 : n ≤ 1099511627776
  · have q0 : ¬ (1099511627776 : Int) < n := by omega
    cases hq : runB n x y with
    | false =>
      have i1 := fun w' => isRun_is n x y false hq w'
      have he : Hid (rotE n x y H L = 140) := by unfold Hid rotE; rw [if_neg (by rw [hq]; simp)]
      rw [he.out]
      generalize H.length = nH at *
      generalize L.length = nL at *
      clear hne hq
      go_enter Tryz.func26, Tryz.ntmps26
      go_wp2_with (go_at_call 44; refine (i1 _).mono ?_; rintro r w3 ⟨rfl, b3⟩; have B3 := hid (HB.out.trans (b3.mono HB.out.size)); clear b3)
      go_ret2
      exact ⟨rfl, B3.out⟩
    | true =>
      have i1 := fun w' => isRun_is n x y true hq w'
      have hq' := hq
      unfold runB at hq'
      simp only [decide_eq_true_eq] at hq'
      obtain ⟨N, rfl⟩ : ∃ N : Nat, n = (N : Int) := ⟨n.toNat, by omega⟩
      obtain ⟨s, rfl⟩ : ∃ s : Nat, x = (s : Int) := ⟨x.toNat, by omega⟩
      obtain ⟨e, rfl⟩ : ∃ e : Nat, y = (e : Int) := ⟨y.toNat, by omega⟩
      have i2 := fun w' => told14_any N s e (by omega) (by omega) (by omega) w'
      have he : Hid (rotE (N : Int) (s : Int) (e : Int) H L = 141) := by
        unfold Hid
        have h2 : ¬ (H.length = (Tree.runF (N : Int).toNat 0 (N : Int).toNat (s : Int).toNat (e : Int).toNat).length ∧ (L.length : Int) = (e : Int) - (s : Int) ∧ L.length ≤ 4096 ∧ hsB8 H = true ∧ hsB8 L = true) := fun h => hne (by unfold rotE; rw [if_pos ⟨c1, hq⟩, if_pos h])
        unfold rotE
        rw [if_pos ⟨c1, hq⟩, if_neg h2]
      have h2 : Hid (¬ (H.length = (Tree.runF N 0 N s e).length ∧ L.length = e - s ∧ L.length ≤ 4096 ∧ hsB8 H = true ∧ hsB8 L = true)) := fun h => hne (by unfold rotE; rw [if_pos ⟨c1, hq⟩, if_pos ⟨h.1, by omega, h.2.2⟩])
      rw [he.out]
      obtain ⟨T, hTl⟩ : ∃ T, (Tree.runF N 0 N s e).length = T := ⟨_, rfl⟩
      have HTl := hid hTl
      obtain ⟨d, hd⟩ : ∃ d, e - s = d := ⟨_, rfl⟩
      have hsub : IntKind.i64.wrap ((e : Int) - (s : Int)) = (d : Int) := by rw [IntKind.wrap_i64]; omega
      have i3 := fun w' hA q hq => areHashes14_is H q hq aH cH w' hH hA
      have hse : s ≤ 1099511627776 := by omega
      have i4 := fun w' hA hT' => Compact_any (s : Int) L aL cL w' (by omega) (by omega) hL hA hT'
      rw [Int.toNat_natCast] at i4
      have h2' : Hid (¬ (H.length = T ∧ L.length = d ∧ L.length ≤ 4096 ∧ hsB8 H = true ∧ hsB8 L = true)) := by unfold Hid; rw [← hTl, ← hd]; exact h2.out
      have hd' : Hid (s + d ≤ 1099511627776) := by unfold Hid; omega
      have hcm : Hid (cmpE (s : Int) L = 0 → L.length ≤ 4096 ∧ hsB8 L = true) := fun h => by
        unfold cmpE at h
        by_cases g1 : (0 : Int) ≤ (s : Int) ∧ (s : Int) ≤ 1099511627776 ∧ L.length ≤ 4096
        · rw [if_pos g1] at h
          by_cases g2 : (s : Int) + (L.length : Int) ≤ 1099511627776
          · rw [if_pos g2] at h
            by_cases g3 : hsB L = true
            · exact ⟨g1.2.2, g3⟩
            · rw [if_neg g3] at h; cases h
          · rw [if_neg g2] at h; cases h
        · rw [if_neg g1] at h; cases h
      obtain ⟨nH, hnH⟩ : ∃ nH, H.length = nH := ⟨_, rfl⟩
      obtain ⟨nL, hnL⟩ : ∃ nL, L.length = nL := ⟨_, rfl⟩
      have HnL := hid hnL
      unfold Hid at h2'
      rw [hnH, hnL] at h2'
      have h2' := hid h2'
      rw [hnH] at i3 HW HS HB k1 k2 l0 l1 l2 ⊢
      rw [hnL] at i4 ⊢
      clear hne hq hq' h2 hTl hd hnH hnL hH hL
      go_enter Tryz.func26, Tryz.ntmps26
      go_wp2_with (go_at_call 44; fail)
      clear k1 k2 l0 l1 l2
      generalize (w.alloc (.cells #[.int .i64 (N : Int), .int .i64 (s : Int), .int .i64 (e : Int), .slice aH nH cH] 24)).alloc (.cells #[.int .i64 (s : Int), .int .i64 (e : Int)] 50) = w2 at *
      refine (i1 _).mono ?_
      rintro r w3 ⟨rfl, b3⟩
      have W3 := hid (HW.out.below b3)
      have S3 := hid (HS.out.below b3)
      have B3 := hid (HB.out.trans (b3.mono HB.out.size))
      have l0 := W3.out.c0
      have l1 := S3.out.c0
      have l2 := S3.out.c1
      clear i1 b3 HW HS HB
      go_wp2_with (go_at_call 53; fail)
      clear l0 l1 l2
      refine (i2 _).mono ?_
      rintro r w4 ⟨v4, rfl, o4, _, b4⟩
      obtain ⟨a4, c4, rfl, p1, p2⟩ := OwnM.shape o4
      rw [HTl.out]
      have W4 := hid (W3.out.below b4)
      have S4 := hid (S3.out.below b4)
      have B4 := hid (B3.out.trans (b4.mono B3.out.size))
      have l0 := W4.out.c3
      have l1 := S4.out.c0
      have l2 := S4.out.c1
      have A4 := HAH.out.below B4.out (Nat.le_refl _)
      clear i2 b4 o4 W3 S3 B3
      by_cases g1 : nH = T
      · have u1 : ((nH : Int) != (T : Int)) = false := by simp [g1]
        by_cases g2 : nL = d
        · have u2 : ((nL : Int) != (d : Int)) = false := by simp [g2]
          cases g3 : hsB8 H with
          | false =>
            have i3' := i3 w4 A4 false g3
            have G1 := hid g1
            have G2 := hid g2
            clear g1 g2 g3 i3 i4
            go_wp2_with (go_at_call 55; (with_reducible refine i3'.mono ?_); rintro r w5 ⟨rfl, h0⟩; have h0 := h0.symm; subst h0)
            go_ret2
            exact ⟨rfl, B4.out⟩
          | true =>
            have i3' := i3 w4 A4 true g3
            have hce : cmpE (s : Int) L ≠ 0 := fun h => h2'.out ⟨g1, g2, by have := (hcm.out h).1; have := HnL.out; omega, g3, (hcm.out h).2⟩
            have i4' := i4 w4 (HAL.out.below B4.out (Nat.le_refl _)) (HZ.out.below B4.out hZl).t
            have u3 : (cmpE (s : Int) L != 0) = true := by simpa using hce
            have G1 := hid g1
            have G2 := hid g2
            have HCE := hid hce
            generalize cmpE (s : Int) L = ce at *
            clear g1 g2 g3 i3 i4 hce
            go_wp2_with (first
              | (go_at_call 55; (with_reducible refine i3'.mono ?_); rintro r w5 ⟨rfl, h0⟩; have h0 := h0.symm; subst h0)
              | (go_at_call 56; fail))
            with_reducible refine i4'.mono ?_
            rintro r w6 ⟨b6, hr6⟩
            rw [if_neg HCE.out] at hr6
            subst hr6
            have B6 := hid (B4.out.trans (b6.mono B4.out.size))
            go_wp2
            go_ret2
            exact ⟨rfl, B6.out.alloc B6.out.size _⟩
        · have u2 : ((nL : Int) != (d : Int)) = true := by simp; omega
          have G1 := hid g1
          clear g1 g2 i3 i4
          go_wp2
          go_ret2
          exact ⟨rfl, B4.out⟩
      · have u1 : ((nH : Int) != (T : Int)) = true := by simp; omega
        clear g1 i3 i4
        go_wp2
        go_ret2
        exact ⟨rfl, B4.out⟩
  · have q0 : (1099511627776 : Int) < n := by omega
    have he : Hid (rotE n x y H L = 140) := by unfold Hid rotE; rw [if_neg (by omega)]
    rw [he.out]
    generalize H.length = nH at *
    generalize L.length = nL at *
    clear hne c1
    go_enter Tryz.func26, Tryz.ntmps26
    go_wp2
    go_ret2
    exact ⟨rfl, HB.out⟩
/-- what Root says, and Check -/
def rotO (n x y : Int) (H L : List (List UInt8)) (t : List UInt8) : Prop := (rotE n x y H L ≠ 0 ∧ t = []) ∨ (rotE n x y H L = 0 ∧ ∃ val, Val (rix x.toNat y.toNat) n.toNat H L val ∧ t = val (0, n.toNat))
theorem rotO_is (n x y : Int) (H L : List (List UInt8)) : ∃ t, rotO n x y H L t := by
  by_cases h : rotE n x y H L = 0
  · obtain ⟨n', x', y', rfl, rfl, rfl, h1, h2, h3, h4, h5, _⟩ := rotE_zero h
    obtain ⟨val, V⟩ := val_of h1 h2 h4 h5
    exact ⟨_, .inr ⟨h, val, by simpa using V, rfl⟩⟩
  · exact ⟨_, .inl ⟨h, rfl⟩⟩
theorem root14_any {n x y : Int} {H L : List (List UInt8)} {t : List UInt8} (ht : rotO n x y H L t) (hH : H.length ≤ 9223372036854775807) (hL : L.length ≤ 9223372036854775807) (aH aL : Option Addr) (cH cL : Nat) (w : World) (hAH : At w aH H) (hAL : At w aL L) (Z : Tb w) :
    Calls Tryz.prog 26 #[rn n x y (.slice aH H.length cH), .slice aL L.length cL] w fun r w' => r = .returned (.tuple #[sv t, .int .i64 (rotE n x y H L)]) ∧ Below w.heap.size w w' := by
  rcases ht with ⟨h, rfl⟩ | ⟨h, val, V, rfl⟩
  · exact root14_bad n x y H L hH hL h aH aL cH cL w hAH hAL Z
  · rw [h]
    obtain ⟨n', x', y', rfl, rfl, rfl, h1, h2, h3, h4, h5, h6, h7, h8⟩ := rotE_zero h
    simp only [Int.toNat_natCast] at V ⊢
    exact root14_ok n' x' y' H L val V h1 h2 h3 h5 h6 h7 h8 aH aL cH cL w hAH hAL Z
/-- P2: Check -/
def chkO (e : Int) (t r : List UInt8) : Int := if e = 0 then (if t = r then 0 else 142) else e
set_option maxRecDepth 100000 in
set_option maxHeartbeats 4000000 in
theorem check14_any {n x y : Int} {H L : List (List UInt8)} {t : List UInt8} (ht : rotO n x y H L t) (rt : List UInt8) (hH : H.length ≤ 9223372036854775807) (hL : L.length ≤ 9223372036854775807) (aH aL : Option Addr) (cH cL : Nat) (w : World) (hAH : At w aH H) (hAL : At w aL L) (Z : Tb w) :
    Calls Tryz.prog 29 #[rn n x y (.slice aH H.length cH), .slice aL L.length cL, sv rt] w fun r w' => r = .returned (.int .i64 (chkO (rotE n x y H L) t rt)) ∧ Below w.heap.size w w' := by
  have W1 := RnI.new w n x y (.slice aH H.length cH)
  have b1 := (Below.refl w.heap.size w).alloc (Nat.le_refl _) (.cells #[.int .i64 n, .int .i64 x, .int .i64 y, .slice aH H.length cH] 24)
  have i1 := root14_any ht hH hL aH aL cH cL _ (hAH.below b1 (Nat.le_refl _)) (hAL.below b1 (Nat.le_refl _)) (Z.below b1 Z.lt)
  have k0 := W1.c0
  have k1 := W1.c1
  have k2 := W1.c2
  have k3 := W1.c3
  have HB := hid b1
  rw [show sv t = Value.string ⟨t.toArray⟩ from rfl] at i1
  rw [show sv rt = Value.string ⟨rt.toArray⟩ from rfl]
  generalize rotE n x y H L = e at *
  generalize H.length = nH at *
  generalize L.length = nL at *
  clear W1 b1 hAH hAL Z ht
  by_cases h0 : e = 0
  · subst h0
    by_cases h1 : t = rt
    · subst h1
      have hr : Hid (chkO 0 t t = 0) := by unfold Hid chkO; rw [if_pos rfl, if_pos rfl]
      have htt : ((ByteArray.mk t.toArray).toList == (ByteArray.mk t.toArray).toList) = true := by simp
      rw [hr.out]
      go_enter Tryz.func29, Tryz.ntmps29
      go_wp2_with (go_at_call 26; (with_reducible refine i1.mono ?_); rintro r w2 ⟨rfl, b2⟩; have B2 := hid (HB.out.trans (b2.mono HB.out.size)); clear b2)
      go_ret
      exact ⟨rfl, B2.out⟩
    · have hr : Hid (chkO 0 t rt = 142) := by unfold Hid chkO; rw [if_pos rfl, if_neg h1]
      have htt : ((ByteArray.mk t.toArray).toList == (ByteArray.mk rt.toArray).toList) = false := by simpa using h1
      have htt' : (t == rt) = false := by simpa using h1
      rw [hr.out]
      clear h1
      go_enter Tryz.func29, Tryz.ntmps29
      go_wp2_with (go_at_call 26; (with_reducible refine i1.mono ?_); rintro r w2 ⟨rfl, b2⟩; have B2 := hid (HB.out.trans (b2.mono HB.out.size)); clear b2)
      go_ret
      exact ⟨rfl, B2.out⟩
  · have hr : Hid (chkO e t rt = e) := by unfold Hid chkO; rw [if_neg h0]
    have h1 : (e != 0) = true := by simpa using h0
    rw [hr.out]
    go_enter Tryz.func29, Tryz.ntmps29
    go_wp2_with (go_at_call 26; (with_reducible refine i1.mono ?_); rintro r w2 ⟨rfl, b2⟩; have B2 := hid (HB.out.trans (b2.mono HB.out.size)); clear b2)
    go_ret
    exact ⟨rfl, B2.out⟩
end Spn
end Go.Proofs.YtblmaokonhdjaaaGreatDoor
