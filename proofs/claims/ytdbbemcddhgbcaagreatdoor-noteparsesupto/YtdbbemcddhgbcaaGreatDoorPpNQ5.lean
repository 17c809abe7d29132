import Derived.Test.YtdbbemcddhgbcaaGreatDoorPpNQ4
/- Layer 22: the document's line: signatures (written by genNQ5.py) -/
namespace Go.Proofs.YtdbbemcddhgbcaaGreatDoor
open Go.RowKit Go.Shelf
namespace Nt
theorem okJ_app (S : List Sg) (x : Sg) (j : Nat) (h : j < S.length) : okJ (S ++ [x]) j = okJ S j := by
  unfold okJ
  rw [List.getElem?_append_left h]
  split
  · rfl
  · rename_i y _
    have e : (S ++ [x]).getD (j - 1) (⟨#[]⟩, ⟨#[]⟩) = S.getD (j - 1) (⟨#[]⟩, ⟨#[]⟩) := by
      rw [List.getD_eq_getElem?_getD, List.getD_eq_getElem?_getD, List.getElem?_append_left (by omega)]
    rw [e]
theorem allOk_snoc {S : List Sg} (h : allOk S = true) (x : Sg) : allOk (S ++ [x]) = (sgnB x && (decide (S.length = 0) || ltN (S.getD (S.length - 1) (⟨#[]⟩, ⟨#[]⟩)).1 x.1)) := by
  have e1 : ((List.range S.length).all (okJ (S ++ [x]))) = true := by
    rw [List.all_eq_true]
    intro j hj
    rw [okJ_app S x j (List.mem_range.1 hj)]
    unfold allOk at h
    exact List.all_eq_true.1 h j hj
  have e2 : okJ (S ++ [x]) S.length = (sgnB x && (decide (S.length = 0) || ltN (S.getD (S.length - 1) (⟨#[]⟩, ⟨#[]⟩)).1 x.1)) := by
    rw [okJ_at (x := x) (by rw [List.getElem?_append_right (Nat.le_refl _), Nat.sub_self]; rfl)]
    by_cases h0 : S.length = 0
    · rw [decide_eq_true h0, Bool.true_or, Bool.true_or]
    · have e : (S ++ [x]).getD (S.length - 1) (⟨#[]⟩, ⟨#[]⟩) = S.getD (S.length - 1) (⟨#[]⟩, ⟨#[]⟩) := by
        rw [List.getD_eq_getElem?_getD, List.getD_eq_getElem?_getD, List.getElem?_append_left (by omega)]
      rw [e]
  rw [← e2]
  unfold allOk
  rw [List.length_append, List.length_singleton, List.range_succ, List.all_append, e1, Bool.true_and]
  simp
set_option maxRecDepth 100000 in
set_option maxHeartbeats 8000000 in
theorem rline_4 {w : World} {t : Nr} {a : Option Addr} {n c k : Nat} (hn : t.S.length = n) (ho : Wz.OwnM 2 w (.slice a n c) n (sgs t.S)) (l : ByteArray) (hl : l.size ≤ 70368744177664) (hk : 4 ≤ k) (h16 : n ≤ 16) (hok : allOk t.S = true) : Calls Tryz.prog 42 #[nv t.O t.z t.R (.slice a n c), .int .i64 (k : Int), .string l] w fun q w' => LnQ t k l w (.slice a n c) q w' := by
  have b0 := (Below.refl w.heap.size w).alloc (Nat.le_refl _) (.cells #[.string t.O, .int .i64 t.z, .string t.R, .slice a n c] 26)
  have X0 := Bx.new w t.O t.z t.R (.slice a n c)
  have b1 := (Below.refl _ (w.alloc (.cells #[.string t.O, .int .i64 t.z, .string t.R, .slice a n c] 26))).alloc (Nat.le_refl _) (.cells #[.string ⟨#[]⟩, .int .i64 0, .string ⟨#[]⟩, .slice none 0 0] 26)
  have X1 := Bx.new (w.alloc (.cells #[.string t.O, .int .i64 t.z, .string t.R, .slice a n c] 26)) ⟨#[]⟩ 0 ⟨#[]⟩ (.slice none 0 0)
  have X0 := X0.below b1
  have B1 := b0.trans (b1.mono b0.size)
  have z1 : ((w.alloc (.cells #[.string t.O, .int .i64 t.z, .string t.R, .slice a n c] 26)).alloc (.cells #[.string ⟨#[]⟩, .int .i64 0, .string ⟨#[]⟩, .slice none 0 0] 26)).heap.size = w.heap.size + 2 := by rw [size_alloc, size_alloc]
  rw [size_alloc] at X1
  obtain ⟨W, hW⟩ : ∃ W, (w.alloc (.cells #[.string t.O, .int .i64 t.z, .string t.R, .slice a n c] 26)).alloc (.cells #[.string ⟨#[]⟩, .int .i64 0, .string ⟨#[]⟩, .slice none 0 0] 26) = W := ⟨_, rfl⟩
  rw [hW] at X0 X1 B1 z1
  obtain ⟨g, hg⟩ : ∃ g, w.heap.size = g := ⟨_, rfl⟩
  rw [hg] at X0 X1 B1 z1
  have X1 : Bx W (g + 1) ⟨#[]⟩ 0 ⟨#[]⟩ (.slice none 0 0) := X1
  have m1 : ¬ (k : Int) = 0 := by omega
  have m2 : ¬ (k : Int) = 1 := by omega
  have m3 : ¬ (k : Int) = 2 := by omega
  have m4 : ¬ (k : Int) = 3 := by omega
  have i1 := rsigned_any l hl W
  have HQ := hid (stp_more hk t l)
  have HK := hid (allOk_snoc hok (sgA l))
  have hlt0 := ho.lt
  rw [hg] at hlt0
  have HVH : Hid (∀ q, (Value.slice a n c).ownBlock = some q → q < g) := hlt0
  have HG := hid hg
  have HW := hid hW
  have HO := hid ho
  have HNL := hid hn
  have HX0 := hid X0
  have HX1 := hid X1
  have HB1 := hid B1
  have HZ1 := hid z1
  have H16 := hid h16
  clear hW hg ho b0 b1 hn X0 X1 B1 z1 hlt0 hok hk h16 hl
  unfold nv
  go_enter Tryz.func42, Tryz.ntmps42
  go_upto_region 1 with fail
  rw [HW.out, HG.out]
  go_upto_region 17 with (first
    | (go_at_call 68; (refine i1.mono ?_); rintro q w3 ⟨⟨⟨X, D⟩, b, rfl, hb, hx⟩, b3⟩; replace hb := hid hb; replace hx := hid hx; have S2 := hid (heap_alloc_new w3 (.cells #[.string ⟨#[]⟩, .string ⟨#[]⟩] 32)))
    | ((with_reducible show wpList _ _ _ (Oper.mk _ (Op.store 32 _ _) _ _ _ _ :: _) _ _); go_must (refine wpList_store_row rfl 32 _ _ rfl w3.heap.size _ rfl rfl 32 _ S2.out (sizeSgG _ _) rfl (oneSgG _ _) ?_)))
  obtain ⟨h, hh⟩ : ∃ h, w3.heap.size = h := ⟨_, rfl⟩
  have BA : Below w3.heap.size w3 ((w3.alloc (.cells #[.string ⟨#[]⟩, .string ⟨#[]⟩] 32)).setRow w3.heap.size #[.string X, .string D]) := Below.setRow ((Below.refl _ _).alloc (Nat.le_refl _) _) (Nat.le_refl _) _
  have SA : ((w3.alloc (.cells #[.string ⟨#[]⟩, .string ⟨#[]⟩] 32)).setRow w3.heap.size #[.string X, .string D]).heap[w3.heap.size]? = some (.cells #[.string X, .string D] 32 (0, 0)) := setRow_heap _ _ _ _ _ _ S2.out
  obtain ⟨w5, hw5⟩ : ∃ w5, (w3.alloc (.cells #[.string ⟨#[]⟩, .string ⟨#[]⟩] 32)).setRow w3.heap.size #[.string X, .string D] = w5 := ⟨_, rfl⟩
  rw [hw5] at BA SA ⊢
  have B5 := b3.trans (BA.mono b3.size)
  rw [hh] at SA ⊢
  have XN := hid (HX0.out.below B5)
  have YN := hid (HX1.out.below B5)
  have BN := hid (HB1.out.trans (B5.mono (by rw [HZ1.out]; omega)))
  have HGL := hid (show g < w5.heap.size ∧ g + 1 < w5.heap.size from ⟨lt_of_heap XN.out, lt_of_heap YN.out⟩)
  have HO5 : Hid (Wz.OwnM 2 w5.drew (.slice a n c) t.S.length (sgs t.S)) := hid (by rw [HNL.out]; exact (HO.out.below (by rw [HG.out]; exact BN.out)).drew)
  have d3 := XN.out.c3
  have c0 : w5.cell? ⟨h, 0, none⟩ = some (.string X) := by rw [cell_of_row _ _ _ _ _ _ SA]; rfl
  have c1 : w5.cell? ⟨h, 1, none⟩ = some (.string D) := by rw [cell_of_row _ _ _ _ _ _ SA]; rfl
  have hS0 : True := trivial
  clear BA SA hw5 hh S2 b3 i1 B5
  go_upto_region 18 with fail
  have HF : Hid (stp k t l = none → ∀ w', Below g w w' → LnQ t k l w (.slice a n c) (.returned (.tuple #[nv t.O t.z t.R (.slice a n c), .bool false])) w') := fun hs w' bb => by
    have bb : Below w.heap.size w w' := by rw [HG.out]; exact bb
    exact ⟨t, _, _, _, by rw [hs]; rfl, fun t1 e => (by rw [hs] at e; cases e), grow_of bb⟩
  cases b with
  | false =>
    have HF : Hid (∀ w', Below g w w' → LnQ t k l w (.slice a n c) (.returned (.tuple #[nv t.O t.z t.R (.slice a n c), .bool false])) w') := HF.out (HQ.out.trans (if_neg fun e => by
      have h9 := e.2.2
      rw [HK.out] at h9
      have h8 : sgnB (sgA l) = true := by
        cases h7 : sgnB (sgA l) with
        | true => rfl
        | false => rw [h7, Bool.false_and] at h9; cases h9
      have hb := hb.out
      rw [e.1, h8] at hb
      cases hb))
    clear hb hx
    refine wp_region_noPanic ?_
    refine wp_region_held_drew (S := (fun _ => True)) (by kernel_rfl) trivial (fun hHeld => ?_)
    refine wpAnyH_take (i := 0) (oi := ⟨some 68, _, _, _, _, _⟩) (v := ?va0) rfl (by kernel_rfl) (by kernel_rfl) (by kernel_rfl) (fun _ _ _ h => h) (Or.inl ⟨by rfl, ?hya0⟩) (by assumption) ?resta0
    case hya0 => (intro w hSw; (try dsimp only at hSw); go_simp <;> (try with_reducible rfl))
    try simp only [Act.put, List.setIfInBounds_toArray, List.set_cons_zero, List.set_cons_succ]
    refine wpAnyH_take (i := 1) (oi := ⟨some 69, _, _, _, _, _⟩) (v := ?va1) rfl (by kernel_rfl) (by kernel_rfl) (by kernel_rfl) (fun _ _ _ h => h) (Or.inl ⟨by rfl, ?hya1⟩) (by assumption) ?resta1
    case hya1 => (intro w hSw; (try dsimp only at hSw); go_simp <;> (try with_reducible rfl))
    try simp only [Act.put, List.setIfInBounds_toArray, List.set_cons_zero, List.set_cons_succ]
    refine wpAnyH_take (i := 2) (oi := ⟨some 70, _, _, _, _, _⟩) (v := ?va2) rfl (by kernel_rfl) (by kernel_rfl) (by kernel_rfl) (fun _ _ _ h => h) (Or.inl ⟨by rfl, ?hya2⟩) (by assumption) ?resta2
    case hya2 => (intro w hSw; (try dsimp only at hSw); go_simp <;> (try with_reducible rfl))
    try simp only [Act.put, List.setIfInBounds_toArray, List.set_cons_zero, List.set_cons_succ]
    refine wpAnyH_take (i := 3) (oi := ⟨some 71, _, _, _, _, _⟩) (v := undef) rfl (by kernel_rfl) (by kernel_rfl) (by kernel_rfl) (fun _ _ _ h => h) (Or.inr ⟨by rfl, rfl⟩) (by assumption) ?resta3
    try simp only [Act.put, List.setIfInBounds_toArray, List.set_cons_zero, List.set_cons_succ]
    refine wpAnyH_take (i := 4) (oi := ⟨some 72, _, _, _, _, _⟩) (v := undef) rfl (by kernel_rfl) (by kernel_rfl) (by kernel_rfl) (fun _ _ _ h => h) (Or.inr ⟨by rfl, rfl⟩) (by assumption) ?resta4
    try simp only [Act.put, List.setIfInBounds_toArray, List.set_cons_zero, List.set_cons_succ]
    refine wpAnyH_take (i := 5) (oi := ⟨some 73, _, _, _, _, _⟩) (v := ?va5) rfl (by kernel_rfl) (by kernel_rfl) (by kernel_rfl) (fun _ _ _ h => h) (Or.inl ⟨by rfl, ?hya5⟩) (by assumption) ?resta5
    case hya5 => (intro w hSw; (try dsimp only at hSw); go_simp <;> (try with_reducible rfl))
    try simp only [Act.put, List.setIfInBounds_toArray, List.set_cons_zero, List.set_cons_succ]
    refine wpAnyH_take (i := 6) (oi := ⟨some 74, _, _, _, _, _⟩) (v := ?va6) rfl (by kernel_rfl) (by kernel_rfl) (by kernel_rfl) (fun _ _ _ h => h) (Or.inl ⟨by rfl, ?hya6⟩) (by assumption) ?resta6
    case hya6 => (intro w hSw; (try dsimp only at hSw); go_simp <;> (try with_reducible rfl))
    try simp only [Act.put, List.setIfInBounds_toArray, List.set_cons_zero, List.set_cons_succ]
    refine wpAnyH_take (i := 7) (oi := ⟨some 75, _, _, _, _, _⟩) (v := undef) rfl (by kernel_rfl) (by kernel_rfl) (by kernel_rfl) (fun _ _ _ h => h) (Or.inr ⟨by rfl, rfl⟩) (by assumption) ?resta7
    try simp only [Act.put, List.setIfInBounds_toArray, List.set_cons_zero, List.set_cons_succ]
    refine wpAnyH_take (i := 8) (oi := ⟨some 76, _, _, _, _, _⟩) (v := undef) rfl (by kernel_rfl) (by kernel_rfl) (by kernel_rfl) (fun _ _ _ h => h) (Or.inr ⟨by rfl, rfl⟩) (by assumption) ?resta8
    try simp only [Act.put, List.setIfInBounds_toArray, List.set_cons_zero, List.set_cons_succ]
    refine wpAnyH_take (i := 9) (oi := ⟨some 77, _, _, _, _, _⟩) (v := undef) rfl (by kernel_rfl) (by kernel_rfl) (by kernel_rfl) (fun _ _ _ h => h) (Or.inr ⟨by rfl, rfl⟩) (by assumption) ?resta9
    try simp only [Act.put, List.setIfInBounds_toArray, List.set_cons_zero, List.set_cons_succ]
    refine wpAnyH_take (i := 10) (oi := ⟨some 78, _, _, _, _, _⟩) (v := undef) rfl (by kernel_rfl) (by kernel_rfl) (by kernel_rfl) (fun _ _ _ h => h) (Or.inr ⟨by rfl, rfl⟩) (by assumption) ?resta10
    try simp only [Act.put, List.setIfInBounds_toArray, List.set_cons_zero, List.set_cons_succ]
    refine wpAnyH_take (i := 11) (oi := ⟨some 79, _, _, _, _, _⟩) (v := undef) rfl (by kernel_rfl) (by kernel_rfl) (by kernel_rfl) (fun _ _ _ h => h) (Or.inr ⟨by rfl, rfl⟩) (by assumption) ?resta11
    try simp only [Act.put, List.setIfInBounds_toArray, List.set_cons_zero, List.set_cons_succ]
    refine wpAnyH_take (i := 12) (oi := ⟨some 80, _, _, _, _, _⟩) (v := undef) rfl (by kernel_rfl) (by kernel_rfl) (by kernel_rfl) (fun _ _ _ h => h) (Or.inr ⟨by rfl, rfl⟩) (by assumption) ?resta12
    try simp only [Act.put, List.setIfInBounds_toArray, List.set_cons_zero, List.set_cons_succ]
    refine wpAnyH_take (i := 13) (oi := ⟨some 81, _, _, _, _, _⟩) (v := undef) rfl (by kernel_rfl) (by kernel_rfl) (by kernel_rfl) (fun _ _ _ h => h) (Or.inr ⟨by rfl, rfl⟩) (by assumption) ?resta13
    try simp only [Act.put, List.setIfInBounds_toArray, List.set_cons_zero, List.set_cons_succ]
    refine wpAnyH_take (i := 14) (oi := ⟨some 82, _, _, _, _, _⟩) (v := undef) rfl (by kernel_rfl) (by kernel_rfl) (by kernel_rfl) (fun _ _ _ h => h) (Or.inr ⟨by rfl, rfl⟩) (by assumption) ?resta14
    try simp only [Act.put, List.setIfInBounds_toArray, List.set_cons_zero, List.set_cons_succ]
    refine wpAnyH_take (i := 15) (oi := ⟨some 83, _, _, _, _, _⟩) (v := undef) rfl (by kernel_rfl) (by kernel_rfl) (by kernel_rfl) (fun _ _ _ h => h) (Or.inr ⟨by rfl, rfl⟩) (by assumption) ?resta15
    try simp only [Act.put, List.setIfInBounds_toArray, List.set_cons_zero, List.set_cons_succ]
    refine wpAnyH_take (i := 16) (oi := ⟨some 84, _, _, _, _, _⟩) (v := undef) rfl (by kernel_rfl) (by kernel_rfl) (by kernel_rfl) (fun _ _ _ h => h) (Or.inr ⟨by rfl, rfl⟩) (by assumption) ?resta16
    try simp only [Act.put, List.setIfInBounds_toArray, List.set_cons_zero, List.set_cons_succ]
    refine wpAnyH_take (i := 17) (oi := ⟨some 85, _, _, _, _, _⟩) (v := undef) rfl (by kernel_rfl) (by kernel_rfl) (by kernel_rfl) (fun _ _ _ h => h) (Or.inr ⟨by rfl, rfl⟩) (by assumption) ?resta17
    try simp only [Act.put, List.setIfInBounds_toArray, List.set_cons_zero, List.set_cons_succ]
    refine wpAnyH_take (i := 18) (oi := ⟨some 86, _, _, _, _, _⟩) (v := undef) rfl (by kernel_rfl) (by kernel_rfl) (by kernel_rfl) (fun _ _ _ h => h) (Or.inr ⟨by rfl, rfl⟩) (by assumption) ?resta18
    try simp only [Act.put, List.setIfInBounds_toArray, List.set_cons_zero, List.set_cons_succ]
    refine wpAnyH_take (i := 19) (oi := ⟨some 87, _, _, _, _, _⟩) (v := undef) rfl (by kernel_rfl) (by kernel_rfl) (by kernel_rfl) (fun _ _ _ h => h) (Or.inr ⟨by rfl, rfl⟩) (by assumption) ?resta19
    try simp only [Act.put, List.setIfInBounds_toArray, List.set_cons_zero, List.set_cons_succ]
    refine wpAnyH_take (i := 20) (oi := ⟨some 88, _, _, _, _, _⟩) (v := undef) rfl (by kernel_rfl) (by kernel_rfl) (by kernel_rfl) (fun _ _ _ h => h) (Or.inr ⟨by rfl, rfl⟩) (by assumption) ?resta20
    try simp only [Act.put, List.setIfInBounds_toArray, List.set_cons_zero, List.set_cons_succ]
    refine wpAnyH_take (i := 21) (oi := ⟨some 89, _, _, _, _, _⟩) (v := ?va21) rfl (by kernel_rfl) (by kernel_rfl) (by kernel_rfl) (fun _ _ _ h => h) (Or.inl ⟨by rfl, ?hya21⟩) (by assumption) ?resta21
    case hya21 => (intro w hSw; (try dsimp only at hSw); go_simp <;> (try with_reducible rfl))
    try simp only [Act.put, List.setIfInBounds_toArray, List.set_cons_zero, List.set_cons_succ]
    refine wpAnyH_done (by kernel_rfl) ?_ _
    refine NoPanic.normal ?_
    clear hHeld
    clear d3 hS0
    go_wp2_with (first
      | ((with_reducible show wpList _ _ _ (Oper.mk _ (Op.load 26 _) _ _ _ _ :: _) _ _); go_must (refine wpList_load_row rfl 26 _ rfl g rfl 26 _ (0, 0) _ XN.out Tryz.underlying26 rfl (sizeNt22 _ _ _ _) ?_))
      | ((with_reducible show wpList _ _ _ (Oper.mk _ (Op.store 26 _ _) _ _ _ _ :: _) _ _); go_must (refine wpList_store_row rfl 26 _ _ rfl (g + 1) _ rfl rfl 26 _ YN.out (sizeNt22 _ _ _ _) rfl (oneNt22 _ _ _ _ _ _) ?_)))
    refine bodyPost_ret (results_row_tmp22 rfl _ _ (g + 1) 26 _ (0, 0) _ rfl (setRow_heap _ _ _ _ _ _ YN.out) Tryz.underlying26 rfl (sizeNt22 _ _ _ _)) rfl ?_
    exact HF.out _ (Below.setRow BN.out.drew (Nat.le_succ _) _)
  | true =>
    have hx := hx.out rfl
    have hb := hb.out
    unfold Hid at HQ HK
    rw [← hx] at HQ HK hb
    have HK := hid HK
    have HQ := hid HQ
    have hso : sgO l = true ∧ sgnB (X, D) = true := by
      cases h7 : sgO l with
      | false => rw [h7, Bool.false_and] at hb; cases hb
      | true => exact ⟨rfl, by rw [h7, Bool.true_and] at hb; exact hb.symm⟩
    have HSO := hid hso
    clear hb hx hso
    by_cases e16 : n = 16
    · subst e16
      have HF : Hid (∀ w', Below g w w' → LnQ t k l w (.slice a 16 c) (.returned (.tuple #[nv t.O t.z t.R (.slice a 16 c), .bool false])) w') := HF.out (HQ.out.trans (if_neg fun e => by
        have h9 := e.2.1
        rw [List.length_append, HNL.out] at h9
        have h9 : 16 + 1 ≤ 16 := h9
        omega))
      refine wp_region_noPanic ?_
      refine wp_region_held_drew (S := (fun _ => True)) (by kernel_rfl) trivial (fun hHeld => ?_)
      refine wpAnyH_take (i := 0) (oi := ⟨some 68, _, _, _, _, _⟩) (v := ?vb0) rfl (by kernel_rfl) (by kernel_rfl) (by kernel_rfl) (fun _ _ _ h => h) (Or.inl ⟨by rfl, ?hyb0⟩) (by assumption) ?restb0
      case hyb0 => (intro w hSw; (try dsimp only at hSw); go_simp <;> (try with_reducible rfl))
      try simp only [Act.put, List.setIfInBounds_toArray, List.set_cons_zero, List.set_cons_succ]
      refine wpAnyH_take (i := 1) (oi := ⟨some 69, _, _, _, _, _⟩) (v := ?vb1) rfl (by kernel_rfl) (by kernel_rfl) (by kernel_rfl) (fun _ _ _ h => h) (Or.inl ⟨by rfl, ?hyb1⟩) (by assumption) ?restb1
      case hyb1 => (intro w hSw; (try dsimp only at hSw); go_simp <;> (try with_reducible rfl))
      try simp only [Act.put, List.setIfInBounds_toArray, List.set_cons_zero, List.set_cons_succ]
      refine wpAnyH_take (i := 2) (oi := ⟨some 70, _, _, _, _, _⟩) (v := ?vb2) rfl (by kernel_rfl) (by kernel_rfl) (by kernel_rfl) (fun _ _ _ h => h) (Or.inl ⟨by rfl, ?hyb2⟩) (by assumption) ?restb2
      case hyb2 => (intro w hSw; (try dsimp only at hSw); go_simp <;> (try with_reducible rfl))
      try simp only [Act.put, List.setIfInBounds_toArray, List.set_cons_zero, List.set_cons_succ]
      refine wpAnyH_take (i := 3) (oi := ⟨some 71, _, _, _, _, _⟩) (v := ?vb3) rfl (by kernel_rfl) (by kernel_rfl) (by kernel_rfl) (fun _ _ _ h => h) (Or.inl ⟨by rfl, ?hyb3⟩) (by assumption) ?restb3
      case hyb3 => (intro w hSw; (try dsimp only at hSw); go_simp <;> (try with_reducible rfl))
      try simp only [Act.put, List.setIfInBounds_toArray, List.set_cons_zero, List.set_cons_succ]
      refine wpAnyH_take (i := 4) (oi := ⟨some 72, _, _, _, _, _⟩) (v := ?vb4) rfl (by kernel_rfl) (by kernel_rfl) (by kernel_rfl) (fun _ _ _ h => h) (Or.inl ⟨by rfl, ?hyb4⟩) (by assumption) ?restb4
      case hyb4 => (intro w hSw; (try dsimp only at hSw); go_simp <;> (try with_reducible rfl))
      try simp only [Act.put, List.setIfInBounds_toArray, List.set_cons_zero, List.set_cons_succ]
      refine wpAnyH_take (i := 5) (oi := ⟨some 73, _, _, _, _, _⟩) (v := ?vb5) rfl (by kernel_rfl) (by kernel_rfl) (by kernel_rfl) (fun _ _ _ h => h) (Or.inl ⟨by rfl, ?hyb5⟩) (by assumption) ?restb5
      case hyb5 => (intro w hSw; (try dsimp only at hSw); go_simp <;> (try with_reducible rfl))
      try simp only [Act.put, List.setIfInBounds_toArray, List.set_cons_zero, List.set_cons_succ]
      refine wpAnyH_take (i := 6) (oi := ⟨some 74, _, _, _, _, _⟩) (v := ?vb6) rfl (by kernel_rfl) (by kernel_rfl) (by kernel_rfl) (fun _ _ _ h => h) (Or.inl ⟨by rfl, ?hyb6⟩) (by assumption) ?restb6
      case hyb6 => (intro w hSw; (try dsimp only at hSw); go_simp <;> (try with_reducible rfl))
      try simp only [Act.put, List.setIfInBounds_toArray, List.set_cons_zero, List.set_cons_succ]
      refine wpAnyH_take (i := 7) (oi := ⟨some 75, _, _, _, _, _⟩) (v := undef) rfl (by kernel_rfl) (by kernel_rfl) (by kernel_rfl) (fun _ _ _ h => h) (Or.inr ⟨by rfl, rfl⟩) (by assumption) ?restb7
      try simp only [Act.put, List.setIfInBounds_toArray, List.set_cons_zero, List.set_cons_succ]
      refine wpAnyH_take (i := 8) (oi := ⟨some 76, _, _, _, _, _⟩) (v := undef) rfl (by kernel_rfl) (by kernel_rfl) (by kernel_rfl) (fun _ _ _ h => h) (Or.inr ⟨by rfl, rfl⟩) (by assumption) ?restb8
      try simp only [Act.put, List.setIfInBounds_toArray, List.set_cons_zero, List.set_cons_succ]
      refine wpAnyH_take (i := 9) (oi := ⟨some 77, _, _, _, _, _⟩) (v := undef) rfl (by kernel_rfl) (by kernel_rfl) (by kernel_rfl) (fun _ _ _ h => h) (Or.inr ⟨by rfl, rfl⟩) (by assumption) ?restb9
      try simp only [Act.put, List.setIfInBounds_toArray, List.set_cons_zero, List.set_cons_succ]
      refine wpAnyH_take (i := 10) (oi := ⟨some 78, _, _, _, _, _⟩) (v := undef) rfl (by kernel_rfl) (by kernel_rfl) (by kernel_rfl) (fun _ _ _ h => h) (Or.inr ⟨by rfl, rfl⟩) (by assumption) ?restb10
      try simp only [Act.put, List.setIfInBounds_toArray, List.set_cons_zero, List.set_cons_succ]
      refine wpAnyH_take (i := 11) (oi := ⟨some 79, _, _, _, _, _⟩) (v := undef) rfl (by kernel_rfl) (by kernel_rfl) (by kernel_rfl) (fun _ _ _ h => h) (Or.inr ⟨by rfl, rfl⟩) (by assumption) ?restb11
      try simp only [Act.put, List.setIfInBounds_toArray, List.set_cons_zero, List.set_cons_succ]
      refine wpAnyH_take (i := 12) (oi := ⟨some 80, _, _, _, _, _⟩) (v := undef) rfl (by kernel_rfl) (by kernel_rfl) (by kernel_rfl) (fun _ _ _ h => h) (Or.inr ⟨by rfl, rfl⟩) (by assumption) ?restb12
      try simp only [Act.put, List.setIfInBounds_toArray, List.set_cons_zero, List.set_cons_succ]
      refine wpAnyH_take (i := 13) (oi := ⟨some 81, _, _, _, _, _⟩) (v := undef) rfl (by kernel_rfl) (by kernel_rfl) (by kernel_rfl) (fun _ _ _ h => h) (Or.inr ⟨by rfl, rfl⟩) (by assumption) ?restb13
      try simp only [Act.put, List.setIfInBounds_toArray, List.set_cons_zero, List.set_cons_succ]
      refine wpAnyH_take (i := 14) (oi := ⟨some 82, _, _, _, _, _⟩) (v := undef) rfl (by kernel_rfl) (by kernel_rfl) (by kernel_rfl) (fun _ _ _ h => h) (Or.inr ⟨by rfl, rfl⟩) (by assumption) ?restb14
      try simp only [Act.put, List.setIfInBounds_toArray, List.set_cons_zero, List.set_cons_succ]
      refine wpAnyH_take (i := 15) (oi := ⟨some 83, _, _, _, _, _⟩) (v := undef) rfl (by kernel_rfl) (by kernel_rfl) (by kernel_rfl) (fun _ _ _ h => h) (Or.inr ⟨by rfl, rfl⟩) (by assumption) ?restb15
      try simp only [Act.put, List.setIfInBounds_toArray, List.set_cons_zero, List.set_cons_succ]
      refine wpAnyH_take (i := 16) (oi := ⟨some 84, _, _, _, _, _⟩) (v := undef) rfl (by kernel_rfl) (by kernel_rfl) (by kernel_rfl) (fun _ _ _ h => h) (Or.inr ⟨by rfl, rfl⟩) (by assumption) ?restb16
      try simp only [Act.put, List.setIfInBounds_toArray, List.set_cons_zero, List.set_cons_succ]
      refine wpAnyH_take (i := 17) (oi := ⟨some 85, _, _, _, _, _⟩) (v := undef) rfl (by kernel_rfl) (by kernel_rfl) (by kernel_rfl) (fun _ _ _ h => h) (Or.inr ⟨by rfl, rfl⟩) (by assumption) ?restb17
      try simp only [Act.put, List.setIfInBounds_toArray, List.set_cons_zero, List.set_cons_succ]
      refine wpAnyH_take (i := 18) (oi := ⟨some 86, _, _, _, _, _⟩) (v := undef) rfl (by kernel_rfl) (by kernel_rfl) (by kernel_rfl) (fun _ _ _ h => h) (Or.inr ⟨by rfl, rfl⟩) (by assumption) ?restb18
      try simp only [Act.put, List.setIfInBounds_toArray, List.set_cons_zero, List.set_cons_succ]
      refine wpAnyH_take (i := 19) (oi := ⟨some 87, _, _, _, _, _⟩) (v := undef) rfl (by kernel_rfl) (by kernel_rfl) (by kernel_rfl) (fun _ _ _ h => h) (Or.inr ⟨by rfl, rfl⟩) (by assumption) ?restb19
      try simp only [Act.put, List.setIfInBounds_toArray, List.set_cons_zero, List.set_cons_succ]
      refine wpAnyH_take (i := 20) (oi := ⟨some 88, _, _, _, _, _⟩) (v := undef) rfl (by kernel_rfl) (by kernel_rfl) (by kernel_rfl) (fun _ _ _ h => h) (Or.inr ⟨by rfl, rfl⟩) (by assumption) ?restb20
      try simp only [Act.put, List.setIfInBounds_toArray, List.set_cons_zero, List.set_cons_succ]
      refine wpAnyH_take (i := 21) (oi := ⟨some 89, _, _, _, _, _⟩) (v := ?vb21) rfl (by kernel_rfl) (by kernel_rfl) (by kernel_rfl) (fun _ _ _ h => h) (Or.inl ⟨by rfl, ?hyb21⟩) (by assumption) ?restb21
      case hyb21 => (intro w hSw; (try dsimp only at hSw); go_simp <;> (try with_reducible rfl))
      try simp only [Act.put, List.setIfInBounds_toArray, List.set_cons_zero, List.set_cons_succ]
      refine wpAnyH_done (by kernel_rfl) ?_ _
      refine NoPanic.normal ?_
      clear hHeld
      clear d3 hS0
      go_wp2_with (first
        | ((with_reducible show wpList _ _ _ (Oper.mk _ (Op.load 26 _) _ _ _ _ :: _) _ _); go_must (refine wpList_load_row rfl 26 _ rfl g rfl 26 _ (0, 0) _ XN.out Tryz.underlying26 rfl (sizeNt22 _ _ _ _) ?_))
        | ((with_reducible show wpList _ _ _ (Oper.mk _ (Op.store 26 _ _) _ _ _ _ :: _) _ _); go_must (refine wpList_store_row rfl 26 _ _ rfl (g + 1) _ rfl rfl 26 _ YN.out (sizeNt22 _ _ _ _) rfl (oneNt22 _ _ _ _ _ _) ?_)))
      refine bodyPost_ret (results_row_tmp22 rfl _ _ (g + 1) 26 _ (0, 0) _ rfl (setRow_heap _ _ _ _ _ _ YN.out) Tryz.underlying26 rfl (sizeNt22 _ _ _ _)) rfl ?_
      exact HF.out _ (Below.setRow BN.out.drew (Nat.le_succ _) _)
    · have e16' : ¬ (n : Int) = 16 := by omega
      have n15 : n + 1 ≤ 16 := by have := H16.out; omega
      by_cases n0 : n = 0
      · subst n0
        have HPOS : Hid (sgO l = true ∧ (t.S ++ [(X, D)]).length ≤ 16 ∧ allOk (t.S ++ [(X, D)]) = true) := ⟨HSO.out.1, by rw [List.length_append, HNL.out]; exact n15, by rw [HK.out, HSO.out.2, HNL.out, decide_eq_true rfl]; rfl⟩
        refine wp_region_noPanic ?_
        refine wp_region_held_drew (S := (fun _ => True)) (by kernel_rfl) trivial (fun hHeld => ?_)
        refine wpAnyH_take (i := 0) (oi := ⟨some 68, _, _, _, _, _⟩) (v := ?vc0) rfl (by kernel_rfl) (by kernel_rfl) (by kernel_rfl) (fun _ _ _ h => h) (Or.inl ⟨by rfl, ?hyc0⟩) (by assumption) ?restc0
        case hyc0 => (intro w hSw; (try dsimp only at hSw); go_simp <;> (try with_reducible rfl))
        try simp only [Act.put, List.setIfInBounds_toArray, List.set_cons_zero, List.set_cons_succ]
        refine wpAnyH_take (i := 1) (oi := ⟨some 69, _, _, _, _, _⟩) (v := ?vc1) rfl (by kernel_rfl) (by kernel_rfl) (by kernel_rfl) (fun _ _ _ h => h) (Or.inl ⟨by rfl, ?hyc1⟩) (by assumption) ?restc1
        case hyc1 => (intro w hSw; (try dsimp only at hSw); go_simp <;> (try with_reducible rfl))
        try simp only [Act.put, List.setIfInBounds_toArray, List.set_cons_zero, List.set_cons_succ]
        refine wpAnyH_take (i := 2) (oi := ⟨some 70, _, _, _, _, _⟩) (v := ?vc2) rfl (by kernel_rfl) (by kernel_rfl) (by kernel_rfl) (fun _ _ _ h => h) (Or.inl ⟨by rfl, ?hyc2⟩) (by assumption) ?restc2
        case hyc2 => (intro w hSw; (try dsimp only at hSw); go_simp <;> (try with_reducible rfl))
        try simp only [Act.put, List.setIfInBounds_toArray, List.set_cons_zero, List.set_cons_succ]
        refine wpAnyH_take (i := 3) (oi := ⟨some 71, _, _, _, _, _⟩) (v := ?vc3) rfl (by kernel_rfl) (by kernel_rfl) (by kernel_rfl) (fun _ _ _ h => h) (Or.inl ⟨by rfl, ?hyc3⟩) (by assumption) ?restc3
        case hyc3 => (intro w hSw; (try dsimp only at hSw); go_simp <;> (try with_reducible rfl))
        try simp only [Act.put, List.setIfInBounds_toArray, List.set_cons_zero, List.set_cons_succ]
        refine wpAnyH_take (i := 4) (oi := ⟨some 72, _, _, _, _, _⟩) (v := ?vc4) rfl (by kernel_rfl) (by kernel_rfl) (by kernel_rfl) (fun _ _ _ h => h) (Or.inl ⟨by rfl, ?hyc4⟩) (by assumption) ?restc4
        case hyc4 => (intro w hSw; (try dsimp only at hSw); go_simp <;> (try with_reducible rfl))
        try simp only [Act.put, List.setIfInBounds_toArray, List.set_cons_zero, List.set_cons_succ]
        refine wpAnyH_take (i := 5) (oi := ⟨some 73, _, _, _, _, _⟩) (v := ?vc5) rfl (by kernel_rfl) (by kernel_rfl) (by kernel_rfl) (fun _ _ _ h => h) (Or.inl ⟨by rfl, ?hyc5⟩) (by assumption) ?restc5
        case hyc5 => (intro w hSw; (try dsimp only at hSw); go_simp <;> (try with_reducible rfl))
        try simp only [Act.put, List.setIfInBounds_toArray, List.set_cons_zero, List.set_cons_succ]
        refine wpAnyH_take (i := 6) (oi := ⟨some 74, _, _, _, _, _⟩) (v := ?vc6) rfl (by kernel_rfl) (by kernel_rfl) (by kernel_rfl) (fun _ _ _ h => h) (Or.inl ⟨by rfl, ?hyc6⟩) (by assumption) ?restc6
        case hyc6 => (intro w hSw; (try dsimp only at hSw); go_simp <;> (try with_reducible rfl))
        try simp only [Act.put, List.setIfInBounds_toArray, List.set_cons_zero, List.set_cons_succ]
        refine wpAnyH_take (i := 7) (oi := ⟨some 75, _, _, _, _, _⟩) (v := ?vc7) rfl (by kernel_rfl) (by kernel_rfl) (by kernel_rfl) (fun _ _ _ h => h) (Or.inl ⟨by rfl, ?hyc7⟩) (by assumption) ?restc7
        case hyc7 => (intro w hSw; (try dsimp only at hSw); go_simp <;> (try with_reducible rfl))
        try simp only [Act.put, List.setIfInBounds_toArray, List.set_cons_zero, List.set_cons_succ]
        refine wpAnyH_take (i := 8) (oi := ⟨some 76, _, _, _, _, _⟩) (v := ?vc8) rfl (by kernel_rfl) (by kernel_rfl) (by kernel_rfl) (fun _ _ _ h => h) (Or.inl ⟨by rfl, ?hyc8⟩) (by assumption) ?restc8
        case hyc8 => (intro w hSw; (try dsimp only at hSw); go_simp <;> (try with_reducible rfl))
        try simp only [Act.put, List.setIfInBounds_toArray, List.set_cons_zero, List.set_cons_succ]
        refine wpAnyH_take (i := 9) (oi := ⟨some 77, _, _, _, _, _⟩) (v := ?vc9) rfl (by kernel_rfl) (by kernel_rfl) (by kernel_rfl) (fun _ _ _ h => h) (Or.inl ⟨by rfl, ?hyc9⟩) (by assumption) ?restc9
        case hyc9 => (intro w hSw; (try dsimp only at hSw); go_simp <;> (try with_reducible rfl))
        try simp only [Act.put, List.setIfInBounds_toArray, List.set_cons_zero, List.set_cons_succ]
        refine wpAnyH_take (i := 10) (oi := ⟨some 78, _, _, _, _, _⟩) (v := undef) rfl (by kernel_rfl) (by kernel_rfl) (by kernel_rfl) (fun _ _ _ h => h) (Or.inr ⟨by rfl, rfl⟩) (by assumption) ?restc10
        try simp only [Act.put, List.setIfInBounds_toArray, List.set_cons_zero, List.set_cons_succ]
        refine wpAnyH_take (i := 11) (oi := ⟨some 79, _, _, _, _, _⟩) (v := undef) rfl (by kernel_rfl) (by kernel_rfl) (by kernel_rfl) (fun _ _ _ h => h) (Or.inr ⟨by rfl, rfl⟩) (by assumption) ?restc11
        try simp only [Act.put, List.setIfInBounds_toArray, List.set_cons_zero, List.set_cons_succ]
        refine wpAnyH_take (i := 12) (oi := ⟨some 80, _, _, _, _, _⟩) (v := undef) rfl (by kernel_rfl) (by kernel_rfl) (by kernel_rfl) (fun _ _ _ h => h) (Or.inr ⟨by rfl, rfl⟩) (by assumption) ?restc12
        try simp only [Act.put, List.setIfInBounds_toArray, List.set_cons_zero, List.set_cons_succ]
        refine wpAnyH_take (i := 13) (oi := ⟨some 81, _, _, _, _, _⟩) (v := undef) rfl (by kernel_rfl) (by kernel_rfl) (by kernel_rfl) (fun _ _ _ h => h) (Or.inr ⟨by rfl, rfl⟩) (by assumption) ?restc13
        try simp only [Act.put, List.setIfInBounds_toArray, List.set_cons_zero, List.set_cons_succ]
        refine wpAnyH_take (i := 14) (oi := ⟨some 82, _, _, _, _, _⟩) (v := undef) rfl (by kernel_rfl) (by kernel_rfl) (by kernel_rfl) (fun _ _ _ h => h) (Or.inr ⟨by rfl, rfl⟩) (by assumption) ?restc14
        try simp only [Act.put, List.setIfInBounds_toArray, List.set_cons_zero, List.set_cons_succ]
        refine wpAnyH_take (i := 15) (oi := ⟨some 83, _, _, _, _, _⟩) (v := undef) rfl (by kernel_rfl) (by kernel_rfl) (by kernel_rfl) (fun _ _ _ h => h) (Or.inr ⟨by rfl, rfl⟩) (by assumption) ?restc15
        try simp only [Act.put, List.setIfInBounds_toArray, List.set_cons_zero, List.set_cons_succ]
        refine wpAnyH_take (i := 16) (oi := ⟨some 84, _, _, _, _, _⟩) (v := undef) rfl (by kernel_rfl) (by kernel_rfl) (by kernel_rfl) (fun _ _ _ h => h) (Or.inr ⟨by rfl, rfl⟩) (by assumption) ?restc16
        try simp only [Act.put, List.setIfInBounds_toArray, List.set_cons_zero, List.set_cons_succ]
        refine wpAnyH_take (i := 17) (oi := ⟨some 85, _, _, _, _, _⟩) (v := undef) rfl (by kernel_rfl) (by kernel_rfl) (by kernel_rfl) (fun _ _ _ h => h) (Or.inr ⟨by rfl, rfl⟩) (by assumption) ?restc17
        try simp only [Act.put, List.setIfInBounds_toArray, List.set_cons_zero, List.set_cons_succ]
        refine wpAnyH_take (i := 18) (oi := ⟨some 86, _, _, _, _, _⟩) (v := undef) rfl (by kernel_rfl) (by kernel_rfl) (by kernel_rfl) (fun _ _ _ h => h) (Or.inr ⟨by rfl, rfl⟩) (by assumption) ?restc18
        try simp only [Act.put, List.setIfInBounds_toArray, List.set_cons_zero, List.set_cons_succ]
        refine wpAnyH_take (i := 19) (oi := ⟨some 87, _, _, _, _, _⟩) (v := undef) rfl (by kernel_rfl) (by kernel_rfl) (by kernel_rfl) (fun _ _ _ h => h) (Or.inr ⟨by rfl, rfl⟩) (by assumption) ?restc19
        try simp only [Act.put, List.setIfInBounds_toArray, List.set_cons_zero, List.set_cons_succ]
        refine wpAnyH_take (i := 20) (oi := ⟨some 88, _, _, _, _, _⟩) (v := ?vc20) rfl (by kernel_rfl) (by kernel_rfl) (by kernel_rfl) (fun _ _ _ h => h) (Or.inl ⟨by rfl, ?hyc20⟩) (by assumption) ?restc20
        case hyc20 => (intro w hSw; (try dsimp only at hSw); go_simp <;> (try with_reducible rfl))
        try simp only [Act.put, List.setIfInBounds_toArray, List.set_cons_zero, List.set_cons_succ]
        refine wpAnyH_take (i := 21) (oi := ⟨some 89, _, _, _, _, _⟩) (v := ?vc21) rfl (by kernel_rfl) (by kernel_rfl) (by kernel_rfl) (fun _ _ _ h => h) (Or.inl ⟨by rfl, ?hyc21⟩) (by assumption) ?restc21
        case hyc21 => (intro w hSw; (try dsimp only at hSw); go_simp <;> (try with_reducible rfl))
        try simp only [Act.put, List.setIfInBounds_toArray, List.set_cons_zero, List.set_cons_succ]
        refine wpAnyH_done (by kernel_rfl) ?_ _
        refine NoPanic.normal ?_
        clear hHeld
        obtain ⟨v', wb, hap, ob, gr⟩ := append_sg w5.drew (.slice a 0 c) t.S X D HO5.out (by rw [HNL.out]; omega)
        have hap : (Builtin.append_ #[24, 24] 24 #[.slice a 0 c, .slice (some ⟨w5.drew.heap.size, 0, none⟩) 1 1]).run Tryz.prog (w5.drew.alloc (.cells #[.string X, .string D] 32)) = .ok v' wb := hap
        obtain ⟨a', c', rfl, -, -⟩ := ob.shape
        rw [HNL.out, Nat.zero_add] at hap ob gr
        have hvh := HVH.out
        have bal : Below w5.heap.size w5 (w5.drew.alloc (.cells #[.string X, .string D] 32)) := (bw_drew w5).alloc (Nat.le_refl _) _
        have hold : ∀ q, q < w5.heap.size → (Value.slice a 0 c).ownBlock ≠ some q → wb.heap[q]? = w5.heap[q]? := gr.old
        have xb : Bx wb g t.O t.z t.R (.slice a 0 c) := XN.out.kept (hold g HGL.out.1 (fun e => by have := hvh g e; omega))
        have yb : Bx wb (g + 1) ⟨#[]⟩ 0 ⟨#[]⟩ (.slice none 0 0) := YN.out.kept (hold (g + 1) HGL.out.2 (fun e => by have := hvh (g + 1) e; omega))
        have fz : wb.frozen? ⟨g, 3, none⟩ = false := frozen_of_row _ _ _ _ _ xb
        have cb := xb.c3
        have xs : Bx (wb.setCell ⟨g, 3, none⟩ (.slice a' 1 c')) g t.O t.z t.R (.slice a' 1 c') := by
          unfold Bx
          rw [setCell_eq_setRow wb g 3 _ _ _ _ xb]
          exact setRow_heap _ _ _ _ _ _ xb
        have ys : Bx (wb.setCell ⟨g, 3, none⟩ (.slice a' 1 c')) (g + 1) ⟨#[]⟩ 0 ⟨#[]⟩ (.slice none 0 0) := by
          unfold Bx
          rw [setCell_eq_setRow wb g 3 _ _ _ _ xb]
          exact (setRow_other _ _ _ _ (by omega)).trans yb
        have hfr : ∀ q, (Value.slice a' 1 c').ownBlock = some q → q ≠ g ∧ q ≠ g + 1 := fun q hq => by
          rcases gr.alt with e | ⟨e, _⟩
          · have := hvh q (by rw [← e]; exact hq); omega
          · have h8 : w5.heap.size ≤ q := e q hq
            have := HGL.out; omega
        have bb := (But.refl g wb).setCell 3 (.slice a' 1 c')
        have os := ob.kept bb.size (fun q hq => bb.block q (ob.lt q hq) (hfr q hq).1)
        have XN := hid xs
        have YN := hid ys
        have HH : Hid (∀ w', (∀ q, q < wb.heap.size → q ≠ g → q ≠ g + 1 → w'.heap[q]? = wb.heap[q]?) → wb.heap.size ≤ w'.heap.size → w'.os = wb.os ∧ w'.tape = wb.tape ∧ w'.output = wb.output → LnQ t k l w (.slice a 0 c) (.returned (.tuple #[nv t.O t.z t.R (.slice a' 1 c'), .bool true])) w') := fun w' hb hsz hos => by
          have hs := HQ.out.trans (if_pos HPOS.out)
          refine ⟨⟨t.O, t.z, t.R, t.S ++ [(X, D)]⟩, _, _, _, by rw [hs]; rfl, fun t1 e => ?_, ?_⟩
          · rw [hs] at e
            obtain rfl := Option.some.inj e
            have hl9 : (t.S ++ [(X, D)]).length = 1 := by rw [List.length_append, HNL.out]; rfl
            refine ⟨rfl, ?_⟩
            show Wz.OwnM 2 w' _ (t.S ++ [(X, D)]).length (sgs (t.S ++ [(X, D)]))
            rw [hl9]
            exact ob.kept hsz (fun q hq => hb q (ob.lt q hq) (hfr q hq).1 (hfr q hq).2)
          · have hb5 := BN.out
            have hg9 := HG.out
            refine ⟨hos.1.trans (gr.os.trans hb5.os), hos.2.1.trans (gr.tape.trans hb5.tape), hos.2.2.trans (gr.output.trans hb5.output), ?_, fun q hq hne => ?_, ?_⟩
            · have h8 := gr.size; have h7 := hb5.size; have h8 : w5.heap.size ≤ wb.heap.size := h8; omega
            · have h8 : w5.heap.size ≤ wb.heap.size := gr.size
              have h7 := HGL.out
              rw [hb q (by omega) (by omega) (by omega), hold q (by omega) hne]
              exact hb5.block q (by omega)
            · rcases gr.alt with e | ⟨e, e'⟩
              · exact .inl e
              · refine .inr ⟨fun q hq => ?_, fun q hq => ?_⟩
                · have h8 : w5.heap.size ≤ q := e q hq
                  have h7 := HGL.out; omega
                · have h8 : w5.heap.size ≤ wb.heap.size := gr.size
                  have h7 := HGL.out
                  rw [hb q (by omega) (by omega) (by omega)]
                  exact (e' q (by show q < w5.heap.size; omega)).trans (hb5.block q (by omega))
        have HSZ : Hid (g + 1 < wb.heap.size) := hid (by have h8 : w5.heap.size ≤ wb.heap.size := gr.size; have := HGL.out; omega)
        clear xb yb xs ys hfr bb os hold bal ob gr hvh hS0
        go_upto_region 21 with ((with_reducible show wpList _ _ _ (Oper.mk _ (Op.call { callee := Callee.builtin Builtin.append, args := _, argTypes := #[24, 24] }) _ _ _ _ :: _) _ _); (refine Lib.wpList_append_run _ rfl _ _ 24 24 rfl (.slice a 0 c) (.slice (some ⟨w5.drew.heap.size, 0, none⟩) 1 1) ?hs ?hx _ _ hap ?_); (case hs => go_simp); (case hx => go_simp); clear hap)
        go_wp2_with (first
          | ((with_reducible show wpList _ _ _ (Oper.mk _ (Op.load 26 _) _ _ _ _ :: _) _ _); go_must (refine wpList_load_row rfl 26 _ rfl g rfl 26 _ (0, 0) _ XN.out Tryz.underlying26 rfl (sizeNt22 _ _ _ _) ?_))
          | ((with_reducible show wpList _ _ _ (Oper.mk _ (Op.store 26 _ _) _ _ _ _ :: _) _ _); go_must (refine wpList_store_row rfl 26 _ _ rfl (g + 1) _ rfl rfl 26 _ YN.out (sizeNt22 _ _ _ _) rfl (oneNt22 _ _ _ _ _ _) ?_)))
        refine bodyPost_ret (results_row_tmp22 rfl _ _ (g + 1) 26 _ (0, 0) _ rfl (setRow_heap _ _ _ _ _ _ YN.out) Tryz.underlying26 rfl (sizeNt22 _ _ _ _)) rfl ?_
        refine HH.out _ (fun q hq h1 h2 => ?_) ?_ ⟨rfl, rfl, rfl⟩
        · exact (setRow_other _ _ _ _ (fun e => h2 e)).trans (((But.refl g wb).setCell 3 (.slice a' 1 c')).block q hq h1)
        · have e1 := ((But.refl g wb).setCell 3 (.slice a' 1 c')).size
          exact Nat.le_trans e1 (But.size ((But.refl (g + 1) _).setRow _))
      · obtain ⟨m, rfl⟩ : ∃ m, n = m + 1 := ⟨n - 1, by omega⟩
        have z0 : (0 : Int) < (m : Int) + 1 := by omega
        have v1 : IntKind.i64.wrap ((m : Int) + 1 - 1) = (m : Int) := by rw [IntKind.wrap_i64]; omega
        have v0 : IntKind.i64.wrap (m : Int) = (m : Int) := by rw [IntKind.wrap_i64]; omega
        have m0 : (0 : Int) ≤ (m : Int) := by omega
        have mm1 : (m : Int) < (m : Int) + 1 := by omega
        have e17 : ((m : Int) + 1 == 16) = false := by rw [beq_eq_false_iff_ne]; omega
        obtain ⟨⟨M, D'⟩, hy'⟩ : ∃ y, t.S[m]? = some y := ⟨_, List.getElem?_eq_getElem (by rw [HNL.out]; omega)⟩
        obtain ⟨a9, c9, e9, hA9, -⟩ := ownM_atS HO5.out
        obtain rfl : a = a9 := by injection e9
        clear e9
        obtain ⟨p, ep, _, hM, _⟩ := hA9 m _ hy'
        subst ep
        have hM : w5.cell? (p.add (m * 2)) = some (.string M) := hM
        have gd : t.S.getD (t.S.length - 1) (⟨#[]⟩, ⟨#[]⟩) = (M, D') := by rw [HNL.out, Nat.add_sub_cancel, List.getD_eq_getElem?_getD, hy']; rfl
        have hK := HK.out
        rw [gd, HSO.out.2, Bool.true_and, decide_eq_false (by rw [HNL.out]; omega), Bool.false_or] at hK
        have HK := hid hK
        clear hK gd hy' hA9 n0
        cases hl : ltN M X with
        | false =>
          have hl' : Op.bytesLess M.toList X.toList = false := hl
          have HF : Hid (∀ w', Below g w w' → LnQ t k l w (.slice (some p) (m + 1) c) (.returned (.tuple #[nv t.O t.z t.R (.slice (some p) (m + 1) c), .bool false])) w') := HF.out (HQ.out.trans (if_neg fun e => by
            have h9 := e.2.2
            rw [HK.out, hl] at h9
            cases h9))
          clear hl
          refine wp_region_noPanic ?_
          refine wp_region_held_drew (S := (fun W => W.cell? ⟨g, 3, none⟩ = some (.slice (some p) (m + 1) c) ∧ W.cell? ⟨h, 0, none⟩ = some (.string X) ∧ W.cell? (p.add (m * 2)) = some (.string M))) (by kernel_rfl) ⟨d3, c0, hM⟩ (fun hHeld => ?_)
          refine wpAnyH_take (i := 0) (oi := ⟨some 68, _, _, _, _, _⟩) (v := ?vd0) rfl (by kernel_rfl) (by kernel_rfl) (by kernel_rfl) (fun _ _ _ h => h) (Or.inl ⟨by rfl, ?hyd0⟩) (by assumption) ?restd0
          case hyd0 => (intro w hSw; (try dsimp only at hSw); go_simp <;> (try with_reducible rfl))
          try simp only [Act.put, List.setIfInBounds_toArray, List.set_cons_zero, List.set_cons_succ]
          refine wpAnyH_take (i := 1) (oi := ⟨some 69, _, _, _, _, _⟩) (v := ?vd1) rfl (by kernel_rfl) (by kernel_rfl) (by kernel_rfl) (fun _ _ _ h => h) (Or.inl ⟨by rfl, ?hyd1⟩) (by assumption) ?restd1
          case hyd1 => (intro w hSw; (try dsimp only at hSw); go_simp <;> (try with_reducible rfl))
          try simp only [Act.put, List.setIfInBounds_toArray, List.set_cons_zero, List.set_cons_succ]
          refine wpAnyH_take (i := 2) (oi := ⟨some 70, _, _, _, _, _⟩) (v := ?vd2) rfl (by kernel_rfl) (by kernel_rfl) (by kernel_rfl) (fun _ _ _ h => h) (Or.inl ⟨by rfl, ?hyd2⟩) (by assumption) ?restd2
          case hyd2 => (intro w hSw; (try dsimp only at hSw); go_simp <;> (try with_reducible rfl))
          try simp only [Act.put, List.setIfInBounds_toArray, List.set_cons_zero, List.set_cons_succ]
          refine wpAnyH_take (i := 3) (oi := ⟨some 71, _, _, _, _, _⟩) (v := ?vd3) rfl (by kernel_rfl) (by kernel_rfl) (by kernel_rfl) (fun _ _ _ h => h) (Or.inl ⟨by rfl, ?hyd3⟩) (by assumption) ?restd3
          case hyd3 => (intro w hSw; (try dsimp only at hSw); go_simp <;> (try with_reducible rfl))
          try simp only [Act.put, List.setIfInBounds_toArray, List.set_cons_zero, List.set_cons_succ]
          refine wpAnyH_take (i := 4) (oi := ⟨some 72, _, _, _, _, _⟩) (v := ?vd4) rfl (by kernel_rfl) (by kernel_rfl) (by kernel_rfl) (fun _ _ _ h => h) (Or.inl ⟨by rfl, ?hyd4⟩) (by assumption) ?restd4
          case hyd4 => (intro w hSw; (try dsimp only at hSw); go_simp <;> (try with_reducible rfl))
          try simp only [Act.put, List.setIfInBounds_toArray, List.set_cons_zero, List.set_cons_succ]
          refine wpAnyH_take (i := 5) (oi := ⟨some 73, _, _, _, _, _⟩) (v := ?vd5) rfl (by kernel_rfl) (by kernel_rfl) (by kernel_rfl) (fun _ _ _ h => h) (Or.inl ⟨by rfl, ?hyd5⟩) (by assumption) ?restd5
          case hyd5 => (intro w hSw; (try dsimp only at hSw); go_simp <;> (try with_reducible rfl))
          try simp only [Act.put, List.setIfInBounds_toArray, List.set_cons_zero, List.set_cons_succ]
          refine wpAnyH_take (i := 6) (oi := ⟨some 74, _, _, _, _, _⟩) (v := ?vd6) rfl (by kernel_rfl) (by kernel_rfl) (by kernel_rfl) (fun _ _ _ h => h) (Or.inl ⟨by rfl, ?hyd6⟩) (by assumption) ?restd6
          case hyd6 => (intro w hSw; (try dsimp only at hSw); go_simp <;> (try with_reducible rfl))
          try simp only [Act.put, List.setIfInBounds_toArray, List.set_cons_zero, List.set_cons_succ]
          refine wpAnyH_take (i := 7) (oi := ⟨some 75, _, _, _, _, _⟩) (v := ?vd7) rfl (by kernel_rfl) (by kernel_rfl) (by kernel_rfl) (fun _ _ _ h => h) (Or.inl ⟨by rfl, ?hyd7⟩) (by assumption) ?restd7
          case hyd7 => (intro w hSw; (try dsimp only at hSw); go_simp <;> (try with_reducible rfl))
          try simp only [Act.put, List.setIfInBounds_toArray, List.set_cons_zero, List.set_cons_succ]
          refine wpAnyH_take (i := 8) (oi := ⟨some 76, _, _, _, _, _⟩) (v := ?vd8) rfl (by kernel_rfl) (by kernel_rfl) (by kernel_rfl) (fun _ _ _ h => h) (Or.inl ⟨by rfl, ?hyd8⟩) (by assumption) ?restd8
          case hyd8 => (intro w hSw; (try dsimp only at hSw); go_simp <;> (try with_reducible rfl))
          try simp only [Act.put, List.setIfInBounds_toArray, List.set_cons_zero, List.set_cons_succ]
          refine wpAnyH_take (i := 9) (oi := ⟨some 77, _, _, _, _, _⟩) (v := ?vd9) rfl (by kernel_rfl) (by kernel_rfl) (by kernel_rfl) (fun _ _ _ h => h) (Or.inl ⟨by rfl, ?hyd9⟩) (by assumption) ?restd9
          case hyd9 => (intro w hSw; (try dsimp only at hSw); go_simp <;> (try with_reducible rfl))
          try simp only [Act.put, List.setIfInBounds_toArray, List.set_cons_zero, List.set_cons_succ]
          refine wpAnyH_take (i := 10) (oi := ⟨some 78, _, _, _, _, _⟩) (v := ?vd10) rfl (by kernel_rfl) (by kernel_rfl) (by kernel_rfl) (fun _ _ _ h => h) (Or.inl ⟨by rfl, ?hyd10⟩) (by assumption) ?restd10
          case hyd10 => (intro w hSw; (try dsimp only at hSw); go_simp <;> (try with_reducible rfl))
          try simp only [Act.put, List.setIfInBounds_toArray, List.set_cons_zero, List.set_cons_succ]
          refine wpAnyH_take (i := 11) (oi := ⟨some 79, _, _, _, _, _⟩) (v := ?vd11) rfl (by kernel_rfl) (by kernel_rfl) (by kernel_rfl) (fun _ _ _ h => h) (Or.inl ⟨by rfl, ?hyd11⟩) (by assumption) ?restd11
          case hyd11 => (intro w hSw; (try dsimp only at hSw); go_simp <;> (try with_reducible rfl))
          try simp only [Act.put, List.setIfInBounds_toArray, List.set_cons_zero, List.set_cons_succ]
          refine wpAnyH_take (i := 12) (oi := ⟨some 80, _, _, _, _, _⟩) (v := ?vd12) rfl (by kernel_rfl) (by kernel_rfl) (by kernel_rfl) (fun _ _ _ h => h) (Or.inl ⟨by rfl, ?hyd12⟩) (by assumption) ?restd12
          case hyd12 => (intro w hSw; (try dsimp only at hSw); go_simp <;> (try with_reducible rfl))
          try simp only [Act.put, List.setIfInBounds_toArray, List.set_cons_zero, List.set_cons_succ]
          refine wpAnyH_take (i := 13) (oi := ⟨some 81, _, _, _, _, _⟩) (v := ?vd13) rfl (by kernel_rfl) (by kernel_rfl) (by kernel_rfl) (fun _ _ _ h => h) (Or.inl ⟨by rfl, ?hyd13⟩) (by assumption) ?restd13
          case hyd13 => (intro w hSw; (try dsimp only at hSw); go_simp <;> (try with_reducible rfl))
          try simp only [Act.put, List.setIfInBounds_toArray, List.set_cons_zero, List.set_cons_succ]
          refine wpAnyH_take (i := 14) (oi := ⟨some 82, _, _, _, _, _⟩) (v := ?vd14) rfl (by kernel_rfl) (by kernel_rfl) (by kernel_rfl) (fun _ _ _ h => h) (Or.inl ⟨by rfl, ?hyd14⟩) (by assumption) ?restd14
          case hyd14 => (intro w hSw; (try dsimp only at hSw); go_simp <;> (try with_reducible rfl))
          try simp only [Act.put, List.setIfInBounds_toArray, List.set_cons_zero, List.set_cons_succ]
          refine wpAnyH_take (i := 15) (oi := ⟨some 83, _, _, _, _, _⟩) (v := ?vd15) rfl (by kernel_rfl) (by kernel_rfl) (by kernel_rfl) (fun _ _ _ h => h) (Or.inl ⟨by rfl, ?hyd15⟩) (by assumption) ?restd15
          case hyd15 => (intro w hSw; (try dsimp only at hSw); go_simp <;> (try with_reducible rfl))
          try simp only [Act.put, List.setIfInBounds_toArray, List.set_cons_zero, List.set_cons_succ]
          refine wpAnyH_take (i := 16) (oi := ⟨some 84, _, _, _, _, _⟩) (v := ?vd16) rfl (by kernel_rfl) (by kernel_rfl) (by kernel_rfl) (fun _ _ _ h => h) (Or.inl ⟨by rfl, ?hyd16⟩) (by assumption) ?restd16
          case hyd16 => (intro w hSw; (try dsimp only at hSw); go_simp <;> (try with_reducible rfl))
          try simp only [Act.put, List.setIfInBounds_toArray, List.set_cons_zero, List.set_cons_succ]
          refine wpAnyH_take (i := 17) (oi := ⟨some 85, _, _, _, _, _⟩) (v := ?vd17) rfl (by kernel_rfl) (by kernel_rfl) (by kernel_rfl) (fun _ _ _ h => h) (Or.inl ⟨by rfl, ?hyd17⟩) (by assumption) ?restd17
          case hyd17 => (intro w hSw; (try dsimp only at hSw); go_simp <;> (try with_reducible rfl))
          try simp only [Act.put, List.setIfInBounds_toArray, List.set_cons_zero, List.set_cons_succ]
          refine wpAnyH_take (i := 18) (oi := ⟨some 86, _, _, _, _, _⟩) (v := ?vd18) rfl (by kernel_rfl) (by kernel_rfl) (by kernel_rfl) (fun _ _ _ h => h) (Or.inl ⟨by rfl, ?hyd18⟩) (by assumption) ?restd18
          case hyd18 => (intro w hSw; (try dsimp only at hSw); go_simp <;> (try with_reducible rfl))
          try simp only [Act.put, List.setIfInBounds_toArray, List.set_cons_zero, List.set_cons_succ]
          refine wpAnyH_take (i := 19) (oi := ⟨some 87, _, _, _, _, _⟩) (v := ?vd19) rfl (by kernel_rfl) (by kernel_rfl) (by kernel_rfl) (fun _ _ _ h => h) (Or.inl ⟨by rfl, ?hyd19⟩) (by assumption) ?restd19
          case hyd19 => (intro w hSw; (try dsimp only at hSw); go_simp <;> (try with_reducible rfl))
          try simp only [Act.put, List.setIfInBounds_toArray, List.set_cons_zero, List.set_cons_succ]
          refine wpAnyH_take (i := 20) (oi := ⟨some 88, _, _, _, _, _⟩) (v := ?vd20) rfl (by kernel_rfl) (by kernel_rfl) (by kernel_rfl) (fun _ _ _ h => h) (Or.inl ⟨by rfl, ?hyd20⟩) (by assumption) ?restd20
          case hyd20 => (intro w hSw; (try dsimp only at hSw); go_simp <;> (try with_reducible rfl))
          try simp only [Act.put, List.setIfInBounds_toArray, List.set_cons_zero, List.set_cons_succ]
          refine wpAnyH_take (i := 21) (oi := ⟨some 89, _, _, _, _, _⟩) (v := ?vd21) rfl (by kernel_rfl) (by kernel_rfl) (by kernel_rfl) (fun _ _ _ h => h) (Or.inl ⟨by rfl, ?hyd21⟩) (by assumption) ?restd21
          case hyd21 => (intro w hSw; (try dsimp only at hSw); go_simp <;> (try with_reducible rfl))
          try simp only [Act.put, List.setIfInBounds_toArray, List.set_cons_zero, List.set_cons_succ]
          refine wpAnyH_done (by kernel_rfl) ?_ _
          refine NoPanic.normal ?_
          clear hHeld
          clear d3 hS0
          go_wp2_with (first
            | ((with_reducible show wpList _ _ _ (Oper.mk _ (Op.load 26 _) _ _ _ _ :: _) _ _); go_must (refine wpList_load_row rfl 26 _ rfl g rfl 26 _ (0, 0) _ XN.out Tryz.underlying26 rfl (sizeNt22 _ _ _ _) ?_))
            | ((with_reducible show wpList _ _ _ (Oper.mk _ (Op.store 26 _ _) _ _ _ _ :: _) _ _); go_must (refine wpList_store_row rfl 26 _ _ rfl (g + 1) _ rfl rfl 26 _ YN.out (sizeNt22 _ _ _ _) rfl (oneNt22 _ _ _ _ _ _) ?_)))
          refine bodyPost_ret (results_row_tmp22 rfl _ _ (g + 1) 26 _ (0, 0) _ rfl (setRow_heap _ _ _ _ _ _ YN.out) Tryz.underlying26 rfl (sizeNt22 _ _ _ _)) rfl ?_
          exact HF.out _ (Below.setRow BN.out.drew (Nat.le_succ _) _)
        | true =>
          have hl' : Op.bytesLess M.toList X.toList = true := hl
          have HPOS : Hid (sgO l = true ∧ (t.S ++ [(X, D)]).length ≤ 16 ∧ allOk (t.S ++ [(X, D)]) = true) := ⟨HSO.out.1, by rw [List.length_append, HNL.out]; exact n15, by rw [HK.out, hl]⟩
          clear hl
          refine wp_region_noPanic ?_
          refine wp_region_held_drew (S := (fun W => W.cell? ⟨g, 3, none⟩ = some (.slice (some p) (m + 1) c) ∧ W.cell? ⟨h, 0, none⟩ = some (.string X) ∧ W.cell? (p.add (m * 2)) = some (.string M))) (by kernel_rfl) ⟨d3, c0, hM⟩ (fun hHeld => ?_)
          refine wpAnyH_take (i := 0) (oi := ⟨some 68, _, _, _, _, _⟩) (v := ?ve0) rfl (by kernel_rfl) (by kernel_rfl) (by kernel_rfl) (fun _ _ _ h => h) (Or.inl ⟨by rfl, ?hye0⟩) (by assumption) ?reste0
          case hye0 => (intro w hSw; (try dsimp only at hSw); go_simp <;> (try with_reducible rfl))
          try simp only [Act.put, List.setIfInBounds_toArray, List.set_cons_zero, List.set_cons_succ]
          refine wpAnyH_take (i := 1) (oi := ⟨some 69, _, _, _, _, _⟩) (v := ?ve1) rfl (by kernel_rfl) (by kernel_rfl) (by kernel_rfl) (fun _ _ _ h => h) (Or.inl ⟨by rfl, ?hye1⟩) (by assumption) ?reste1
          case hye1 => (intro w hSw; (try dsimp only at hSw); go_simp <;> (try with_reducible rfl))
          try simp only [Act.put, List.setIfInBounds_toArray, List.set_cons_zero, List.set_cons_succ]
          refine wpAnyH_take (i := 2) (oi := ⟨some 70, _, _, _, _, _⟩) (v := ?ve2) rfl (by kernel_rfl) (by kernel_rfl) (by kernel_rfl) (fun _ _ _ h => h) (Or.inl ⟨by rfl, ?hye2⟩) (by assumption) ?reste2
          case hye2 => (intro w hSw; (try dsimp only at hSw); go_simp <;> (try with_reducible rfl))
          try simp only [Act.put, List.setIfInBounds_toArray, List.set_cons_zero, List.set_cons_succ]
          refine wpAnyH_take (i := 3) (oi := ⟨some 71, _, _, _, _, _⟩) (v := ?ve3) rfl (by kernel_rfl) (by kernel_rfl) (by kernel_rfl) (fun _ _ _ h => h) (Or.inl ⟨by rfl, ?hye3⟩) (by assumption) ?reste3
          case hye3 => (intro w hSw; (try dsimp only at hSw); go_simp <;> (try with_reducible rfl))
          try simp only [Act.put, List.setIfInBounds_toArray, List.set_cons_zero, List.set_cons_succ]
          refine wpAnyH_take (i := 4) (oi := ⟨some 72, _, _, _, _, _⟩) (v := ?ve4) rfl (by kernel_rfl) (by kernel_rfl) (by kernel_rfl) (fun _ _ _ h => h) (Or.inl ⟨by rfl, ?hye4⟩) (by assumption) ?reste4
          case hye4 => (intro w hSw; (try dsimp only at hSw); go_simp <;> (try with_reducible rfl))
          try simp only [Act.put, List.setIfInBounds_toArray, List.set_cons_zero, List.set_cons_succ]
          refine wpAnyH_take (i := 5) (oi := ⟨some 73, _, _, _, _, _⟩) (v := ?ve5) rfl (by kernel_rfl) (by kernel_rfl) (by kernel_rfl) (fun _ _ _ h => h) (Or.inl ⟨by rfl, ?hye5⟩) (by assumption) ?reste5
          case hye5 => (intro w hSw; (try dsimp only at hSw); go_simp <;> (try with_reducible rfl))
          try simp only [Act.put, List.setIfInBounds_toArray, List.set_cons_zero, List.set_cons_succ]
          refine wpAnyH_take (i := 6) (oi := ⟨some 74, _, _, _, _, _⟩) (v := ?ve6) rfl (by kernel_rfl) (by kernel_rfl) (by kernel_rfl) (fun _ _ _ h => h) (Or.inl ⟨by rfl, ?hye6⟩) (by assumption) ?reste6
          case hye6 => (intro w hSw; (try dsimp only at hSw); go_simp <;> (try with_reducible rfl))
          try simp only [Act.put, List.setIfInBounds_toArray, List.set_cons_zero, List.set_cons_succ]
          refine wpAnyH_take (i := 7) (oi := ⟨some 75, _, _, _, _, _⟩) (v := ?ve7) rfl (by kernel_rfl) (by kernel_rfl) (by kernel_rfl) (fun _ _ _ h => h) (Or.inl ⟨by rfl, ?hye7⟩) (by assumption) ?reste7
          case hye7 => (intro w hSw; (try dsimp only at hSw); go_simp <;> (try with_reducible rfl))
          try simp only [Act.put, List.setIfInBounds_toArray, List.set_cons_zero, List.set_cons_succ]
          refine wpAnyH_take (i := 8) (oi := ⟨some 76, _, _, _, _, _⟩) (v := ?ve8) rfl (by kernel_rfl) (by kernel_rfl) (by kernel_rfl) (fun _ _ _ h => h) (Or.inl ⟨by rfl, ?hye8⟩) (by assumption) ?reste8
          case hye8 => (intro w hSw; (try dsimp only at hSw); go_simp <;> (try with_reducible rfl))
          try simp only [Act.put, List.setIfInBounds_toArray, List.set_cons_zero, List.set_cons_succ]
          refine wpAnyH_take (i := 9) (oi := ⟨some 77, _, _, _, _, _⟩) (v := ?ve9) rfl (by kernel_rfl) (by kernel_rfl) (by kernel_rfl) (fun _ _ _ h => h) (Or.inl ⟨by rfl, ?hye9⟩) (by assumption) ?reste9
          case hye9 => (intro w hSw; (try dsimp only at hSw); go_simp <;> (try with_reducible rfl))
          try simp only [Act.put, List.setIfInBounds_toArray, List.set_cons_zero, List.set_cons_succ]
          refine wpAnyH_take (i := 10) (oi := ⟨some 78, _, _, _, _, _⟩) (v := ?ve10) rfl (by kernel_rfl) (by kernel_rfl) (by kernel_rfl) (fun _ _ _ h => h) (Or.inl ⟨by rfl, ?hye10⟩) (by assumption) ?reste10
          case hye10 => (intro w hSw; (try dsimp only at hSw); go_simp <;> (try with_reducible rfl))
          try simp only [Act.put, List.setIfInBounds_toArray, List.set_cons_zero, List.set_cons_succ]
          refine wpAnyH_take (i := 11) (oi := ⟨some 79, _, _, _, _, _⟩) (v := ?ve11) rfl (by kernel_rfl) (by kernel_rfl) (by kernel_rfl) (fun _ _ _ h => h) (Or.inl ⟨by rfl, ?hye11⟩) (by assumption) ?reste11
          case hye11 => (intro w hSw; (try dsimp only at hSw); go_simp <;> (try with_reducible rfl))
          try simp only [Act.put, List.setIfInBounds_toArray, List.set_cons_zero, List.set_cons_succ]
          refine wpAnyH_take (i := 12) (oi := ⟨some 80, _, _, _, _, _⟩) (v := ?ve12) rfl (by kernel_rfl) (by kernel_rfl) (by kernel_rfl) (fun _ _ _ h => h) (Or.inl ⟨by rfl, ?hye12⟩) (by assumption) ?reste12
          case hye12 => (intro w hSw; (try dsimp only at hSw); go_simp <;> (try with_reducible rfl))
          try simp only [Act.put, List.setIfInBounds_toArray, List.set_cons_zero, List.set_cons_succ]
          refine wpAnyH_take (i := 13) (oi := ⟨some 81, _, _, _, _, _⟩) (v := ?ve13) rfl (by kernel_rfl) (by kernel_rfl) (by kernel_rfl) (fun _ _ _ h => h) (Or.inl ⟨by rfl, ?hye13⟩) (by assumption) ?reste13
          case hye13 => (intro w hSw; (try dsimp only at hSw); go_simp <;> (try with_reducible rfl))
          try simp only [Act.put, List.setIfInBounds_toArray, List.set_cons_zero, List.set_cons_succ]
          refine wpAnyH_take (i := 14) (oi := ⟨some 82, _, _, _, _, _⟩) (v := ?ve14) rfl (by kernel_rfl) (by kernel_rfl) (by kernel_rfl) (fun _ _ _ h => h) (Or.inl ⟨by rfl, ?hye14⟩) (by assumption) ?reste14
          case hye14 => (intro w hSw; (try dsimp only at hSw); go_simp <;> (try with_reducible rfl))
          try simp only [Act.put, List.setIfInBounds_toArray, List.set_cons_zero, List.set_cons_succ]
          refine wpAnyH_take (i := 15) (oi := ⟨some 83, _, _, _, _, _⟩) (v := ?ve15) rfl (by kernel_rfl) (by kernel_rfl) (by kernel_rfl) (fun _ _ _ h => h) (Or.inl ⟨by rfl, ?hye15⟩) (by assumption) ?reste15
          case hye15 => (intro w hSw; (try dsimp only at hSw); go_simp <;> (try with_reducible rfl))
          try simp only [Act.put, List.setIfInBounds_toArray, List.set_cons_zero, List.set_cons_succ]
          refine wpAnyH_take (i := 16) (oi := ⟨some 84, _, _, _, _, _⟩) (v := ?ve16) rfl (by kernel_rfl) (by kernel_rfl) (by kernel_rfl) (fun _ _ _ h => h) (Or.inl ⟨by rfl, ?hye16⟩) (by assumption) ?reste16
          case hye16 => (intro w hSw; (try dsimp only at hSw); go_simp <;> (try with_reducible rfl))
          try simp only [Act.put, List.setIfInBounds_toArray, List.set_cons_zero, List.set_cons_succ]
          refine wpAnyH_take (i := 17) (oi := ⟨some 85, _, _, _, _, _⟩) (v := ?ve17) rfl (by kernel_rfl) (by kernel_rfl) (by kernel_rfl) (fun _ _ _ h => h) (Or.inl ⟨by rfl, ?hye17⟩) (by assumption) ?reste17
          case hye17 => (intro w hSw; (try dsimp only at hSw); go_simp <;> (try with_reducible rfl))
          try simp only [Act.put, List.setIfInBounds_toArray, List.set_cons_zero, List.set_cons_succ]
          refine wpAnyH_take (i := 18) (oi := ⟨some 86, _, _, _, _, _⟩) (v := ?ve18) rfl (by kernel_rfl) (by kernel_rfl) (by kernel_rfl) (fun _ _ _ h => h) (Or.inl ⟨by rfl, ?hye18⟩) (by assumption) ?reste18
          case hye18 => (intro w hSw; (try dsimp only at hSw); go_simp <;> (try with_reducible rfl))
          try simp only [Act.put, List.setIfInBounds_toArray, List.set_cons_zero, List.set_cons_succ]
          refine wpAnyH_take (i := 19) (oi := ⟨some 87, _, _, _, _, _⟩) (v := ?ve19) rfl (by kernel_rfl) (by kernel_rfl) (by kernel_rfl) (fun _ _ _ h => h) (Or.inl ⟨by rfl, ?hye19⟩) (by assumption) ?reste19
          case hye19 => (intro w hSw; (try dsimp only at hSw); go_simp <;> (try with_reducible rfl))
          try simp only [Act.put, List.setIfInBounds_toArray, List.set_cons_zero, List.set_cons_succ]
          refine wpAnyH_take (i := 20) (oi := ⟨some 88, _, _, _, _, _⟩) (v := ?ve20) rfl (by kernel_rfl) (by kernel_rfl) (by kernel_rfl) (fun _ _ _ h => h) (Or.inl ⟨by rfl, ?hye20⟩) (by assumption) ?reste20
          case hye20 => (intro w hSw; (try dsimp only at hSw); go_simp <;> (try with_reducible rfl))
          try simp only [Act.put, List.setIfInBounds_toArray, List.set_cons_zero, List.set_cons_succ]
          refine wpAnyH_take (i := 21) (oi := ⟨some 89, _, _, _, _, _⟩) (v := ?ve21) rfl (by kernel_rfl) (by kernel_rfl) (by kernel_rfl) (fun _ _ _ h => h) (Or.inl ⟨by rfl, ?hye21⟩) (by assumption) ?reste21
          case hye21 => (intro w hSw; (try dsimp only at hSw); go_simp <;> (try with_reducible rfl))
          try simp only [Act.put, List.setIfInBounds_toArray, List.set_cons_zero, List.set_cons_succ]
          refine wpAnyH_done (by kernel_rfl) ?_ _
          refine NoPanic.normal ?_
          clear hHeld
          obtain ⟨v', wb, hap, ob, gr⟩ := append_sg w5.drew (.slice (some p) (m + 1) c) t.S X D HO5.out (by rw [HNL.out]; omega)
          have hap : (Builtin.append_ #[24, 24] 24 #[.slice (some p) (m + 1) c, .slice (some ⟨w5.drew.heap.size, 0, none⟩) 1 1]).run Tryz.prog (w5.drew.alloc (.cells #[.string X, .string D] 32)) = .ok v' wb := hap
          obtain ⟨a', c', rfl, -, -⟩ := ob.shape
          rw [HNL.out] at hap ob gr
          have hvh := HVH.out
          have bal : Below w5.heap.size w5 (w5.drew.alloc (.cells #[.string X, .string D] 32)) := (bw_drew w5).alloc (Nat.le_refl _) _
          have hold : ∀ q, q < w5.heap.size → (Value.slice (some p) (m + 1) c).ownBlock ≠ some q → wb.heap[q]? = w5.heap[q]? := gr.old
          have xb : Bx wb g t.O t.z t.R (.slice (some p) (m + 1) c) := XN.out.kept (hold g HGL.out.1 (fun e => by have := hvh g e; omega))
          have yb : Bx wb (g + 1) ⟨#[]⟩ 0 ⟨#[]⟩ (.slice none 0 0) := YN.out.kept (hold (g + 1) HGL.out.2 (fun e => by have := hvh (g + 1) e; omega))
          have fz : wb.frozen? ⟨g, 3, none⟩ = false := frozen_of_row _ _ _ _ _ xb
          have cb := xb.c3
          have xs : Bx (wb.setCell ⟨g, 3, none⟩ (.slice a' (m + 1 + 1) c')) g t.O t.z t.R (.slice a' (m + 1 + 1) c') := by
            unfold Bx
            rw [setCell_eq_setRow wb g 3 _ _ _ _ xb]
            exact setRow_heap _ _ _ _ _ _ xb
          have ys : Bx (wb.setCell ⟨g, 3, none⟩ (.slice a' (m + 1 + 1) c')) (g + 1) ⟨#[]⟩ 0 ⟨#[]⟩ (.slice none 0 0) := by
            unfold Bx
            rw [setCell_eq_setRow wb g 3 _ _ _ _ xb]
            exact (setRow_other _ _ _ _ (by omega)).trans yb
          have hfr : ∀ q, (Value.slice a' (m + 1 + 1) c').ownBlock = some q → q ≠ g ∧ q ≠ g + 1 := fun q hq => by
            rcases gr.alt with e | ⟨e, _⟩
            · have := hvh q (by rw [← e]; exact hq); omega
            · have h8 : w5.heap.size ≤ q := e q hq
              have := HGL.out; omega
          have bb := (But.refl g wb).setCell 3 (.slice a' (m + 1 + 1) c')
          have os := ob.kept bb.size (fun q hq => bb.block q (ob.lt q hq) (hfr q hq).1)
          have XN := hid xs
          have YN := hid ys
          have HH : Hid (∀ w', (∀ q, q < wb.heap.size → q ≠ g → q ≠ g + 1 → w'.heap[q]? = wb.heap[q]?) → wb.heap.size ≤ w'.heap.size → w'.os = wb.os ∧ w'.tape = wb.tape ∧ w'.output = wb.output → LnQ t k l w (.slice (some p) (m + 1) c) (.returned (.tuple #[nv t.O t.z t.R (.slice a' (m + 1 + 1) c'), .bool true])) w') := fun w' hb hsz hos => by
            have hs := HQ.out.trans (if_pos HPOS.out)
            refine ⟨⟨t.O, t.z, t.R, t.S ++ [(X, D)]⟩, _, _, _, by rw [hs]; rfl, fun t1 e => ?_, ?_⟩
            · rw [hs] at e
              obtain rfl := Option.some.inj e
              have hl9 : (t.S ++ [(X, D)]).length = m + 1 + 1 := by rw [List.length_append, HNL.out]; rfl
              refine ⟨rfl, ?_⟩
              show Wz.OwnM 2 w' _ (t.S ++ [(X, D)]).length (sgs (t.S ++ [(X, D)]))
              rw [hl9]
              exact ob.kept hsz (fun q hq => hb q (ob.lt q hq) (hfr q hq).1 (hfr q hq).2)
            · have hb5 := BN.out
              have hg9 := HG.out
              refine ⟨hos.1.trans (gr.os.trans hb5.os), hos.2.1.trans (gr.tape.trans hb5.tape), hos.2.2.trans (gr.output.trans hb5.output), ?_, fun q hq hne => ?_, ?_⟩
              · have h8 := gr.size; have h7 := hb5.size; have h8 : w5.heap.size ≤ wb.heap.size := h8; omega
              · have h8 : w5.heap.size ≤ wb.heap.size := gr.size
                have h7 := HGL.out
                rw [hb q (by omega) (by omega) (by omega), hold q (by omega) hne]
                exact hb5.block q (by omega)
              · rcases gr.alt with e | ⟨e, e'⟩
                · exact .inl e
                · refine .inr ⟨fun q hq => ?_, fun q hq => ?_⟩
                  · have h8 : w5.heap.size ≤ q := e q hq
                    have h7 := HGL.out; omega
                  · have h8 : w5.heap.size ≤ wb.heap.size := gr.size
                    have h7 := HGL.out
                    rw [hb q (by omega) (by omega) (by omega)]
                    exact (e' q (by show q < w5.heap.size; omega)).trans (hb5.block q (by omega))
          have HSZ : Hid (g + 1 < wb.heap.size) := hid (by have h8 : w5.heap.size ≤ wb.heap.size := gr.size; have := HGL.out; omega)
          clear xb yb xs ys hfr bb os hold bal ob gr hvh hS0
          go_upto_region 21 with ((with_reducible show wpList _ _ _ (Oper.mk _ (Op.call { callee := Callee.builtin Builtin.append, args := _, argTypes := #[24, 24] }) _ _ _ _ :: _) _ _); (refine Lib.wpList_append_run _ rfl _ _ 24 24 rfl (.slice (some p) (m + 1) c) (.slice (some ⟨w5.drew.heap.size, 0, none⟩) 1 1) ?hs ?hx _ _ hap ?_); (case hs => go_simp); (case hx => go_simp); clear hap)
          go_wp2_with (first
            | ((with_reducible show wpList _ _ _ (Oper.mk _ (Op.load 26 _) _ _ _ _ :: _) _ _); go_must (refine wpList_load_row rfl 26 _ rfl g rfl 26 _ (0, 0) _ XN.out Tryz.underlying26 rfl (sizeNt22 _ _ _ _) ?_))
            | ((with_reducible show wpList _ _ _ (Oper.mk _ (Op.store 26 _ _) _ _ _ _ :: _) _ _); go_must (refine wpList_store_row rfl 26 _ _ rfl (g + 1) _ rfl rfl 26 _ YN.out (sizeNt22 _ _ _ _) rfl (oneNt22 _ _ _ _ _ _) ?_)))
          refine bodyPost_ret (results_row_tmp22 rfl _ _ (g + 1) 26 _ (0, 0) _ rfl (setRow_heap _ _ _ _ _ _ YN.out) Tryz.underlying26 rfl (sizeNt22 _ _ _ _)) rfl ?_
          refine HH.out _ (fun q hq h1 h2 => ?_) ?_ ⟨rfl, rfl, rfl⟩
          · exact (setRow_other _ _ _ _ (fun e => h2 e)).trans (((But.refl g wb).setCell 3 (.slice a' (m + 1 + 1) c')).block q hq h1)
          · have e1 := ((But.refl g wb).setCell 3 (.slice a' (m + 1 + 1) c')).size
            exact Nat.le_trans e1 (But.size ((But.refl (g + 1) _).setRow _))
end Nt
end Go.Proofs.YtdbbemcddhgbcaaGreatDoor
