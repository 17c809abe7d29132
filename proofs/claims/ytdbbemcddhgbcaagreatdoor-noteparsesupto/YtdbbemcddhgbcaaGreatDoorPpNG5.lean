import Derived.Test.YtdbbemcddhgbcaaGreatDoorPpND3
/- Layer 22: a note's reader: its further lines, in the program -/
namespace Go.Proofs.YtdbbemcddhgbcaaGreatDoor
open Go.RowKit Go.Shelf
namespace Nt
theorem stp_more {k : Nat} (h : 4 ≤ k) (t : Nr) (l : ByteArray) : stp k t l = if sgO l = true ∧ (t.S ++ [sgA l]).length ≤ 16 ∧ allOk (t.S ++ [sgA l]) = true then some ⟨t.O, t.z, t.R, t.S ++ [sgA l]⟩ else none := by
  unfold stp
  rw [if_neg (by omega), if_neg (by omega), if_neg (by omega), if_neg (by omega)]
set_option maxRecDepth 100000 in
set_option maxHeartbeats 8000000 in
theorem take_4 {E : Es} {w : World} {g k : Nat} (hN : ∀ w', Below g w w' → Nw w' E) {t : Nr} (h : Rs w g t k) (hk : 4 ≤ k) (hk2 : k ≤ 9223372036854775806) (hS : t.S.length ≤ 16) (l : ByteArray) (hl : l.size ≤ 140737488355328) : Calls Tryz.prog 58 #[.pointer (some ⟨g, 0, none⟩), .string l] w fun q w' => TkQ t k l g q w' ∧ Below g w w' := by
  obtain ⟨v, h1, h2, h3⟩ := h
  have i1 := line_any h1 hk2
  obtain ⟨m, hm⟩ : ∃ m, k + 1 = m := ⟨_, rfl⟩
  rw [hm] at i1
  have m1 : ¬ (m : Int) = 1 := by omega
  have m2 : ¬ (m : Int) = 2 := by omega
  have m3 : ¬ (m : Int) = 3 := by omega
  have m4 : ¬ (m : Int) = 4 := by omega
  have i2 := signatureOf_any l hl w
  have HQ := hid (stp_more hk t l)
  obtain ⟨⟨X, D⟩, hx⟩ : ∃ x, sgA l = x := ⟨_, rfl⟩
  obtain ⟨b, hb⟩ : ∃ b, sgO l = b := ⟨_, rfl⟩
  rw [hx, hb] at HQ i2
  have HR := hid h1
  have HO := hid h2
  have HV := hid h3
  have HL := hid h1.lt
  have HN := hid hN
  clear h1 h2 h3 hm hx hb hk hk2 hN
  go_enter Tryz.func58, Tryz.ntmps58
  go_upto_region 16 with (first
    | (go_at_call 37; (refine i1.mono ?_); rintro q w1 ⟨rfl, h0⟩; have h0 := h0.symm; subst h0)
    | (go_at_call 82; (refine i2.mono ?_); rintro q w2 ⟨rfl, b2⟩; have B2 := hid b2; have S2 := hid (heap_alloc_new w2 (.cells #[.string ⟨#[]⟩, .string ⟨#[]⟩] 32)))
    | ((with_reducible show wpList _ _ _ (Oper.mk _ (Op.store 32 _ _) _ _ _ _ :: _) _ _); go_must (refine wpList_store_row rfl 32 _ _ rfl w2.heap.size _ rfl rfl 32 _ S2.out (sizeSgG _ _) rfl (oneSgG _ _) ?_)))
  obtain ⟨h, hh⟩ : ∃ h, w2.heap.size = h := ⟨_, rfl⟩
  have BA : Below w2.heap.size w2 ((w2.alloc (.cells #[.string ⟨#[]⟩, .string ⟨#[]⟩] 32)).setRow w2.heap.size #[.string X, .string D]) := Below.setRow ((Below.refl _ _).alloc (Nat.le_refl _) _) (Nat.le_refl _) _
  have SA : ((w2.alloc (.cells #[.string ⟨#[]⟩, .string ⟨#[]⟩] 32)).setRow w2.heap.size #[.string X, .string D]).heap[w2.heap.size]? = some (.cells #[.string X, .string D] 32 (0, 0)) := setRow_heap _ _ _ _ _ _ S2.out
  have hsz : w2.heap.size < ((w2.alloc (.cells #[.string ⟨#[]⟩, .string ⟨#[]⟩] 32)).setRow w2.heap.size #[.string X, .string D]).heap.size := lt_of_heap SA
  obtain ⟨wa, hwa⟩ : ∃ wa, (w2.alloc (.cells #[.string ⟨#[]⟩, .string ⟨#[]⟩] 32)).setRow w2.heap.size #[.string X, .string D] = wa := ⟨_, rfl⟩
  rw [hwa] at BA SA hsz ⊢
  rw [hh] at SA hsz ⊢
  have BW : Below w.heap.size w wa := B2.out.trans (BA.mono B2.out.size)
  have hgh : g < h := by have := HL.out; have := B2.out.size; omega
  have ra := HR.out.below BW
  have oa := HO.out.below BW
  obtain ⟨v', wb, hap, ob, gr⟩ := append_sg wa.drew v t.S X D oa.drew (by omega)
  have hap : (Builtin.append_ #[24, 24] 24 #[v, .slice (some ⟨wa.heap.size, 0, none⟩) 1 1]).run Tryz.prog (wa.alloc (.cells #[.string X, .string D] 32)).drew = .ok v' wb := hap
  obtain ⟨a', c', rfl, -, -⟩ := ob.shape
  obtain ⟨v', hv'⟩ : ∃ v', v' = Value.slice a' (t.S.length + 1) c' := ⟨_, rfl⟩
  rw [← hv'] at hap ob gr
  have gr : Wz.Grow wa wb v v' := ⟨gr.os, gr.tape, gr.output, gr.size, gr.old, gr.alt⟩
  have hvh : ∀ q, v.ownBlock = some q → q < h := fun q hq => by have := HO.out.lt q hq; have := B2.out.size; omega
  have bal : Below wa.heap.size wa (wa.alloc (.cells #[.string X, .string D] 32)) := (Below.refl _ _).alloc (Nat.le_refl _) _
  have rl := ra.below bal
  have hold : ∀ q, q ≤ g ∨ q = h → wb.heap[q]? = wa.heap[q]? := fun q hq => gr.old q (by rcases hq with hq | hq <;> omega) (fun e => by
    have := HV.out q e
    have := hvh q e
    rcases hq with hq | hq <;> omega)
  have rb := ra.kept (hold g (.inl (Nat.le_refl _)))
  have SB : wb.heap[h]? = some (.cells #[.string X, .string D] 32 (0, 0)) := (hold h (.inr rfl)).trans SA
  have SL : (wa.alloc (.cells #[.string X, .string D] 32)).heap[h]? = some (.cells #[.string X, .string D] 32 (0, 0)) := (bal.block h (lt_of_heap SA)).trans SA
  have fz := rb.fz 3
  have cb := rb.c3
  have ca := ra.c3
  have cl := rl.c3
  have bb : But g wb (wb.setCell ⟨g, 3, none⟩ v') := (But.refl g wb).setCell _ _
  have hfr : ∀ q, v'.ownBlock = some q → g < q := fun q hq => by
    rcases gr.alt with e | ⟨e, _⟩
    · exact HV.out q (by rw [← e]; exact hq)
    · have := e q hq; omega
  have BF : Below g w (wb.setCell ⟨g, 3, none⟩ v') := (((BW.mono (Nat.le_of_lt HL.out)).trans ⟨gr.os, gr.tape, gr.output, gr.size, fun q hq => hold q (.inl (by omega))⟩)).setCell (p := ⟨g, 3, none⟩) (Nat.le_refl _) _
  have NF : Nw (wb.setCell ⟨g, 3, none⟩ v') E := HN.out _ BF
  have hlen : (t.S ++ [(X, D)]).length = t.S.length + 1 := by simp
  have OF := own_set (w := wb) (L := t.S ++ [(X, D)]) (g := g) 3 (by rw [hlen]; exact ob) hfr v'
  have RF := rb.set3 v' (t.S ++ [(X, D)])
  obtain ⟨a9, c9, ev, hA, hF⟩ := ownM_atS OF
  rw [hlen] at ev
  have e9 : a9 = a' := by rw [hv'] at ev; injection ev with e; exact e.symm
  rw [e9] at hA hF
  have RS : Hid (Rs (wb.setCell ⟨g, 3, none⟩ v') g ⟨t.O, t.z, t.R, t.S ++ [(X, D)]⟩ k) := hid ⟨v', RF, OF, hfr⟩
  have d01 : wa.cell? ⟨h, 0, none⟩ = some (.string X) := by rw [cell_of_row _ _ _ _ _ _ SA]; rfl
  have d02 : wa.cell? ⟨h, 1, none⟩ = some (.string D) := by rw [cell_of_row _ _ _ _ _ _ SA]; rfl
  have d11 : (wa.alloc (.cells #[.string X, .string D] 32)).cell? ⟨h, 0, none⟩ = some (.string X) := by rw [cell_of_row _ _ _ _ _ _ SL]; rfl
  have d12 : (wa.alloc (.cells #[.string X, .string D] 32)).cell? ⟨h, 1, none⟩ = some (.string D) := by rw [cell_of_row _ _ _ _ _ _ SL]; rfl
  have d21 : wb.cell? ⟨h, 0, none⟩ = some (.string X) := by rw [cell_of_row _ _ _ _ _ _ SB]; rfl
  have d22 : wb.cell? ⟨h, 1, none⟩ = some (.string D) := by rw [cell_of_row _ _ _ _ _ _ SB]; rfl
  have d31 : (wb.setCell ⟨g, 3, none⟩ v').cell? ⟨h, 0, none⟩ = some (.string X) := (World.cell?_setCell_far wb ⟨g, 3, none⟩ ⟨h, 0, none⟩ _ (fun e => by have e : g = h := e; omega)).trans d21
  have d32 : (wb.setCell ⟨g, 3, none⟩ v').cell? ⟨h, 1, none⟩ = some (.string D) := (World.cell?_setCell_far wb ⟨g, 3, none⟩ ⟨h, 1, none⟩ _ (fun e => by have e : g = h := e; omega)).trans d22
  have cf := RF.c3
  have HA := hid hA
  have BF := hid BF
  have NF := hid NF
  subst hv'
  clear hF hA RF OF bb hfr rb SB SL SA rl ra oa BA hwa hh hsz BW bal gr hold hvh ob hgh B2 S2 b2 HR HO HV ev h0 e9

  refine wp_region_noPanic ?_
  refine wp_region_held_drew (S := fun W => W.cell? ⟨h, 0, none⟩ = some (.string X) ∧ W.cell? ⟨h, 1, none⟩ = some (.string D)) (by kernel_rfl) ⟨d01, d02⟩ (fun hHeld => ?_)
  refine wpAnyH_take (i := 0) (oi := ⟨some 65, _, _, _, _, _⟩) (v := ?vA0) rfl (by kernel_rfl) (by kernel_rfl) (by kernel_rfl) (fun _ _ _ h => h) (Or.inl ⟨by rfl, ?hyA0⟩) (by assumption) ?restA0
  case hyA0 => (intro w hSw; (try dsimp only at hSw); go_simp <;> (try with_reducible rfl))
  try simp only [Act.put, List.setIfInBounds_toArray, List.set_cons_zero, List.set_cons_succ]
  refine wpAnyH_take (i := 1) (oi := ⟨some 66, _, _, _, _, _⟩) (v := ?vA1) rfl (by kernel_rfl) (by kernel_rfl) (by kernel_rfl) (fun _ _ _ h => h) (Or.inl ⟨by rfl, ?hyA1⟩) (by assumption) ?restA1
  case hyA1 => (intro w hSw; (try dsimp only at hSw); go_simp <;> (try with_reducible rfl))
  try simp only [Act.put, List.setIfInBounds_toArray, List.set_cons_zero, List.set_cons_succ]
  refine wpAnyH_take (i := 2) (oi := ⟨some 67, _, _, _, _, _⟩) (v := ?vA2) rfl (by kernel_rfl) (by kernel_rfl) (by kernel_rfl) (fun _ _ _ h => h) (Or.inl ⟨by rfl, ?hyA2⟩) (by assumption) ?restA2
  case hyA2 => (intro w hSw; (try dsimp only at hSw); go_simp <;> (try with_reducible rfl))
  try simp only [Act.put, List.setIfInBounds_toArray, List.set_cons_zero, List.set_cons_succ]
  refine wpAnyH_take (i := 3) (oi := ⟨some 68, _, _, _, _, _⟩) (v := ?vA3) rfl (by kernel_rfl) (by kernel_rfl) (by kernel_rfl) (fun _ _ _ h => h) (Or.inl ⟨by rfl, ?hyA3⟩) (by assumption) ?restA3
  case hyA3 => (intro w hSw; (try dsimp only at hSw); go_simp <;> (try with_reducible rfl))
  try simp only [Act.put, List.setIfInBounds_toArray, List.set_cons_zero, List.set_cons_succ]
  refine wpAnyH_take (i := 4) (oi := ⟨some 69, _, _, _, _, _⟩) (v := ?vA4) rfl (by kernel_rfl) (by kernel_rfl) (by kernel_rfl) (fun _ _ _ h => h) (Or.inl ⟨by rfl, ?hyA4⟩) (by assumption) ?restA4
  case hyA4 => (intro w hSw; (try dsimp only at hSw); go_simp <;> (try with_reducible rfl))
  try simp only [Act.put, List.setIfInBounds_toArray, List.set_cons_zero, List.set_cons_succ]
  refine wpAnyH_take (i := 6) (oi := ⟨some 71, _, _, _, _, _⟩) (v := ?vA6) rfl (by kernel_rfl) (by kernel_rfl) (by kernel_rfl) (fun _ _ _ h => h) (Or.inl ⟨by rfl, ?hyA6⟩) (by assumption) ?restA6
  case hyA6 => (intro w hSw; (try dsimp only at hSw); go_simp <;> (try with_reducible rfl))
  try simp only [Act.put, List.setIfInBounds_toArray, List.set_cons_zero, List.set_cons_succ]
  refine wpAnyH_ready (rs := [5, 7]) (by kernel_rfl) (by simp) ?_
  refine AllReadyH.cons (o := ⟨some 70, _, _, _, _, _⟩) rfl (fun K hK => ?_) (AllReadyH.cons (o := ⟨some 72, _, _, _, _, _⟩) rfl (fun K hK => ?_) AllReadyH.nil)
  · go_simp
    clear hHeld
    refine hK.out _ _ ?hSB5 (fun hHeld => ?restB5)
    case hSB5 => exact ⟨d01, d02⟩
    clear hK K
    try simp only [Act.put, List.setIfInBounds_toArray, List.set_cons_zero, List.set_cons_succ]
    refine wpAnyH_ready (rs := [7]) (by kernel_rfl) (by simp) ?_
    refine AllReadyH.cons (o := ⟨some 72, _, _, _, _, _⟩) rfl (fun K hK => ?_) AllReadyH.nil
    go_simp
    clear hHeld
    refine hK.out _ _ ?hSB7 (fun hHeld => ?restB7)
    case hSB7 => exact ⟨d11, d12⟩
    clear hK K
    try simp only [Act.put, List.setIfInBounds_toArray, List.set_cons_zero, List.set_cons_succ]
    refine wpAnyH_ready (rs := [8]) (by kernel_rfl) (by simp) ?_
    refine AllReadyH.cons (o := ⟨some 73, _, _, _, _, _⟩) rfl (fun K hK => ?_) AllReadyH.nil
    refine step_app22 rfl _ _ 24 rfl v (.slice (some ⟨wa.heap.size, 0, none⟩) 1 1) _ wb ?hs ?hx hap ?_
    case hs => go_simp
    case hx => go_simp
    clear hHeld
    refine hK.out _ _ ?hSB8 (fun hHeld => ?restB8)
    case hSB8 => exact ⟨d21, d22⟩
    clear hK K
    try simp only [Act.put, List.setIfInBounds_toArray, List.set_cons_zero, List.set_cons_succ]
    refine wpAnyH_take (i := 9) (oi := ⟨some 74, _, _, _, _, _⟩) (v := ?vB9) rfl (by kernel_rfl) (by kernel_rfl) (by kernel_rfl) (fun _ _ _ h => h) (Or.inl ⟨by rfl, ?hyB9⟩) (by assumption) ?restB9
    case hyB9 => (intro w hSw; (try dsimp only at hSw); go_simp <;> (try with_reducible rfl))
    try simp only [Act.put, List.setIfInBounds_toArray, List.set_cons_zero, List.set_cons_succ]
    refine wpAnyH_take (i := 10) (oi := ⟨some 75, _, _, _, _, _⟩) (v := ?vB10) rfl (by kernel_rfl) (by kernel_rfl) (by kernel_rfl) (fun _ _ _ h => h) (Or.inl ⟨by rfl, ?hyB10⟩) (by assumption) ?restB10
    case hyB10 => (intro w hSw; (try dsimp only at hSw); go_simp <;> (try with_reducible rfl))
    try simp only [Act.put, List.setIfInBounds_toArray, List.set_cons_zero, List.set_cons_succ]
    refine wpAnyH_take (i := 11) (oi := ⟨some 76, _, _, _, _, _⟩) (v := ?vB11) rfl (by kernel_rfl) (by kernel_rfl) (by kernel_rfl) (fun _ _ _ h => h) (Or.inl ⟨by rfl, ?hyB11⟩) (by assumption) ?restB11
    case hyB11 => (intro w hSw; (try dsimp only at hSw); go_simp <;> (try with_reducible rfl))
    try simp only [Act.put, List.setIfInBounds_toArray, List.set_cons_zero, List.set_cons_succ]
    refine wpAnyH_ready (rs := [12]) (by kernel_rfl) (by simp) ?_
    refine AllReadyH.cons (o := ⟨none, _, _, _, _, _⟩) rfl (fun K hK => ?_) AllReadyH.nil
    go_simp
    clear hHeld
    refine hK.out _ _ ?hSB12 (fun hHeld => ?restB12)
    case hSB12 => exact ⟨d31, d32⟩
    clear hK K
    try simp only [Act.put, List.setIfInBounds_toArray, List.set_cons_zero, List.set_cons_succ]
    refine wpAnyH_done (by kernel_rfl) ?_ _
    refine NoPanic.normal ?_
    clear hHeld d01 d02 d11 d12 d21 d22 d31 d32 hap fz cb ca cl
    generalize wb.setCell ⟨g, 3, none⟩ (.slice a' (t.S.length + 1) c') = wf at *
    cases b with
    | false =>
      have HT := hid (HQ.out.trans (if_neg fun e => Bool.false_ne_true e.1))
      clear HQ
      go_wp2
      go_ret
      exact ⟨⟨by rw [HT.out]; rfl, _, RS.out, fun t1 e => by rw [HT.out] at e; cases e⟩, BF.out⟩
    | true =>
      have gl := RS.out.lt
      by_cases h16 : t.S.length + 1 ≤ 16
      · have i3 := maySignatures_few NF.out (t.S ++ [(X, D)]) (t.S.length + 1) (by unfold Hid; simp) h16 a' c' HA.out
        cases ho : allOk (t.S ++ [(X, D)]) with
        | true =>
          have HT := hid (HQ.out.trans (if_pos ⟨rfl, by rw [hlen]; exact h16, ho⟩))
          have HS := hid ho
          clear HQ ho h16 hlen
          go_wp2_with (go_at_call 55; (refine i3.mono ?_); rintro q w5 ⟨⟨e, rfl, he⟩, b5⟩; unfold SgF at he; (rw [if_pos HS.out] at he); subst he)
          go_ret
          exact ⟨⟨by rw [HT.out]; rfl, _, RS.out.below b5, fun t1 e => by rw [HT.out] at e; exact Option.some.inj e⟩, BF.out.trans (b5.mono (Nat.le_of_lt gl))⟩
        | false =>
          have HT := hid (HQ.out.trans (if_neg fun e => Bool.false_ne_true (ho.symm.trans e.2.2)))
          have HS := hid ho
          clear HQ ho h16 hlen
          go_wp2_with (go_at_call 55; (refine i3.mono ?_); rintro q w5 ⟨⟨e, rfl, he⟩, b5⟩; unfold SgF at he; (rw [if_neg (by rw [HS.out]; exact Bool.false_ne_true)] at he); obtain ⟨t9, rfl⟩ := he; unfold FV)
          go_ret
          exact ⟨⟨by rw [HT.out]; rfl, _, RS.out.below b5, fun t1 e => by rw [HT.out] at e; cases e⟩, BF.out.trans (b5.mono (Nat.le_of_lt gl))⟩
      · have i3 := maySignatures_many NF.out a' (t.S.length + 1) c' h16 (by omega)
        have HT := hid (HQ.out.trans (if_neg fun e => h16 (by rw [← hlen]; exact e.2.1)))
        clear HQ h16 hlen
        unfold FV at i3
        go_wp2_with (go_at_call 55; (refine i3.mono ?_); rintro q w5 ⟨⟨t9, rfl⟩, b5⟩)
        go_ret
        exact ⟨⟨by rw [HT.out]; rfl, _, RS.out.below b5, fun t1 e => by rw [HT.out] at e; cases e⟩, BF.out.trans (b5.mono (Nat.le_of_lt gl))⟩
  · go_simp
    clear hHeld
    refine hK.out _ _ ?hSC7 (fun hHeld => ?restC7)
    case hSC7 => exact ⟨d11, d12⟩
    clear hK K
    try simp only [Act.put, List.setIfInBounds_toArray, List.set_cons_zero, List.set_cons_succ]
    refine wpAnyH_ready (rs := [5]) (by kernel_rfl) (by simp) ?_
    refine AllReadyH.cons (o := ⟨some 70, _, _, _, _, _⟩) rfl (fun K hK => ?_) AllReadyH.nil
    go_simp
    clear hHeld
    refine hK.out _ _ ?hSC5 (fun hHeld => ?restC5)
    case hSC5 => exact ⟨d11, d12⟩
    clear hK K
    try simp only [Act.put, List.setIfInBounds_toArray, List.set_cons_zero, List.set_cons_succ]
    refine wpAnyH_ready (rs := [8]) (by kernel_rfl) (by simp) ?_
    refine AllReadyH.cons (o := ⟨some 73, _, _, _, _, _⟩) rfl (fun K hK => ?_) AllReadyH.nil
    refine step_app22 rfl _ _ 24 rfl v (.slice (some ⟨wa.heap.size, 0, none⟩) 1 1) _ wb ?hs ?hx hap ?_
    case hs => go_simp
    case hx => go_simp
    clear hHeld
    refine hK.out _ _ ?hSC8 (fun hHeld => ?restC8)
    case hSC8 => exact ⟨d21, d22⟩
    clear hK K
    try simp only [Act.put, List.setIfInBounds_toArray, List.set_cons_zero, List.set_cons_succ]
    refine wpAnyH_take (i := 9) (oi := ⟨some 74, _, _, _, _, _⟩) (v := ?vC9) rfl (by kernel_rfl) (by kernel_rfl) (by kernel_rfl) (fun _ _ _ h => h) (Or.inl ⟨by rfl, ?hyC9⟩) (by assumption) ?restC9
    case hyC9 => (intro w hSw; (try dsimp only at hSw); go_simp <;> (try with_reducible rfl))
    try simp only [Act.put, List.setIfInBounds_toArray, List.set_cons_zero, List.set_cons_succ]
    refine wpAnyH_take (i := 10) (oi := ⟨some 75, _, _, _, _, _⟩) (v := ?vC10) rfl (by kernel_rfl) (by kernel_rfl) (by kernel_rfl) (fun _ _ _ h => h) (Or.inl ⟨by rfl, ?hyC10⟩) (by assumption) ?restC10
    case hyC10 => (intro w hSw; (try dsimp only at hSw); go_simp <;> (try with_reducible rfl))
    try simp only [Act.put, List.setIfInBounds_toArray, List.set_cons_zero, List.set_cons_succ]
    refine wpAnyH_take (i := 11) (oi := ⟨some 76, _, _, _, _, _⟩) (v := ?vC11) rfl (by kernel_rfl) (by kernel_rfl) (by kernel_rfl) (fun _ _ _ h => h) (Or.inl ⟨by rfl, ?hyC11⟩) (by assumption) ?restC11
    case hyC11 => (intro w hSw; (try dsimp only at hSw); go_simp <;> (try with_reducible rfl))
    try simp only [Act.put, List.setIfInBounds_toArray, List.set_cons_zero, List.set_cons_succ]
    refine wpAnyH_ready (rs := [12]) (by kernel_rfl) (by simp) ?_
    refine AllReadyH.cons (o := ⟨none, _, _, _, _, _⟩) rfl (fun K hK => ?_) AllReadyH.nil
    go_simp
    clear hHeld
    refine hK.out _ _ ?hSC12 (fun hHeld => ?restC12)
    case hSC12 => exact ⟨d31, d32⟩
    clear hK K
    try simp only [Act.put, List.setIfInBounds_toArray, List.set_cons_zero, List.set_cons_succ]
    refine wpAnyH_done (by kernel_rfl) ?_ _
    refine NoPanic.normal ?_
    clear hHeld d01 d02 d11 d12 d21 d22 d31 d32 hap fz cb ca cl
    generalize wb.setCell ⟨g, 3, none⟩ (.slice a' (t.S.length + 1) c') = wf at *
    cases b with
    | false =>
      have HT := hid (HQ.out.trans (if_neg fun e => Bool.false_ne_true e.1))
      clear HQ
      go_wp2
      go_ret
      exact ⟨⟨by rw [HT.out]; rfl, _, RS.out, fun t1 e => by rw [HT.out] at e; cases e⟩, BF.out⟩
    | true =>
      have gl := RS.out.lt
      by_cases h16 : t.S.length + 1 ≤ 16
      · have i3 := maySignatures_few NF.out (t.S ++ [(X, D)]) (t.S.length + 1) (by unfold Hid; simp) h16 a' c' HA.out
        cases ho : allOk (t.S ++ [(X, D)]) with
        | true =>
          have HT := hid (HQ.out.trans (if_pos ⟨rfl, by rw [hlen]; exact h16, ho⟩))
          have HS := hid ho
          clear HQ ho h16 hlen
          go_wp2_with (go_at_call 55; (refine i3.mono ?_); rintro q w5 ⟨⟨e, rfl, he⟩, b5⟩; unfold SgF at he; (rw [if_pos HS.out] at he); subst he)
          go_ret
          exact ⟨⟨by rw [HT.out]; rfl, _, RS.out.below b5, fun t1 e => by rw [HT.out] at e; exact Option.some.inj e⟩, BF.out.trans (b5.mono (Nat.le_of_lt gl))⟩
        | false =>
          have HT := hid (HQ.out.trans (if_neg fun e => Bool.false_ne_true (ho.symm.trans e.2.2)))
          have HS := hid ho
          clear HQ ho h16 hlen
          go_wp2_with (go_at_call 55; (refine i3.mono ?_); rintro q w5 ⟨⟨e, rfl, he⟩, b5⟩; unfold SgF at he; (rw [if_neg (by rw [HS.out]; exact Bool.false_ne_true)] at he); obtain ⟨t9, rfl⟩ := he; unfold FV)
          go_ret
          exact ⟨⟨by rw [HT.out]; rfl, _, RS.out.below b5, fun t1 e => by rw [HT.out] at e; cases e⟩, BF.out.trans (b5.mono (Nat.le_of_lt gl))⟩
      · have i3 := maySignatures_many NF.out a' (t.S.length + 1) c' h16 (by omega)
        have HT := hid (HQ.out.trans (if_neg fun e => h16 (by rw [← hlen]; exact e.2.1)))
        clear HQ h16 hlen
        unfold FV at i3
        go_wp2_with (go_at_call 55; (refine i3.mono ?_); rintro q w5 ⟨⟨t9, rfl⟩, b5⟩)
        go_ret
        exact ⟨⟨by rw [HT.out]; rfl, _, RS.out.below b5, fun t1 e => by rw [HT.out] at e; cases e⟩, BF.out.trans (b5.mono (Nat.le_of_lt gl))⟩
end Nt
end Go.Proofs.YtdbbemcddhgbcaaGreatDoor
